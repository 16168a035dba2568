import PyProof.Rows.All
import Wide.All
import OpenK.AllK
import Wide.FinOn
import Lean
import PyProof.EqAt
import PyProof.EqKinds
import PyProof.TupleCall
import PyProof.Rows.ListRangeD
import KE.LcSums
import KE.KRevSl
import PyProof.Rows.SetFrom
import PySem.Challenge.RW_treeasks_k43_whole_prices_show_the_share
set_option Elab.async false
set_option linter.all false
set_option maxRecDepth 100000
set_option genSizeOf false
set_option maxHeartbeats 4000000
set_option exponentiation.threshold 9000
noncomputable section
theorem PySem.W.Fast.te4799563180971763021:True:=trivial
def PySem.W.Fast.tw4799563180971763021:Nat:=0
theorem PySem.W.Fast.te355303391053312878:True:=trivial
def PySem.W.Fast.tw355303391053312878:Nat:=0
def PySem.W.Fast.tw9530589642848679721:PySem.Program:=PySem.Challenge.pw_treeasks_k43_whole_prices_show_the_share
theorem PySem.W.Fast.te9530589642848679721:PySem.Challenge.pw_treeasks_k43_whole_prices_show_the_share = PySem.W.Fast.tw9530589642848679721:=rfl
def PySem.W.Fast.tw11352390751377346026 : List PySem.Stmt := ((PySem.Challenge.pw_treeasks_k43_whole_prices_show_the_share.main.body.drop 3).take 1)
theorem PySem.W.Fast.te11352390751377346026 : ((PySem.Challenge.pw_treeasks_k43_whole_prices_show_the_share.main.body.drop 3).take 1) = PySem.W.Fast.tw11352390751377346026 := rfl
def PySem.W.Fast.tw12545386757442757759 : List PySem.Stmt := ((PySem.Challenge.pw_treeasks_k43_whole_prices_show_the_share.main.body.drop 76).take 5)
theorem PySem.W.Fast.te12545386757442757759 : ((PySem.Challenge.pw_treeasks_k43_whole_prices_show_the_share.main.body.drop 76).take 5) = PySem.W.Fast.tw12545386757442757759 := rfl
def PySem.W.Fast.tw9192083383210841007 : List PySem.Stmt := ((PySem.Challenge.pw_treeasks_k43_whole_prices_show_the_share.main.body.drop 17).take 17)
theorem PySem.W.Fast.te9192083383210841007 : ((PySem.Challenge.pw_treeasks_k43_whole_prices_show_the_share.main.body.drop 17).take 17) = PySem.W.Fast.tw9192083383210841007 := rfl
def PySem.W.Fast.tw9524574264579364470 : List PySem.Stmt := ((PySem.Challenge.pw_treeasks_k43_whole_prices_show_the_share.main.body.drop 6).take 1)
theorem PySem.W.Fast.te9524574264579364470 : ((PySem.Challenge.pw_treeasks_k43_whole_prices_show_the_share.main.body.drop 6).take 1) = PySem.W.Fast.tw9524574264579364470 := rfl
def PySem.W.Fast.tw864008507366776894 : List PySem.Stmt := ((PySem.Challenge.pw_treeasks_k43_whole_prices_show_the_share.main.body.drop 2).take 1)
theorem PySem.W.Fast.te864008507366776894 : ((PySem.Challenge.pw_treeasks_k43_whole_prices_show_the_share.main.body.drop 2).take 1) = PySem.W.Fast.tw864008507366776894 := rfl
def PySem.W.Fast.tw7095460438488442410 : List PySem.Stmt := ((PySem.Challenge.pw_treeasks_k43_whole_prices_show_the_share.main.body.drop 48).take 15)
theorem PySem.W.Fast.te7095460438488442410 : ((PySem.Challenge.pw_treeasks_k43_whole_prices_show_the_share.main.body.drop 48).take 15) = PySem.W.Fast.tw7095460438488442410 := rfl
def PySem.W.Fast.tw5719565719861964738 : List PySem.Stmt := ((PySem.Challenge.pw_treeasks_k43_whole_prices_show_the_share.main.body.drop 8).take 9)
theorem PySem.W.Fast.te5719565719861964738 : ((PySem.Challenge.pw_treeasks_k43_whole_prices_show_the_share.main.body.drop 8).take 9) = PySem.W.Fast.tw5719565719861964738 := rfl
def PySem.W.Fast.tw16683998201187436563 : PySem.Program := ({ PySem.Challenge.pw_treeasks_k43_whole_prices_show_the_share with main := { PySem.Challenge.pw_treeasks_k43_whole_prices_show_the_share.main with body := (PySem.Challenge.pw_treeasks_k43_whole_prices_show_the_share.main.body.drop 1).take 8 ++ (PySem.Challenge.pw_treeasks_k43_whole_prices_show_the_share.main.body.drop 10).take 4 ++ (PySem.Challenge.pw_treeasks_k43_whole_prices_show_the_share.main.body.drop 15).take 6 ++ (PySem.Challenge.pw_treeasks_k43_whole_prices_show_the_share.main.body.drop 22).take 5 ++ (PySem.Challenge.pw_treeasks_k43_whole_prices_show_the_share.main.body.drop 28).take 5 ++ (PySem.Challenge.pw_treeasks_k43_whole_prices_show_the_share.main.body.drop 34).take 5 ++ (PySem.Challenge.pw_treeasks_k43_whole_prices_show_the_share.main.body.drop 40).take 7 ++ (PySem.Challenge.pw_treeasks_k43_whole_prices_show_the_share.main.body.drop 48).take 5 ++ (PySem.Challenge.pw_treeasks_k43_whole_prices_show_the_share.main.body.drop 54).take 3 ++ (PySem.Challenge.pw_treeasks_k43_whole_prices_show_the_share.main.body.drop 58).take 4 ++ (PySem.Challenge.pw_treeasks_k43_whole_prices_show_the_share.main.body.drop 63).take 3 ++ (PySem.Challenge.pw_treeasks_k43_whole_prices_show_the_share.main.body.drop 67).take 14 } } : PySem.Program)
theorem PySem.W.Fast.te16683998201187436563 : ({ PySem.Challenge.pw_treeasks_k43_whole_prices_show_the_share with main := { PySem.Challenge.pw_treeasks_k43_whole_prices_show_the_share.main with body := (PySem.Challenge.pw_treeasks_k43_whole_prices_show_the_share.main.body.drop 1).take 8 ++ (PySem.Challenge.pw_treeasks_k43_whole_prices_show_the_share.main.body.drop 10).take 4 ++ (PySem.Challenge.pw_treeasks_k43_whole_prices_show_the_share.main.body.drop 15).take 6 ++ (PySem.Challenge.pw_treeasks_k43_whole_prices_show_the_share.main.body.drop 22).take 5 ++ (PySem.Challenge.pw_treeasks_k43_whole_prices_show_the_share.main.body.drop 28).take 5 ++ (PySem.Challenge.pw_treeasks_k43_whole_prices_show_the_share.main.body.drop 34).take 5 ++ (PySem.Challenge.pw_treeasks_k43_whole_prices_show_the_share.main.body.drop 40).take 7 ++ (PySem.Challenge.pw_treeasks_k43_whole_prices_show_the_share.main.body.drop 48).take 5 ++ (PySem.Challenge.pw_treeasks_k43_whole_prices_show_the_share.main.body.drop 54).take 3 ++ (PySem.Challenge.pw_treeasks_k43_whole_prices_show_the_share.main.body.drop 58).take 4 ++ (PySem.Challenge.pw_treeasks_k43_whole_prices_show_the_share.main.body.drop 63).take 3 ++ (PySem.Challenge.pw_treeasks_k43_whole_prices_show_the_share.main.body.drop 67).take 14 } } : PySem.Program) = PySem.W.Fast.tw16683998201187436563 := rfl
def PySem.W.Fast.tw14234576158141418960 : List PySem.Stmt := ((PySem.Challenge.pw_treeasks_k43_whole_prices_show_the_share.main.body.drop 34).take 14)
theorem PySem.W.Fast.te14234576158141418960 : ((PySem.Challenge.pw_treeasks_k43_whole_prices_show_the_share.main.body.drop 34).take 14) = PySem.W.Fast.tw14234576158141418960 := rfl
def PySem.W.Fast.tw14765104624976278571 : List PySem.Stmt := ((PySem.Challenge.pw_treeasks_k43_whole_prices_show_the_share.main.body.drop 4).take 1)
theorem PySem.W.Fast.te14765104624976278571 : ((PySem.Challenge.pw_treeasks_k43_whole_prices_show_the_share.main.body.drop 4).take 1) = PySem.W.Fast.tw14765104624976278571 := rfl
def PySem.W.Fast.tw17565275985025720239 : List PySem.Stmt := ((PySem.Challenge.pw_treeasks_k43_whole_prices_show_the_share.main.body.drop 0).take 2)
theorem PySem.W.Fast.te17565275985025720239 : ((PySem.Challenge.pw_treeasks_k43_whole_prices_show_the_share.main.body.drop 0).take 2) = PySem.W.Fast.tw17565275985025720239 := rfl
def PySem.W.Fast.tw14090476726980396354 : List PySem.Stmt := ((PySem.Challenge.pw_treeasks_k43_whole_prices_show_the_share.main.body.drop 63).take 13)
theorem PySem.W.Fast.te14090476726980396354 : ((PySem.Challenge.pw_treeasks_k43_whole_prices_show_the_share.main.body.drop 63).take 13) = PySem.W.Fast.tw14090476726980396354 := rfl
def PySem.W.Fast.tw318942998832872366 : List PySem.Stmt := ((PySem.Challenge.pw_treeasks_k43_whole_prices_show_the_share.main.body.drop 5).take 1)
theorem PySem.W.Fast.te318942998832872366 : ((PySem.Challenge.pw_treeasks_k43_whole_prices_show_the_share.main.body.drop 5).take 1) = PySem.W.Fast.tw318942998832872366 := rfl
def PySem.W.Fast.tw5891723058580393512 : List PySem.Stmt := ((PySem.Challenge.pw_treeasks_k43_whole_prices_show_the_share.main.body.drop 7).take 1)
theorem PySem.W.Fast.te5891723058580393512 : ((PySem.Challenge.pw_treeasks_k43_whole_prices_show_the_share.main.body.drop 7).take 1) = PySem.W.Fast.tw5891723058580393512 := rfl
namespace Ob
noncomputable section
open PySem
open PySem.Str renaming ofString → S
open PySem.Value renaming str → v, ref → r, int → i, none → n
abbrev F := Params → Obj
noncomputable def d (P : Params) (s : Str) (t : Tok) (w : Value) : DictEntry := ⟨PyData.keyHash P s, .str s t, w⟩
noncomputable def g (k : Nat) (q : Str → Str) : FuncData := match PySem.Challenge.pw_treeasks_k43_whole_prices_show_the_share.main.body[k]? with
  | some (.FunctionDef a b c _ _ _ s _ _ _) => ⟨a,q a,b,.stmts c,s,0,[],n,n,n,n,none,n,n,0⟩
  | some (.ClassDef _ _ _ (.FunctionDef a b c _ _ _ s _ _ _ :: _) _ _ _ _ _ _ _) => ⟨a,q a,b,.stmts c,s,0,[],n,n,n,n,none,n,n,0⟩
  | _ => default
noncomputable def x (k : Nat) : F := fun _ => ⟨n,none,.func (g k id),#[]⟩
noncomputable def X (k : Nat) (q : Str) : F := fun _ => ⟨n,none,.func (g k fun _ => q),#[]⟩
noncomputable def y (k : Nat) (m c : Value) : F := fun _ => ⟨.type "function",none,.func { g k id with globals := 3, pyModule := m, code := c },#[]⟩
noncomputable def Y (k : Nat) (q : Str) (m c : Value) : F := fun _ => ⟨.type "function",none,.func { g k (fun _ => q) with globals := 3, pyModule := m, code := c },#[]⟩
noncomputable def u (l : List Value) : F := fun _ => ⟨.type "tuple",none,.seq l.toArray 0,#[]⟩
noncomputable def z (l : List Value) : F := fun _ => ⟨n,none,.fields l.toArray,#[]⟩
noncomputable def V (s : String) (t : Tok) : Value := v (S s) t
noncomputable def q (s : String) (t1 t2 t3 : Tok) (l a b c e : Int) (r1 : Addr) (m : Int) (r2 r3 r4 r5 : Addr) (t : Int) (t4 : Tok) : F := fun _ => ⟨.type "code",none,.fields #[v (S s) t1,v (S s) t2,v (S "/claim/cut.py") t3,i l 0,i a 0,i b 0,i c 0,i e 0,r r1,.bool true,i m 0,r r2,n,r r3,r r4,r r5,i t 0,i l 0,v (S "/claim/cut.py") t4],#[]⟩
noncomputable def k (l : List Value) : F := fun _ => ⟨.type "code",none,.fields l.toArray,#[]⟩
noncomputable def w (f : F) (a b : Params → W.BT) : Params → W.BT := fun P => .node (f P) (a P) (b P)
noncomputable def e : Params → W.BT := fun _ => .nil
noncomputable def o (f : F) : Params → W.BT := w f e e
def A232:F:=fun P=>⟨(.type "dict"),none,(.dict #[(d P (S "__name__") 165 (v (S "treeasks.ways") 516)),(d P (S "__doc__") 166 n),(d P (S "__package__") 167 n),(d P (S "__loader__") 168 (.builtin "__main__.__loader__#opaque")),(d P (S "__spec__") 169 n),(d P (S "__annotations__") 170 (r 6)),(d P (S "__builtins__") 171 (r 4)),(d P (S "__file__") 173 (v (S "/claim/cut.py") 172)),(d P (S "__cached__") 174 n),(d P (S "AskError") 206 (r 24)),(d P (S "NoTree") 233 (r 44)),(d P (S "NoAsks") 258 (r 63)),(d P (S "NoKeep") 283 (r 82)),(d P (S "NoPrices") 308 (r 101)),(d P (S "NoShare") 333 (r 120)),(d P (S "NoNumber") 349 (r 132)),(d P (S "NoPlace") 365 (r 144)),(d P (S "is_whole") 374 (r 153)),(d P (S "is_between") 383 (r 160)),(d P (S "greatest_common") 391 (r 167)),(d P (S "is_fraction") 400 (r 174)),(d P (S "MOST_TIES") 404 (i 23 403)),(d P (S "MOST_ROOM") 406 (i 1000000 405)),(d P (S "has_two_lists") 415 (r 181)),(d P (S "look_at_tree") 427 (r 188)),(d P (S "is_place") 435 (r 195)),(d P (S "are_ends") 444 (r 202)),(d P (S "MOST_ASKS") 448 (i 30 447)),(d P (S "MOST_SIZE") 450 (i 1000000 449)),(d P (S "MOST_WORTH") 452 (i 1000000000000 451)),(d P (S "is_ask") 464 (r 209)),(d P (S "look_at_asks") 474 (r 216)),(d P (S "fraction") 485 (r 223)),(d P (S "minus") 493 (r 230)),(d P (S "times") 501 (r 237)),(d P (S "sum_of") 507 (r 242)),(d P (S "under") 515 (r 249))] 37),#[]⟩
def a00:F:=u [(.type "ValueError")]
def a01:F:=u []
def a02:F:=fun P=>⟨(.type "type"),none,(.cls ⟨(S "NoAsks"),[(r 24)],[(r 63),(r 24),(.type "ValueError"),(.type "Exception"),(.type "BaseException"),(.type "object")],62,(S "NoAsks"),.true,[],[],.false,none,.false⟩),#[(some (r 47)),none,(some (V "NoAsks" 234)),(some (V "NoAsks" 242)),(some (.builtin "ValueError.__new__")),(some (.bool .true))]⟩
def a03:F:=z []
def a04:F:=u [(V "tree" 431),(V "thing" 432)]
def a05:F:=u []
def a06:F:=q "is_between" 375 376 377 37 3 0 0 3 154 181 155 156 157 158 381 382
def a07:F:=y 28 (V "treeasks.fractions" 475) (r 222)
def a08:F:=u [(r 24)]
def a09:F:=Y 4 (S "NoKeep.__init__") (V "treeasks.errors" 187) (r 78)
def a0a:F:=fun P=>⟨(.type "dict"),none,(.dict #[(d P (S "__module__") 357 (v (S "treeasks.errors") 187)),(d P (S "__firstlineno__") 361 (i 32 360)),(d P (S "__static_attributes__") 362 (r 142)),(d P (S "__doc__") 363 n)] 2),#[]⟩
def a0b:F:=x 25
def a0c:F:=u []
def a0d:F:=u []
def a0e:F:=z []
def a0f:F:=fun P=>⟨(.type "dict"),none,(.dict #[(d P (S "__module__") 196 (v (S "treeasks.errors") 187)),(d P (S "__firstlineno__") 200 (i 2 199)),(d P (S "__static_attributes__") 201 (r 22)),(d P (S "__weakref__") 203 (r 25)),(d P (S "__doc__") 204 n)] 3),#[]⟩
def a0g:F:=X 2 (S "NoTree.__init__")
def a0h:F:=k [(V "NoKeep" 261),(V "NoKeep" 262),(V "/claim/cut.py" 263),(i 15 0),(i 0 0),(i 0 0),(i 0 0),(i 0 0),(r 69),(.bool .false),(i 181 0),(r 70),n,n,n,n,(i 264 0),(i 15 0),(V "/claim/cut.py" 265)]
def a0i:F:=u [(r 24)]
def a0j:F:=u []
def a0k:F:=fun P=>⟨(.type "builtin_function_or_method"),none,(.fields #[(.builtin "object.__init_subclass__"),(r 101)]),#[]⟩
def a0l:F:=y 12 (V "treeasks.numbers" 366) (r 166)
def a0m:F:=u []
def a0n:F:=z []
def a0o:F:=fun P=>⟨(.type "dict"),none,(.dict #[(d P (S "__module__") 291 (v (S "treeasks.errors") 187)),(d P (S "__qualname__") 293 (v (S "NoPrices") 292)),(d P (S "__firstlineno__") 295 (i 20 294)),(d P (S "__init__") 303 (r 98)),(d P (S "__static_attributes__") 305 (r 99))] 5),#[]⟩
def a0p:F:=x 10
def a0q:F:=q "look_at_asks" 465 466 467 83 2 0 0 3 210 181 211 212 213 214 472 473
def a0r:F:=fun P=>⟨(.type "dict"),none,(.dict #[(d P (S "__module__") 316 (v (S "treeasks.errors") 187)),(d P (S "__firstlineno__") 320 (i 25 319)),(d P (S "__init__") 328 (r 117)),(d P (S "__static_attributes__") 330 (r 118)),(d P (S "__doc__") 331 n)] 2),#[]⟩
def a0s:F:=z []
def a0t:F:=x 32
def a0u:F:=u []
def a0v:F:=z []
def a0w:F:=u []
def a0x:F:=fun P=>⟨(.type "builtin_function_or_method"),none,(.fields #[(.builtin "type.__prepare__"),(.type "type")]),#[]⟩
def a0y:F:=fun P=>⟨(.type "dict"),none,(.dict #[(d P (S "__module__") 341 (v (S "treeasks.errors") 187)),(d P (S "__firstlineno__") 345 (i 30 344)),(d P (S "__static_attributes__") 346 (r 130)),(d P (S "__doc__") 347 n)] 2),#[]⟩
def a0z:F:=y 19 (V "treeasks.trees" 401) (r 194)
def a10:F:=u [(V "number" 304)]
def a11:F:=u [(V "number" 387),(V "bottom" 388)]
def a12:F:=u []
def a13:F:=z [(i 12 0),(i 4 0),(r 59)]
def a14:F:=fun P=>⟨(.type "super"),none,(.fields #[(r 82),(r 82),(r 82)]),#[]⟩
def a15:F:=u []
def a16:F:=z []
def a17:F:=X 6 (S "NoShare.__init__")
def a18:F:=x 17
def a19:F:=u []
def a1a:F:=fun P=>⟨(.type "builtin_function_or_method"),none,(.fields #[(.builtin "object.__init_subclass__"),(r 24)]),#[]⟩
def a1b:F:=fun P=>⟨(.type "dict"),none,(.dict #[(d P (S "__module__") 214 (v (S "treeasks.errors") 187)),(d P (S "__firstlineno__") 218 (i 4 217)),(d P (S "__init__") 227 (r 41)),(d P (S "__static_attributes__") 230 (r 42)),(d P (S "__doc__") 231 n)] 2),#[]⟩
def a1c:F:=u [(V "self" 274),(V "number" 275)]
def a1d:F:=z []
def a1e:F:=u []
def a1f:F:=u []
def a1g:F:=u []
def a1h:F:=x 30
def a1i:F:=k [(V "__init__" 246),(V "NoAsks.__init__" 247),(V "/claim/cut.py" 248),(i 12 0),(i 2 0),(i 0 0),(i 0 0),(i 3 0),(r 54),(.bool .true),(i 181 0),(r 55),n,(r 56),(r 57),(r 58),(i 251 0),(i 12 0),(V "/claim/cut.py" 252)]
def a1j:F:=fun P=>⟨(.type "frame"),none,.plain,#[(some (r 90)),(some (r 3)),(some (r 87)),none,(some (V "treeasks.errors" 187)),none,(some (r 0))]⟩
def a1k:F:=z []
def a1l:F:=u [(V "top" 480),(V "bottom" 481),(V "common" 482)]
def a1m:F:=u [(r 24)]
def a1n:F:=q "look_at_tree" 416 417 418 60 1 0 0 3 182 181 183 184 185 186 425 426
def a1o:F:=fun P=>⟨(.type "dict"),none,(.dict #[(d P (S "__module__") 196 (v (S "treeasks.errors") 187)),(d P (S "__qualname__") 198 (v (S "AskError") 197)),(d P (S "__firstlineno__") 200 (i 2 199)),(d P (S "__static_attributes__") 201 (r 22))] 4),#[]⟩
def a1p:F:=k [(V "NoTree" 209),(V "NoTree" 210),(V "/claim/cut.py" 211),(i 4 0),(i 0 0),(i 0 0),(i 0 0),(i 0 0),(r 31),(.bool .false),(i 181 0),(r 32),n,n,n,n,(i 212 0),(i 4 0),(V "/claim/cut.py" 213)]
def a1q:F:=fun P=>⟨(.type "builtin_function_or_method"),none,(.fields #[(.builtin "object.__init_subclass__"),(r 63)]),#[]⟩
def a1r:F:=fun P=>⟨(.type "frame"),none,.plain,#[(some (r 128)),(some (r 3)),(some (r 125)),none,(some (V "treeasks.errors" 187)),none,(some (r 0))]⟩
def a1s:F:=x 19
def a1t:F:=k [(V "__init__" 296),(V "NoPrices.__init__" 297),(V "/claim/cut.py" 298),(i 22 0),(i 2 0),(i 0 0),(i 0 0),(i 3 0),(r 92),(.bool .true),(i 181 0),(r 93),n,(r 94),(r 95),(r 96),(i 301 0),(i 22 0),(V "/claim/cut.py" 302)]
def a1u:F:=u []
def a1v:F:=z []
def a1w:F:=fun P=>⟨(.type "dict"),none,(.dict #[(d P (S "__module__") 241 (v (S "treeasks.errors") 187)),(d P (S "__qualname__") 243 (v (S "NoAsks") 242)),(d P (S "__firstlineno__") 245 (i 10 244)),(d P (S "__init__") 253 (r 60)),(d P (S "__static_attributes__") 255 (r 61))] 5),#[]⟩
def a1x:F:=fun P=>⟨(.type "dict"),none,(.dict #[(d P (S "__module__") 266 (v (S "treeasks.errors") 187)),(d P (S "__firstlineno__") 270 (i 15 269)),(d P (S "__init__") 278 (r 79)),(d P (S "__static_attributes__") 280 (r 80)),(d P (S "__doc__") 281 n)] 2),#[]⟩
def a1y:F:=fun P=>⟨(.type "super"),none,(.fields #[(r 144),(r 144),(r 144)]),#[]⟩
def a1z:F:=y 25 (V "treeasks.asks" 445) (r 208)
def a20:F:=u [(V "self" 324),(V "number" 325)]
def a21:F:=u [(V "thing" 410),(V "parents" 411),(V "rooms" 412)]
def a22:F:=k [(V "sum_of" 502),(V "sum_of" 503),(V "/claim/cut.py" 504),(i 104 0),(i 1 0),(i 0 0),(i 0 0),(i 3 0),(r 238),(.bool .true),(i 181 0),(r 239),n,n,n,(r 240),(i 505 0),(i 104 0),(V "/claim/cut.py" 506)]
def a23:F:=fun P=>⟨(.type "getset_descriptor"),none,(.fields #[(V "__weakref__" 202),(r 24),(.builtin "ExceptionGroup.__weakref__"),n]),#[]⟩
def a24:F:=Y 2 (S "NoTree.__init__") (V "treeasks.errors" 187) (r 40)
def a25:F:=u []
def a26:F:=fun P=>⟨(.type "dict"),none,(.dict #[(d P (S "__module__") 357 (v (S "treeasks.errors") 187)),(d P (S "__qualname__") 359 (v (S "NoPlace") 358)),(d P (S "__firstlineno__") 361 (i 32 360)),(d P (S "__static_attributes__") 362 (r 142))] 4),#[]⟩
def a27:F:=q "are_ends" 436 437 438 72 3 0 0 3 196 181 197 198 199 200 442 443
def a28:F:=fun P=>⟨(.type "builtin_function_or_method"),none,(.fields #[(.builtin "type.__prepare__"),(.type "type")]),#[]⟩
def a29:F:=z []
def a2a:F:=u [(V "one" 497),(V "other" 498)]
def a2b:F:=u []
def a2c:F:=z [(i 22 0),(i 4 0),(r 97)]
def a2d:F:=y 10 (V "treeasks.numbers" 366) (r 152)
def a2e:F:=u []
def a2f:F:=fun P=>⟨(.type "super"),none,(.fields #[(r 120),(r 120),(r 120)]),#[]⟩
def a2g:F:=u []
def a2h:F:=y 32 (V "treeasks.fractions" 475) (r 248)
def a2i:F:=k [(V "<module>" 182),(V "<module>" 183),(V "/claim/cut.py" 184),(i 1 0),(i 0 0),(i 0 0),(i 0 0),(i 0 0),(r 11),(.bool .false),(i 181 0),(r 12),n,n,n,n,(i 185 0),(i 1 0),(V "/claim/cut.py" 186)]
def a2j:F:=fun P=>⟨(.type "frame"),none,.plain,#[(some (r 20)),(some (r 3)),(some (r 17)),none,(some (V "treeasks.errors" 187)),none,(some (r 0))]⟩
def a2k:F:=u [(V "self" 222),(V "part" 223),(V "number" 224)]
def a2l:F:=u []
def a2m:F:=fun P=>⟨(.type "super"),none,(.fields #[(r 132),(r 132),(r 132)]),#[]⟩
def a2n:F:=z []
def a2o:F:=fun P=>⟨(.type "type"),none,(.cls ⟨(S "NoPrices"),[(r 24)],[(r 101),(r 24),(.type "ValueError"),(.type "Exception"),(.type "BaseException"),(.type "object")],100,(S "NoPrices"),.true,[],[],.false,none,.false⟩),#[(some (r 85)),none,(some (V "NoPrices" 284)),(some (V "NoPrices" 292)),(some (.builtin "ValueError.__new__")),(some (.bool .true))]⟩
def a2p:F:=x 12
def a2q:F:=q "minus" 486 487 488 100 2 0 0 3 224 181 225 226 227 228 491 492
def a2r:F:=fun P=>⟨(.type "frame"),none,.plain,#[(some (r 52)),(some (r 3)),(some (r 49)),none,(some (V "treeasks.errors" 187)),none,(some (r 0))]⟩
def a2s:F:=u [(r 24)]
def a2t:F:=u [(V "thing" 371)]
def a2u:F:=u []
def a2v:F:=Y 6 (S "NoShare.__init__") (V "treeasks.errors" 187) (r 116)
def a2w:F:=y 17 (V "treeasks.trees" 401) (r 180)
def a2x:F:=u [(V "one" 511),(V "other" 512)]
def a2y:F:=fun P=>⟨(.type "builtin_function_or_method"),none,(.fields #[(.builtin "type.__prepare__"),(.type "type")]),#[]⟩
def a2z:F:=fun P=>⟨(.type "super"),none,(.fields #[(r 44),(r 44),(r 44)]),#[]⟩
def a30:F:=X 4 (S "NoKeep.__init__")
def a31:F:=fun P=>⟨(.type "frame"),none,.plain,#[(some (r 140)),(some (r 3)),(some (r 137)),none,(some (V "treeasks.errors" 187)),none,(some (r 0))]⟩
def a32:F:=u [(V "tree" 456),(V "thing" 457),(V "one" 458),(V "other" 459),(V "size" 460),(V "worth" 461)]
def a33:F:=k [(V "NoShare" 311),(V "NoShare" 312),(V "/claim/cut.py" 313),(i 25 0),(i 0 0),(i 0 0),(i 0 0),(i 0 0),(r 107),(.bool .false),(i 181 0),(r 108),n,n,n,n,(i 314 0),(i 25 0),(V "/claim/cut.py" 315)]
def a34:F:=q "is_fraction" 392 393 394 43 1 0 0 3 168 181 169 170 171 172 398 399
def a35:F:=y 30 (V "treeasks.fractions" 475) (r 236)
def a36:F:=u [(V "number" 254)]
def a37:F:=z []
def a38:F:=u []
def a39:F:=x 28
def a3a:F:=fun P=>⟨(.type "dict"),none,(.dict #[(d P (S "__module__") 341 (v (S "treeasks.errors") 187)),(d P (S "__qualname__") 343 (v (S "NoNumber") 342)),(d P (S "__firstlineno__") 345 (i 30 344)),(d P (S "__static_attributes__") 346 (r 130))] 4),#[]⟩
def a3b:F:=u []
def a3c:F:=fun P=>⟨(.type "builtin_function_or_method"),none,(.fields #[(.builtin "type.__prepare__"),(.type "type")]),#[]⟩
def a3d:F:=z [(i 6 0),(i 4 0),(r 40)]
def a3e:F:=fun P=>⟨(.type "super"),none,(.fields #[(r 63),(r 63),(r 63)]),#[]⟩
def a3f:F:=k [(V "NoNumber" 336),(V "NoNumber" 337),(V "/claim/cut.py" 338),(i 30 0),(i 0 0),(i 0 0),(i 0 0),(i 0 0),(r 126),(.bool .false),(i 181 0),(r 127),n,n,n,n,(i 339 0),(i 30 0),(V "/claim/cut.py" 340)]
def a3g:F:=u []
def a3h:F:=X 5 (S "NoPrices.__init__")
def a3i:F:=y 11 (V "treeasks.numbers" 366) (r 159)
def a3j:F:=u []
def a3k:F:=fun P=>⟨(.type "builtin_function_or_method"),none,(.fields #[(.builtin "type.__prepare__"),(.type "type")]),#[]⟩
def a3l:F:=u [(V "number" 279)]
def a3m:F:=fun P=>⟨(.type "type"),none,(.cls ⟨(S "NoPlace"),[(r 24)],[(r 144),(r 24),(.type "ValueError"),(.type "Exception"),(.type "BaseException"),(.type "object")],143,(S "NoPlace"),.true,[],[],.false,none,.false⟩),#[(some (r 135)),none,(some (V "NoPlace" 350)),(some (V "NoPlace" 358)),(some (.builtin "ValueError.__new__")),(some (.bool .true))]⟩
def a3n:F:=q "is_ask" 453 454 455 78 2 0 0 3 203 181 204 205 206 207 462 463
def a3o:F:=z []
def a3p:F:=z []
def a3q:F:=x 31
def a3r:F:=fun P=>⟨(.type "type"),none,(.cls ⟨(S "AskError"),[(.type "ValueError")],[(r 24),(.type "ValueError"),(.type "Exception"),(.type "BaseException"),(.type "object")],23,(S "AskError"),.true,[],[(r 44),(r 63),(r 82),(r 101),(r 120),(r 132),(r 144)],.false,none,.false⟩),#[(some (r 15)),none,(some (V "AskError" 189)),(some (V "AskError" 197)),(some (.builtin "ValueError.__new__")),(some (.bool .true))]⟩
def a3s:F:=k [(V "__init__" 219),(V "NoTree.__init__" 220),(V "/claim/cut.py" 221),(i 6 0),(i 3 0),(i 0 0),(i 0 0),(i 3 0),(r 35),(.bool .true),(i 181 0),(r 36),n,(r 37),(r 38),(r 39),(i 225 0),(i 6 0),(V "/claim/cut.py" 226)]
def a3t:F:=fun P=>⟨(.type "frame"),none,.plain,#[(some (r 71)),(some (r 3)),(some (r 68)),none,(some (V "treeasks.errors" 187)),none,(some (r 0))]⟩
def a3u:F:=fun P=>⟨(.type "builtin_function_or_method"),none,(.fields #[(.builtin "type.__prepare__"),(.type "type")]),#[]⟩
def a3v:F:=x 20
def a3w:F:=u [(r 24)]
def a3x:F:=u []
def a3y:F:=z []
def a3z:F:=u [(V "self" 249),(V "number" 250)]
def a40:F:=u []
def a41:F:=q "is_whole" 368 369 370 35 1 0 0 3 147 181 148 149 150 151 372 373
def a42:F:=y 26 (V "treeasks.asks" 445) (r 215)
def a43:F:=fun P=>⟨(.type "type"),none,(.cls ⟨(S "NoShare"),[(r 24)],[(r 120),(r 24),(.type "ValueError"),(.type "Exception"),(.type "BaseException"),(.type "object")],119,(S "NoShare"),.true,[],[],.false,none,.false⟩),#[(some (r 104)),none,(some (V "NoShare" 309)),(some (V "NoShare" 317)),(some (.builtin "ValueError.__new__")),(some (.bool .true))]⟩
def a44:F:=u [(V "thing" 419),(V "parents" 420),(V "rooms" 421),(V "number" 422),(V "parent" 423),(V "room" 424)]
def a45:F:=q "under" 508 509 510 109 2 0 0 3 243 181 244 245 246 247 513 514
def a46:F:=z [(i 2 0),(i 0 0),(r 20),(i 4 0),(i 0 0),(r 33),(i 10 0),(i 0 0),(r 52),(i 15 0),(i 0 0),(r 71),(i 20 0),(i 0 0),(r 90),(i 25 0),(i 0 0),(r 109),(i 30 0),(i 0 0),(r 128),(i 32 0),(i 0 0),(r 140),(i 35 0),(i 0 0),(r 152),(i 37 0),(i 0 0),(r 159),(i 39 0),(i 0 0),(r 166),(i 43 0),(i 0 0),(r 173),(i 53 0),(i 0 0),(r 180),(i 60 0),(i 0 0),(r 187),(i 70 0),(i 0 0),(r 194),(i 72 0),(i 0 0),(r 201),(i 78 0),(i 0 0),(r 208),(i 83 0),(i 0 0),(r 215),(i 91 0),(i 0 0),(r 222),(i 100 0),(i 0 0),(r 229),(i 102 0),(i 0 0),(r 236),(i 104 0),(i 0 0),(r 241),(i 109 0),(i 0 0),(r 248)]
def a47:F:=k [(V "AskError" 191),(V "AskError" 192),(V "/claim/cut.py" 193),(i 2 0),(i 0 0),(i 0 0),(i 0 0),(i 0 0),(r 18),(.bool .false),(i 181 0),(r 19),n,n,n,n,(i 194 0),(i 2 0),(V "/claim/cut.py" 195)]
def a48:F:=z []
def a49:F:=fun P=>⟨(.type "dict"),none,(.dict #[(d P (S "__module__") 266 (v (S "treeasks.errors") 187)),(d P (S "__qualname__") 268 (v (S "NoKeep") 267)),(d P (S "__firstlineno__") 270 (i 15 269)),(d P (S "__init__") 278 (r 79)),(d P (S "__static_attributes__") 280 (r 80))] 5),#[]⟩
def a4a:F:=fun P=>⟨(.type "type"),none,(.cls ⟨(S "NoNumber"),[(r 24)],[(r 132),(r 24),(.type "ValueError"),(.type "Exception"),(.type "BaseException"),(.type "object")],131,(S "NoNumber"),.true,[],[],.false,none,.false⟩),#[(some (r 123)),none,(some (V "NoNumber" 334)),(some (V "NoNumber" 342)),(some (.builtin "ValueError.__new__")),(some (.bool .true))]⟩
def a4b:F:=u []
def a4c:F:=fun P=>⟨(.type "dict"),none,(.dict #[(d P (S "__module__") 291 (v (S "treeasks.errors") 187)),(d P (S "__firstlineno__") 295 (i 20 294)),(d P (S "__init__") 303 (r 98)),(d P (S "__static_attributes__") 305 (r 99)),(d P (S "__doc__") 306 n)] 2),#[]⟩
def a4d:F:=u []
def a4e:F:=x 29
def a4f:F:=k [(V "NoAsks" 236),(V "NoAsks" 237),(V "/claim/cut.py" 238),(i 10 0),(i 0 0),(i 0 0),(i 0 0),(i 0 0),(r 50),(.bool .false),(i 181 0),(r 51),n,n,n,n,(i 239 0),(i 10 0),(V "/claim/cut.py" 240)]
def a4g:F:=fun P=>⟨(.type "builtin_function_or_method"),none,(.fields #[(.builtin "object.__init_subclass__"),(r 82)]),#[]⟩
def a4h:F:=z []
def a4i:F:=u [(V "tree" 468),(V "thing" 469),(V "number" 470),(V "ask" 471)]
def a4j:F:=k [(V "__init__" 321),(V "NoShare.__init__" 322),(V "/claim/cut.py" 323),(i 27 0),(i 2 0),(i 0 0),(i 0 0),(i 3 0),(r 111),(.bool .true),(i 181 0),(r 112),n,(r 113),(r 114),(r 115),(i 326 0),(i 27 0),(V "/claim/cut.py" 327)]
def a4k:F:=q "has_two_lists" 407 408 409 53 1 0 0 3 175 181 176 177 178 179 413 414
def a4l:F:=z []
def a4m:F:=u [(r 24)]
def a4n:F:=fun P=>⟨(.type "type"),none,(.cls ⟨(S "NoTree"),[(r 24)],[(r 44),(r 24),(.type "ValueError"),(.type "Exception"),(.type "BaseException"),(.type "object")],43,(S "NoTree"),.true,[],[],.false,none,.false⟩),#[(some (r 28)),none,(some (V "NoTree" 207)),(some (V "NoTree" 215)),(some (.builtin "ValueError.__new__")),(some (.bool .true))]⟩
def a4o:F:=u []
def a4p:F:=k [(V "NoPlace" 352),(V "NoPlace" 353),(V "/claim/cut.py" 354),(i 32 0),(i 0 0),(i 0 0),(i 0 0),(i 0 0),(r 138),(.bool .false),(i 181 0),(r 139),n,n,n,n,(i 355 0),(i 32 0),(V "/claim/cut.py" 356)]
def a4q:F:=z []
def a4r:F:=z [(i 27 0),(i 4 0),(r 116)]
def a4s:F:=x 13
def a4t:F:=q "times" 494 495 496 102 2 0 0 3 231 181 232 233 234 235 499 500
def a4u:F:=Y 3 (S "NoAsks.__init__") (V "treeasks.errors" 187) (r 59)
def a4v:F:=u []
def a4w:F:=u [(V "thing" 378),(V "least" 379),(V "most" 380)]
def a4x:F:=u []
def a4y:F:=fun P=>⟨(.type "builtin_function_or_method"),none,(.fields #[(.builtin "type.__prepare__"),(.type "type")]),#[]⟩
def a4z:F:=y 18 (V "treeasks.trees" 401) (r 187)
def a50:F:=u []
def a51:F:=fun P=>⟨(.type "frame"),none,.plain,#[(some (r 33)),(some (r 3)),(some (r 30)),none,(some (V "treeasks.errors" 187)),none,(some (r 0))]⟩
def a52:F:=u [(r 24)]
def a53:F:=u []
def a54:F:=q "is_place" 428 429 430 70 2 0 0 3 189 181 190 191 192 193 433 434
def a55:F:=Y 5 (S "NoPrices.__init__") (V "treeasks.errors" 187) (r 97)
def a56:F:=z []
def a57:F:=u [(V "one" 489),(V "other" 490)]
def a58:F:=u []
def a59:F:=fun P=>⟨(.type "type"),none,(.cls ⟨(S "NoKeep"),[(r 24)],[(r 82),(r 24),(.type "ValueError"),(.type "Exception"),(.type "BaseException"),(.type "object")],81,(S "NoKeep"),.true,[],[],.false,none,.false⟩),#[(some (r 66)),none,(some (V "NoKeep" 259)),(some (V "NoKeep" 267)),(some (.builtin "ValueError.__new__")),(some (.bool .true))]⟩
def a5a:F:=fun P=>⟨(.type "builtin_function_or_method"),none,(.fields #[(.builtin "object.__init_subclass__"),(r 144)]),#[]⟩
def a5b:F:=u []
def a5c:F:=u []
def a5d:F:=u []
def a5e:F:=y 31 (V "treeasks.fractions" 475) (r 241)
def a5f:F:=fun P=>⟨(.type "super"),none,(.fields #[(r 24),(r 24),(r 24)]),#[]⟩
def a5g:F:=u [(V "number" 228),(V "part" 229)]
def a5h:F:=z []
def a5i:F:=u []
def a5j:F:=y 20 (V "treeasks.trees" 401) (r 201)
def a5k:F:=fun P=>⟨(.type "dict"),none,(.dict #[(d P (S "__module__") 316 (v (S "treeasks.errors") 187)),(d P (S "__qualname__") 318 (v (S "NoShare") 317)),(d P (S "__firstlineno__") 320 (i 25 319)),(d P (S "__init__") 328 (r 117)),(d P (S "__static_attributes__") 330 (r 118))] 5),#[]⟩
def a5l:F:=u [(V "thing" 395),(V "top" 396),(V "bottom" 397)]
def a5m:F:=u []
def a5n:F:=X 3 (S "NoAsks.__init__")
def a5o:F:=k [(V "NoPrices" 286),(V "NoPrices" 287),(V "/claim/cut.py" 288),(i 20 0),(i 0 0),(i 0 0),(i 0 0),(i 0 0),(r 88),(.bool .false),(i 181 0),(r 89),n,n,n,n,(i 289 0),(i 20 0),(V "/claim/cut.py" 290)]
def a5p:F:=u []
def a5q:F:=z []
def a5r:F:=fun P=>⟨(.type "builtin_function_or_method"),none,(.fields #[(.builtin "object.__init_subclass__"),(r 120)]),#[]⟩
def a5s:F:=x 18
def a5t:F:=fun P=>⟨(.type "frame"),none,.plain,#[(some (r 13)),(some (r 3)),(some (r 3)),none,(some (V "__main__" 164)),none,(some (r 0))]⟩
def a5u:F:=u []
def a5v:F:=u []
def a5w:F:=z [(i 17 0),(i 4 0),(r 78)]
def a5x:F:=fun P=>⟨(.type "builtin_function_or_method"),none,(.fields #[(.builtin "object.__init_subclass__"),(r 132)]),#[]⟩
def a5y:F:=u [(V "tree" 439),(V "one" 440),(V "other" 441)]
def a5z:F:=fun P=>⟨(.type "super"),none,(.fields #[(r 101),(r 101),(r 101)]),#[]⟩
def a60:F:=q "greatest_common" 384 385 386 39 2 0 0 3 161 181 162 163 164 165 389 390
def a61:F:=y 29 (V "treeasks.fractions" 475) (r 229)
def a62:F:=u []
def a63:F:=fun P=>⟨(.type "builtin_function_or_method"),none,(.fields #[(.builtin "type.__prepare__"),(.type "type")]),#[]⟩
def a64:F:=u []
def a65:F:=x 26
def a66:F:=u [(V "number" 329)]
def a67:F:=u []
def a68:F:=u []
def a69:F:=fun P=>⟨(.type "dict"),none,(.dict #[(d P (S "__module__") 214 (v (S "treeasks.errors") 187)),(d P (S "__qualname__") 216 (v (S "NoTree") 215)),(d P (S "__firstlineno__") 218 (i 4 217)),(d P (S "__init__") 227 (r 41)),(d P (S "__static_attributes__") 230 (r 42))] 5),#[]⟩
def a6a:F:=fun P=>⟨(.type "builtin_function_or_method"),none,(.fields #[(.builtin "object.__init_subclass__"),(r 44)]),#[]⟩
def a6b:F:=k [(V "__init__" 271),(V "NoKeep.__init__" 272),(V "/claim/cut.py" 273),(i 17 0),(i 2 0),(i 0 0),(i 0 0),(i 3 0),(r 73),(.bool .true),(i 181 0),(r 74),n,(r 75),(r 76),(r 77),(i 276 0),(i 17 0),(V "/claim/cut.py" 277)]
def a6c:F:=u []
def a6d:F:=u []
def a6e:F:=fun P=>⟨(.type "frame"),none,.plain,#[(some (r 109)),(some (r 3)),(some (r 106)),none,(some (V "treeasks.errors" 187)),none,(some (r 0))]⟩
def a6f:F:=y 13 (V "treeasks.numbers" 366) (r 173)
def a6g:F:=u []
def a6h:F:=fun P=>⟨(.type "dict"),none,(.dict #[(d P (S "__module__") 241 (v (S "treeasks.errors") 187)),(d P (S "__firstlineno__") 245 (i 10 244)),(d P (S "__init__") 253 (r 60)),(d P (S "__static_attributes__") 255 (r 61)),(d P (S "__doc__") 256 n)] 2),#[]⟩
def a6i:F:=u [(V "self" 299),(V "number" 300)]
def a6j:F:=x 11
def a6k:F:=q "fraction" 477 478 479 91 2 0 0 3 217 181 218 219 220 221 483 484
def a6l:F:=u []
def a6m:F:=z []
def A309:F:=fun P=>⟨(.type "dict"),none,(.dict #[(d P (S "__name__") 165 (v (S "treeasks.prices") 631)),(d P (S "__doc__") 166 n),(d P (S "__package__") 167 n),(d P (S "__loader__") 168 (.builtin "__main__.__loader__#opaque")),(d P (S "__spec__") 169 n),(d P (S "__annotations__") 170 (r 6)),(d P (S "__builtins__") 171 (r 4)),(d P (S "__file__") 173 (v (S "/claim/cut.py") 172)),(d P (S "__cached__") 174 n),(d P (S "AskError") 206 (r 24)),(d P (S "NoTree") 233 (r 44)),(d P (S "NoAsks") 258 (r 63)),(d P (S "NoKeep") 283 (r 82)),(d P (S "NoPrices") 308 (r 101)),(d P (S "NoShare") 333 (r 120)),(d P (S "NoNumber") 349 (r 132)),(d P (S "NoPlace") 365 (r 144)),(d P (S "is_whole") 374 (r 153)),(d P (S "is_between") 383 (r 160)),(d P (S "greatest_common") 391 (r 167)),(d P (S "is_fraction") 400 (r 174)),(d P (S "MOST_TIES") 404 (i 23 403)),(d P (S "MOST_ROOM") 406 (i 1000000 405)),(d P (S "has_two_lists") 415 (r 181)),(d P (S "look_at_tree") 427 (r 188)),(d P (S "is_place") 435 (r 195)),(d P (S "are_ends") 444 (r 202)),(d P (S "MOST_ASKS") 448 (i 30 447)),(d P (S "MOST_SIZE") 450 (i 1000000 449)),(d P (S "MOST_WORTH") 452 (i 1000000000000 451)),(d P (S "is_ask") 464 (r 209)),(d P (S "look_at_asks") 474 (r 216)),(d P (S "fraction") 485 (r 223)),(d P (S "minus") 493 (r 230)),(d P (S "times") 501 (r 237)),(d P (S "sum_of") 507 (r 242)),(d P (S "under") 515 (r 249)),(d P (S "look_at_ends") 526 (r 256)),(d P (S "climb") 537 (r 263)),(d P (S "way_between") 548 (r 270)),(d P (S "way_of") 556 (r 277)),(d P (S "ways_of") 562 (r 282)),(d P (S "look_at_keep") 576 (r 289)),(d P (S "lay_on") 586 (r 296)),(d P (S "load_with") 596 (r 303)),(d P (S "over_on") 602 (r 308)),(d P (S "loads") 613 (r 315)),(d P (S "first_over") 624 (r 322)),(d P (S "worth_of") 630 (r 327))] 49),#[]⟩
def a6n:F:=q "look_at_ends" 518 519 520 112 3 0 0 3 250 181 251 252 253 254 524 525
def a6o:F:=u []
def a6p:F:=x 40
def a6q:F:=u []
def a6r:F:=y 42 (V "treeasks.keeps" 563) (r 302)
def a6s:F:=y 35 (V "treeasks.ways" 516) (r 262)
def a6t:F:=y 46 (V "treeasks.keeps" 563) (r 326)
def a6u:F:=q "lay_on" 577 578 579 141 3 0 0 3 290 181 291 292 293 294 584 585
def a6v:F:=z []
def a6w:F:=u [(V "tree" 606),(V "asks" 607),(V "keep" 608),(V "found" 609),(V "number" 610)]
def a6x:F:=u [(V "tree" 530),(V "one" 531),(V "other" 532),(V "way" 533),(V "low" 534)]
def a6y:F:=u []
def a6z:F:=z []
def a70:F:=x 37
def a71:F:=k [(V "over_on" 597),(V "over_on" 598),(V "/claim/cut.py" 599),(i 148 0),(i 4 0),(i 0 0),(i 0 0),(i 3 0),(r 304),(.bool .true),(i 181 0),(r 305),n,n,n,(r 306),(i 600 0),(i 148 0),(V "/claim/cut.py" 601)]
def a72:F:=u []
def a73:F:=u [(V "tree" 590),(V "ask" 591),(V "load" 592),(V "found" 593)]
def a74:F:=u []
def a75:F:=y 44 (V "treeasks.keeps" 563) (r 314)
def a76:F:=z []
def a77:F:=u []
def a78:F:=q "first_over" 614 615 616 156 3 0 0 3 316 181 317 318 319 320 622 623
def a79:F:=y 40 (V "treeasks.keeps" 563) (r 288)
def a7a:F:=u [(V "tree" 552),(V "ask" 553)]
def a7b:F:=z []
def a7c:F:=z []
def a7d:F:=u []
def a7e:F:=k [(V "ways_of" 557),(V "ways_of" 558),(V "/claim/cut.py" 559),(i 129 0),(i 2 0),(i 0 0),(i 0 0),(i 3 0),(r 278),(.bool .true),(i 181 0),(r 279),n,n,n,(r 280),(i 560 0),(i 129 0),(V "/claim/cut.py" 561)]
def a7f:F:=x 44
def a7g:F:=x 35
def a7h:F:=x 46
def a7i:F:=u []
def a7j:F:=y 37 (V "treeasks.ways" 516) (r 276)
def a7k:F:=u []
def a7l:F:=q "way_between" 538 539 540 123 3 0 0 3 264 181 265 266 267 268 546 547
def a7m:F:=x 42
def a7n:F:=u [(V "tree" 568),(V "asks" 569),(V "thing" 570),(V "least" 571),(V "place" 572),(V "number" 573)]
def a7o:F:=z []
def a7p:F:=u []
def a7q:F:=y 34 (V "treeasks.ways" 516) (r 255)
def a7r:F:=x 45
def a7s:F:=q "look_at_keep" 565 566 567 132 3 0 0 3 283 181 284 285 286 287 574 575
def a7t:F:=z []
def a7u:F:=u []
def a7v:F:=u []
def a7w:F:=y 41 (V "treeasks.keeps" 563) (r 295)
def a7x:F:=x 38
def a7y:F:=u []
def a7z:F:=z [(i 2 0),(i 0 0),(r 20),(i 4 0),(i 0 0),(r 33),(i 10 0),(i 0 0),(r 52),(i 15 0),(i 0 0),(r 71),(i 20 0),(i 0 0),(r 90),(i 25 0),(i 0 0),(r 109),(i 30 0),(i 0 0),(r 128),(i 32 0),(i 0 0),(r 140),(i 35 0),(i 0 0),(r 152),(i 37 0),(i 0 0),(r 159),(i 39 0),(i 0 0),(r 166),(i 43 0),(i 0 0),(r 173),(i 53 0),(i 0 0),(r 180),(i 60 0),(i 0 0),(r 187),(i 70 0),(i 0 0),(r 194),(i 72 0),(i 0 0),(r 201),(i 78 0),(i 0 0),(r 208),(i 83 0),(i 0 0),(r 215),(i 91 0),(i 0 0),(r 222),(i 100 0),(i 0 0),(r 229),(i 102 0),(i 0 0),(r 236),(i 104 0),(i 0 0),(r 241),(i 109 0),(i 0 0),(r 248),(i 112 0),(i 0 0),(r 255),(i 116 0),(i 0 0),(r 262),(i 123 0),(i 0 0),(r 269),(i 127 0),(i 0 0),(r 276),(i 129 0),(i 0 0),(r 281),(i 132 0),(i 0 0),(r 288),(i 141 0),(i 0 0),(r 295),(i 144 0),(i 0 0),(r 302),(i 148 0),(i 0 0),(r 307),(i 150 0),(i 0 0),(r 314),(i 156 0),(i 0 0),(r 321),(i 161 0),(i 0 0),(r 326)]
def a80:F:=u []
def a81:F:=z []
def a82:F:=u [(V "ask" 580),(V "way" 581),(V "load" 582),(V "tie" 583)]
def a83:F:=q "way_of" 549 550 551 127 2 0 0 3 271 181 272 273 274 275 554 555
def a84:F:=y 43 (V "treeasks.keeps" 563) (r 307)
def a85:F:=x 36
def a86:F:=u []
def a87:F:=z []
def a88:F:=u []
def a89:F:=u [(V "tree" 521),(V "one" 522),(V "other" 523)]
def a8a:F:=z []
def a8b:F:=y 45 (V "treeasks.keeps" 563) (r 321)
def a8c:F:=u []
def a8d:F:=u []
def a8e:F:=x 43
def a8f:F:=u [(V "tree" 541),(V "one" 542),(V "other" 543),(V "way" 544),(V "meeting" 545)]
def a8g:F:=z []
def a8h:F:=y 38 (V "treeasks.ways" 516) (r 281)
def a8i:F:=q "loads" 603 604 605 150 3 0 0 3 309 181 310 311 312 313 611 612
def a8j:F:=u []
def a8k:F:=q "climb" 527 528 529 116 3 0 0 3 257 181 258 259 260 261 535 536
def a8l:F:=k [(V "worth_of" 625),(V "worth_of" 626),(V "/claim/cut.py" 627),(i 161 0),(i 3 0),(i 0 0),(i 0 0),(i 3 0),(r 323),(.bool .true),(i 181 0),(r 324),n,n,n,(r 325),(i 628 0),(i 161 0),(V "/claim/cut.py" 629)]
def a8m:F:=x 41
def a8n:F:=u []
def a8o:F:=z []
def a8p:F:=y 36 (V "treeasks.ways" 516) (r 269)
def a8q:F:=q "load_with" 587 588 589 144 3 0 0 3 297 181 298 299 300 301 594 595
def a8r:F:=u []
def a8s:F:=u [(V "tree" 617),(V "asks" 618),(V "keep" 619),(V "number" 620),(V "load" 621)]
def a8t:F:=x 34
def A389:F:=fun P=>⟨(.type "dict"),none,(.dict #[(d P (S "__name__") 165 (v (S "treeasks.shares") 730)),(d P (S "__doc__") 166 n),(d P (S "__package__") 167 n),(d P (S "__loader__") 168 (.builtin "__main__.__loader__#opaque")),(d P (S "__spec__") 169 n),(d P (S "__annotations__") 170 (r 6)),(d P (S "__builtins__") 171 (r 4)),(d P (S "__file__") 173 (v (S "/claim/cut.py") 172)),(d P (S "__cached__") 174 n),(d P (S "AskError") 206 (r 24)),(d P (S "NoTree") 233 (r 44)),(d P (S "NoAsks") 258 (r 63)),(d P (S "NoKeep") 283 (r 82)),(d P (S "NoPrices") 308 (r 101)),(d P (S "NoShare") 333 (r 120)),(d P (S "NoNumber") 349 (r 132)),(d P (S "NoPlace") 365 (r 144)),(d P (S "is_whole") 374 (r 153)),(d P (S "is_between") 383 (r 160)),(d P (S "greatest_common") 391 (r 167)),(d P (S "is_fraction") 400 (r 174)),(d P (S "MOST_TIES") 404 (i 23 403)),(d P (S "MOST_ROOM") 406 (i 1000000 405)),(d P (S "has_two_lists") 415 (r 181)),(d P (S "look_at_tree") 427 (r 188)),(d P (S "is_place") 435 (r 195)),(d P (S "are_ends") 444 (r 202)),(d P (S "MOST_ASKS") 448 (i 30 447)),(d P (S "MOST_SIZE") 450 (i 1000000 449)),(d P (S "MOST_WORTH") 452 (i 1000000000000 451)),(d P (S "is_ask") 464 (r 209)),(d P (S "look_at_asks") 474 (r 216)),(d P (S "fraction") 485 (r 223)),(d P (S "minus") 493 (r 230)),(d P (S "times") 501 (r 237)),(d P (S "sum_of") 507 (r 242)),(d P (S "under") 515 (r 249)),(d P (S "look_at_ends") 526 (r 256)),(d P (S "climb") 537 (r 263)),(d P (S "way_between") 548 (r 270)),(d P (S "way_of") 556 (r 277)),(d P (S "ways_of") 562 (r 282)),(d P (S "look_at_keep") 576 (r 289)),(d P (S "lay_on") 586 (r 296)),(d P (S "load_with") 596 (r 303)),(d P (S "over_on") 602 (r 308)),(d P (S "loads") 613 (r 315)),(d P (S "first_over") 624 (r 322)),(d P (S "worth_of") 630 (r 327)),(d P (S "is_price") 639 (r 334)),(d P (S "look_at_prices") 650 (r 341)),(d P (S "spare_of") 656 (r 346)),(d P (S "spares") 662 (r 351)),(d P (S "bound_of") 668 (r 356)),(d P (S "are_ones") 676 (r 361)),(d P (S "is_above_half") 682 (r 366)),(d P (S "look_at_halves") 692 (r 373)),(d P (S "rate_of") 701 (r 380)),(d P (S "greatest_rate_first") 712 (r 387)),(d P (S "fill_up") 718 (r 392)),(d P (S "keep_unlike") 729 (r 399))] 61),#[]⟩
def a8u:F:=u [(V "asks" 705),(V "order" 706),(V "number" 707),(V "ask" 708),(V "place" 709)]
def a8v:F:=y 51 (V "treeasks.prices" 631) (r 350)
def a8w:F:=y 61 (V "treeasks.unlike" 693) (r 398)
def a8x:F:=u []
def a8y:F:=u []
def a8z:F:=k [(V "fill_up" 713),(V "fill_up" 714),(V "/claim/cut.py" 715),(i 209 0),(i 5 0),(i 0 0),(i 0 0),(i 3 0),(r 388),(.bool .true),(i 181 0),(r 389),n,n,n,(r 390),(i 716 0),(i 209 0),(V "/claim/cut.py" 717)]
def a90:F:=x 54
def a91:F:=z []
def a92:F:=z []
def a93:F:=y 59 (V "treeasks.unlike" 693) (r 386)
def a94:F:=k [(V "bound_of" 663),(V "bound_of" 664),(V "/claim/cut.py" 665),(i 185 0),(i 3 0),(i 0 0),(i 0 0),(i 3 0),(r 352),(.bool .true),(i 181 0),(r 353),n,n,n,(r 354),(i 666 0),(i 185 0),(V "/claim/cut.py" 667)]
def a95:F:=x 49
def a96:F:=x 56
def a97:F:=u [(V "tree" 722),(V "asks" 723),(V "keep" 724),(V "prices" 725),(V "sent" 726)]
def a98:F:=u []
def a99:F:=z []
def a9a:F:=u []
def a9b:F:=q "rate_of" 695 696 697 199 1 0 0 3 374 181 375 376 377 378 699 700
def a9c:F:=x 59
def a9d:F:=z []
def a9e:F:=u [(V "tree" 643),(V "thing" 644),(V "ties" 645),(V "number" 646),(V "price" 647)]
def a9f:F:=u [(V "tree" 686),(V "asks" 687),(V "number" 688),(V "ask" 689)]
def a9g:F:=u []
def a9h:F:=z []
def a9i:F:=y 54 (V "treeasks.rules" 669) (r 360)
def a9j:F:=k [(V "spare_of" 651),(V "spare_of" 652),(V "/claim/cut.py" 653),(i 177 0),(i 4 0),(i 0 0),(i 0 0),(i 3 0),(r 342),(.bool .true),(i 181 0),(r 343),n,n,n,(r 344),(i 654 0),(i 177 0),(V "/claim/cut.py" 655)]
def a9k:F:=u []
def a9l:F:=z []
def a9m:F:=u []
def a9n:F:=y 49 (V "treeasks.prices" 631) (r 340)
def a9o:F:=y 56 (V "treeasks.rules" 669) (r 372)
def a9p:F:=x 61
def a9q:F:=q "is_price" 633 634 635 165 1 0 0 3 328 181 329 330 331 332 637 638
def a9r:F:=k [(V "is_above_half" 677),(V "is_above_half" 678),(V "/claim/cut.py" 679),(i 192 0),(i 2 0),(i 0 0),(i 0 0),(i 3 0),(r 362),(.bool .true),(i 181 0),(r 363),n,n,n,(r 364),(i 680 0),(i 192 0),(V "/claim/cut.py" 681)]
def a9s:F:=x 51
def a9t:F:=u []
def a9u:F:=u []
def a9v:F:=u []
def a9w:F:=z []
def a9x:F:=z []
def a9y:F:=y 60 (V "treeasks.unlike" 693) (r 391)
def a9z:F:=u []
def aa0:F:=k [(V "are_ones" 671),(V "are_ones" 672),(V "/claim/cut.py" 673),(i 190 0),(i 1 0),(i 0 0),(i 0 0),(i 3 0),(r 357),(.bool .true),(i 181 0),(r 358),n,n,n,(r 359),(i 674 0),(i 190 0),(V "/claim/cut.py" 675)]
def aa1:F:=x 50
def aa2:F:=u [(V "ask" 698)]
def aa3:F:=z [(i 2 0),(i 0 0),(r 20),(i 4 0),(i 0 0),(r 33),(i 10 0),(i 0 0),(r 52),(i 15 0),(i 0 0),(r 71),(i 20 0),(i 0 0),(r 90),(i 25 0),(i 0 0),(r 109),(i 30 0),(i 0 0),(r 128),(i 32 0),(i 0 0),(r 140),(i 35 0),(i 0 0),(r 152),(i 37 0),(i 0 0),(r 159),(i 39 0),(i 0 0),(r 166),(i 43 0),(i 0 0),(r 173),(i 53 0),(i 0 0),(r 180),(i 60 0),(i 0 0),(r 187),(i 70 0),(i 0 0),(r 194),(i 72 0),(i 0 0),(r 201),(i 78 0),(i 0 0),(r 208),(i 83 0),(i 0 0),(r 215),(i 91 0),(i 0 0),(r 222),(i 100 0),(i 0 0),(r 229),(i 102 0),(i 0 0),(r 236),(i 104 0),(i 0 0),(r 241),(i 109 0),(i 0 0),(r 248),(i 112 0),(i 0 0),(r 255),(i 116 0),(i 0 0),(r 262),(i 123 0),(i 0 0),(r 269),(i 127 0),(i 0 0),(r 276),(i 129 0),(i 0 0),(r 281),(i 132 0),(i 0 0),(r 288),(i 141 0),(i 0 0),(r 295),(i 144 0),(i 0 0),(r 302),(i 148 0),(i 0 0),(r 307),(i 150 0),(i 0 0),(r 314),(i 156 0),(i 0 0),(r 321),(i 161 0),(i 0 0),(r 326),(i 165 0),(i 0 0),(r 333),(i 167 0),(i 0 0),(r 340),(i 177 0),(i 0 0),(r 345),(i 181 0),(i 0 0),(r 350),(i 185 0),(i 0 0),(r 355),(i 190 0),(i 0 0),(r 360),(i 192 0),(i 0 0),(r 365),(i 194 0),(i 0 0),(r 372),(i 199 0),(i 0 0),(r 379),(i 201 0),(i 0 0),(r 386),(i 209 0),(i 0 0),(r 391),(i 226 0),(i 0 0),(r 398)]
def aa4:F:=u []
def aa5:F:=y 52 (V "treeasks.prices" 631) (r 355)
def aa6:F:=q "look_at_prices" 640 641 642 167 2 0 0 3 335 181 336 337 338 339 648 649
def aa7:F:=q "look_at_halves" 683 684 685 194 2 0 0 3 367 181 368 369 370 371 690 691
def aa8:F:=u []
def aa9:F:=x 48
def aaa:F:=x 55
def aab:F:=z []
def aac:F:=y 58 (V "treeasks.unlike" 693) (r 379)
def aad:F:=q "greatest_rate_first" 702 703 704 201 1 0 0 3 381 181 382 383 384 385 710 711
def aae:F:=x 52
def aaf:F:=u []
def aag:F:=u []
def aah:F:=z []
def aai:F:=u [(V "thing" 636)]
def aaj:F:=u []
def aak:F:=y 50 (V "treeasks.prices" 631) (r 345)
def aal:F:=x 58
def aam:F:=x 60
def aan:F:=z []
def aao:F:=u []
def aap:F:=u []
def aaq:F:=q "keep_unlike" 719 720 721 226 2 0 0 3 393 181 394 395 396 397 727 728
def aar:F:=y 48 (V "treeasks.prices" 631) (r 333)
def aas:F:=y 55 (V "treeasks.rules" 669) (r 365)
def aat:F:=k [(V "spares" 657),(V "spares" 658),(V "/claim/cut.py" 659),(i 181 0),(i 3 0),(i 0 0),(i 0 0),(i 3 0),(r 347),(.bool .true),(i 181 0),(r 348),n,n,n,(r 349),(i 660 0),(i 181 0),(V "/claim/cut.py" 661)]
def aau:F:=z []
def A463:F:=fun P=>⟨(.type "dict"),none,(.dict #[(d P (S "__name__") 165 (v (S "law_treeasks_k43_whole_prices_show_the_share") 762)),(d P (S "__doc__") 166 n),(d P (S "__package__") 167 n),(d P (S "__loader__") 168 (.builtin "__main__.__loader__#opaque")),(d P (S "__spec__") 169 n),(d P (S "__annotations__") 170 (r 6)),(d P (S "__builtins__") 171 (r 4)),(d P (S "__file__") 173 (v (S "/claim/cut.py") 172)),(d P (S "__cached__") 174 n),(d P (S "AskError") 206 (r 24)),(d P (S "NoTree") 233 (r 44)),(d P (S "NoAsks") 258 (r 63)),(d P (S "NoKeep") 283 (r 82)),(d P (S "NoPrices") 308 (r 101)),(d P (S "NoShare") 333 (r 120)),(d P (S "NoNumber") 349 (r 132)),(d P (S "NoPlace") 365 (r 144)),(d P (S "is_whole") 374 (r 153)),(d P (S "is_between") 383 (r 160)),(d P (S "greatest_common") 391 (r 167)),(d P (S "is_fraction") 400 (r 174)),(d P (S "MOST_TIES") 404 (i 23 403)),(d P (S "MOST_ROOM") 406 (i 1000000 405)),(d P (S "has_two_lists") 415 (r 181)),(d P (S "look_at_tree") 427 (r 188)),(d P (S "is_place") 435 (r 195)),(d P (S "are_ends") 444 (r 202)),(d P (S "MOST_ASKS") 448 (i 30 447)),(d P (S "MOST_SIZE") 450 (i 1000000 449)),(d P (S "MOST_WORTH") 452 (i 1000000000000 451)),(d P (S "is_ask") 464 (r 209)),(d P (S "look_at_asks") 474 (r 216)),(d P (S "fraction") 485 (r 223)),(d P (S "minus") 493 (r 230)),(d P (S "times") 501 (r 237)),(d P (S "sum_of") 507 (r 242)),(d P (S "under") 515 (r 249)),(d P (S "look_at_ends") 526 (r 256)),(d P (S "climb") 537 (r 263)),(d P (S "way_between") 548 (r 270)),(d P (S "way_of") 556 (r 277)),(d P (S "ways_of") 562 (r 282)),(d P (S "look_at_keep") 576 (r 289)),(d P (S "lay_on") 586 (r 296)),(d P (S "load_with") 596 (r 303)),(d P (S "over_on") 602 (r 308)),(d P (S "loads") 613 (r 315)),(d P (S "first_over") 624 (r 322)),(d P (S "worth_of") 630 (r 327)),(d P (S "is_price") 639 (r 334)),(d P (S "look_at_prices") 650 (r 341)),(d P (S "spare_of") 656 (r 346)),(d P (S "spares") 662 (r 351)),(d P (S "bound_of") 668 (r 356)),(d P (S "are_ones") 676 (r 361)),(d P (S "is_above_half") 682 (r 366)),(d P (S "look_at_halves") 692 (r 373)),(d P (S "rate_of") 701 (r 380)),(d P (S "greatest_rate_first") 712 (r 387)),(d P (S "fill_up") 718 (r 392)),(d P (S "keep_unlike") 729 (r 399)),(d P (S "is_keep_that_fits") 740 (r 406)),(d P (S "are_prices") 748 (r 413)),(d P (S "is_share") 761 (r 420)),(d P (S "_law_pool") 773 (r 427)),(d P (S "_law_take") 782 (r 434)),(d P (S "_law_number") 791 (r 441)),(d P (S "_law_parents") 803 (r 448)),(d P (S "_law_rooms") 809 (r 453)),(d P (S "_law_ends") 818 (r 460)),(d P (S "_law_up") 827 (r 467)),(d P (S "_law_way") 833 (r 472)),(d P (S "_law_ask") 839 (r 477))] 73),#[]⟩
def aav:F:=q "_law_parents" 792 793 794 280 2 0 0 3 442 181 443 444 445 446 801 802
def aaw:F:=z []
def aax:F:=u [(V "_law_parents_here" 822),(V "_law_place" 823),(V "_law_found" 824)]
def aay:F:=u []
def aaz:F:=z []
def ab0:F:=u [(V "_law_script" 767),(V "_law_k" 768),(V "_law_cell" 769),(V "_law_seed" 770)]
def ab1:F:=u []
def ab2:F:=k [(V "_law_way" 828),(V "_law_way" 829),(V "/claim/cut.py" 830),(i 299 0),(i 2 0),(i 0 0),(i 0 0),(i 3 0),(r 468),(.bool .true),(i 181 0),(r 469),n,n,n,(r 470),(i 831 0),(i 299 0),(V "/claim/cut.py" 832)]
def ab3:F:=x 69
def ab4:F:=x 71
def ab5:F:=q "is_share" 749 750 751 244 3 0 0 3 414 181 415 416 417 418 759 760
def ab6:F:=u []
def ab7:F:=y 73 (V "law_treeasks_k43_whole_prices_show_the_share" 762) (r 466)
def ab8:F:=u []
def ab9:F:=q "_law_ends" 810 811 812 290 2 0 0 3 454 181 455 456 457 458 816 817
def aba:F:=y 67 (V "law_treeasks_k43_whole_prices_show_the_share" 762) (r 426)
def abb:F:=x 64
def abc:F:=x 75
def abd:F:=z []
def abe:F:=u []
def abf:F:=u []
def abg:F:=z []
def abh:F:=x 73
def abi:F:=q "_law_take" 774 775 776 264 2 0 0 3 428 181 429 430 431 432 780 781
def abj:F:=u []
def abk:F:=x 67
def abl:F:=u [(V "tree" 744),(V "thing" 745)]
def abm:F:=u []
def abn:F:=y 69 (V "law_treeasks_k43_whole_prices_show_the_share" 762) (r 440)
def abo:F:=y 71 (V "law_treeasks_k43_whole_prices_show_the_share" 762) (r 452)
def abp:F:=u []
def abq:F:=q "is_keep_that_fits" 732 733 734 233 3 0 0 3 400 181 401 402 403 404 738 739
def abr:F:=z []
def abs:F:=u [(V "_law_pool_here" 786),(V "_law_most" 787),(V "_law_way_here" 788)]
def abt:F:=u []
def abu:F:=z []
def abv:F:=y 64 (V "treeasks.shares" 730) (r 412)
def abw:F:=y 75 (V "law_treeasks_k43_whole_prices_show_the_share" 762) (r 476)
def abx:F:=u []
def aby:F:=y 70 (V "law_treeasks_k43_whole_prices_show_the_share" 762) (r 447)
def abz:F:=u [(V "tree" 752),(V "asks" 753),(V "thing" 754),(V "keep" 755),(V "prices" 756),(V "often" 757),(V "worth" 758)]
def ac0:F:=u []
def ac1:F:=u []
def ac2:F:=x 68
def ac3:F:=u [(V "_law_pool_here" 813),(V "_law_many" 814),(V "_law_one" 815)]
def ac4:F:=u []
def ac5:F:=z []
def ac6:F:=y 74 (V "law_treeasks_k43_whole_prices_show_the_share" 762) (r 471)
def ac7:F:=q "_law_number" 783 784 785 271 2 0 0 3 435 181 436 437 438 439 789 790
def ac8:F:=z [(i 2 0),(i 0 0),(r 20),(i 4 0),(i 0 0),(r 33),(i 10 0),(i 0 0),(r 52),(i 15 0),(i 0 0),(r 71),(i 20 0),(i 0 0),(r 90),(i 25 0),(i 0 0),(r 109),(i 30 0),(i 0 0),(r 128),(i 32 0),(i 0 0),(r 140),(i 35 0),(i 0 0),(r 152),(i 37 0),(i 0 0),(r 159),(i 39 0),(i 0 0),(r 166),(i 43 0),(i 0 0),(r 173),(i 53 0),(i 0 0),(r 180),(i 60 0),(i 0 0),(r 187),(i 70 0),(i 0 0),(r 194),(i 72 0),(i 0 0),(r 201),(i 78 0),(i 0 0),(r 208),(i 83 0),(i 0 0),(r 215),(i 91 0),(i 0 0),(r 222),(i 100 0),(i 0 0),(r 229),(i 102 0),(i 0 0),(r 236),(i 104 0),(i 0 0),(r 241),(i 109 0),(i 0 0),(r 248),(i 112 0),(i 0 0),(r 255),(i 116 0),(i 0 0),(r 262),(i 123 0),(i 0 0),(r 269),(i 127 0),(i 0 0),(r 276),(i 129 0),(i 0 0),(r 281),(i 132 0),(i 0 0),(r 288),(i 141 0),(i 0 0),(r 295),(i 144 0),(i 0 0),(r 302),(i 148 0),(i 0 0),(r 307),(i 150 0),(i 0 0),(r 314),(i 156 0),(i 0 0),(r 321),(i 161 0),(i 0 0),(r 326),(i 165 0),(i 0 0),(r 333),(i 167 0),(i 0 0),(r 340),(i 177 0),(i 0 0),(r 345),(i 181 0),(i 0 0),(r 350),(i 185 0),(i 0 0),(r 355),(i 190 0),(i 0 0),(r 360),(i 192 0),(i 0 0),(r 365),(i 194 0),(i 0 0),(r 372),(i 199 0),(i 0 0),(r 379),(i 201 0),(i 0 0),(r 386),(i 209 0),(i 0 0),(r 391),(i 226 0),(i 0 0),(r 398),(i 233 0),(i 0 0),(r 405),(i 238 0),(i 0 0),(r 412),(i 244 0),(i 0 0),(r 419),(i 256 0),(i 0 0),(r 426),(i 264 0),(i 0 0),(r 433),(i 271 0),(i 0 0),(r 440),(i 280 0),(i 0 0),(r 447),(i 287 0),(i 0 0),(r 452),(i 290 0),(i 0 0),(r 459),(i 293 0),(i 0 0),(r 466),(i 299 0),(i 0 0),(r 471),(i 304 0),(i 0 0),(r 476)]
def ac9:F:=k [(V "_law_rooms" 804),(V "_law_rooms" 805),(V "/claim/cut.py" 806),(i 287 0),(i 3 0),(i 0 0),(i 0 0),(i 3 0),(r 449),(.bool .true),(i 181 0),(r 450),n,n,n,(r 451),(i 807 0),(i 287 0),(V "/claim/cut.py" 808)]
def aca:F:=y 65 (V "treeasks.shares" 730) (r 419)
def acb:F:=x 63
def acc:F:=u []
def acd:F:=z []
def ace:F:=y 72 (V "law_treeasks_k43_whole_prices_show_the_share" 762) (r 459)
def acf:F:=u []
def acg:F:=q "are_prices" 741 742 743 238 2 0 0 3 407 181 408 409 410 411 746 747
def ach:F:=k [(V "_law_ask" 834),(V "_law_ask" 835),(V "/claim/cut.py" 836),(i 304 0),(i 2 0),(i 0 0),(i 0 0),(i 3 0),(r 473),(.bool .true),(i 181 0),(r 474),n,n,n,(r 475),(i 837 0),(i 304 0),(V "/claim/cut.py" 838)]
def aci:F:=u [(V "_law_pool_here" 795),(V "_law_most" 796),(V "_law_shape" 797),(V "_law_parents_here" 798),(V "_law_place" 799),(V "_law_up_here" 800)]
def acj:F:=z []
def ack:F:=x 65
def acl:F:=u [(V "tree" 735),(V "asks" 736),(V "thing" 737)]
def acm:F:=q "_law_up" 819 820 821 293 2 0 0 3 461 181 462 463 464 465 825 826
def acn:F:=y 68 (V "law_treeasks_k43_whole_prices_show_the_share" 762) (r 433)
def aco:F:=x 72
def acp:F:=q "_law_pool" 764 765 766 256 2 0 0 3 421 181 422 423 424 425 771 772
def acq:F:=u []
def acr:F:=z []
def acs:F:=u []
def act:F:=u []
def acu:F:=z []
def acv:F:=y 63 (V "treeasks.shares" 730) (r 405)
def acw:F:=x 74
def acx:F:=u []
def acy:F:=z []
def acz:F:=u [(V "_law_pool_here" 777),(V "_law_many" 778),(V "_law_found" 779)]
def ad0:F:=u []
def ad1:F:=x 70
lay_quick Ob.A232
def Ttree_308 (Q : F) : Params → W.BT := (w PySem.W.boot_o_0 (w PySem.W.boot_o_1 (w Q (w PySem.W.boot_o_7 (w a00 (w a01 (w a02 (o a03) (o a04)) (w a05 (o a06) (o a07))) (w a08 (w a09 (o a0a) (o a0b)) (w a0c (o a0d) (o a0e)))) (w a0f (w a0g (w a0h (o a0i) (o a0j)) (w a0k (o a0l) (o a0m))) (w a0n (w a0o (o a0p) (o a0q)) (w a0r (o a0s) (o a0t))))) (w a0u (w a0v (w a0w (w a0x (o a0y) (o a0z)) (w a10 (o a11) (o a12))) (w a13 (w a14 (o a15) (o a16)) (w a17 (o a18) (o a19)))) (w a1a (w a1b (w a1c (o a1d) (o a1e)) (w a1f (o a1g) (o a1h))) (w a1i (w a1j (o a1k) (o a1l)) (w a1m (o a1n) e))))) (w PySem.W.boot_o_5 (w PySem.W.boot_o_9 (w a1o (w a1p (w a1q (o a1r) (o a1s)) (w a1t (o a1u) (o a1v))) (w a1w (w a1x (o a1y) (o a1z)) (w a20 (o a21) (o a22)))) (w a23 (w a24 (w a25 (o a26) (o a27)) (w a28 (o a29) (o a2a))) (w a2b (w a2c (o a2d) (o a2e)) (w a2f (o a2g) (o a2h))))) (w a2i (w a2j (w a2k (w a2l (o a2m) (o a2n)) (w a2o (o a2p) (o a2q))) (w a2r (w a2s (o a2t) (o a2u)) (w a2v (o a2w) (o a2x)))) (w a2y (w a2z (w a30 (o a31) (o a32)) (w a33 (o a34) (o a35))) (w a36 (w a37 (o a38) (o a39)) (w a3a (o a3b) e)))))) (w PySem.W.boot_o_2 (w PySem.W.boot_o_4 (w PySem.W.boot_o_8 (w a3c (w a3d (w a3e (o a3f) (o a3g)) (w a3h (o a3i) (o a3j))) (w a3k (w a3l (o a3m) (o a3n)) (w a3o (o a3p) (o a3q)))) (w a3r (w a3s (w a3t (o a3u) (o a3v)) (w a3w (o a3x) (o a3y))) (w a3z (w a40 (o a41) (o a42)) (w a43 (o a44) (o a45))))) (w a46 (w a47 (w a48 (w a49 (o a4a) (o a4b)) (w a4c (o a4d) (o a4e))) (w a4f (w a4g (o a4h) (o a4i)) (w a4j (o a4k) (o a4l)))) (w a4m (w a4n (w a4o (o a4p) (o a4q)) (w a4r (o a4s) (o a4t))) (w a4u (w a4v (o a4w) (o a4x)) (w a4y (o a4z) e))))) (w PySem.W.boot_o_6 (w PySem.W.boot_o_10 (w a50 (w a51 (w a52 (o a53) (o a54)) (w a55 (o a56) (o a57))) (w a58 (w a59 (o a5a) (o a5b)) (w a5c (o a5d) (o a5e)))) (w a5f (w a5g (w a5h (o a5i) (o a5j)) (w a5k (o a5l) (o a5m))) (w a5n (w a5o (o a5p) (o a5q)) (w a5r (o a5s) e)))) (w a5t (w a5u (w a5v (w a5w (o a5x) (o a5y)) (w a5z (o a60) (o a61))) (w a62 (w a63 (o a64) (o a65)) (w a66 (o a67) (o a68)))) (w a69 (w a6a (w a6b (o a6c) (o a6d)) (w a6e (o a6f) (o a6g))) (w a6h (w a6i (o a6j) (o a6k)) (w a6l (o a6m) e)))))))
def _root_.PySem.W.Fast.tw8611916946329178768 : Params → W.BT := Ttree_308 PySem.W.Fast.tw17478711243014318675
theorem _root_.PySem.W.Fast.te8611916946329178768 : Ttree_308 Ob.A232 = PySem.W.Fast.tw8611916946329178768 := (congrArg Ttree_308 PySem.W.Fast.te17478711243014318675)
lay_quick Ob.A309
def Ttree_388 (Q : F) : Params → W.BT := (w PySem.W.boot_o_0 (w PySem.W.boot_o_1 (w Q (w PySem.W.boot_o_7 (w a00 (w a01 (w a02 (w a03 (o a6n) e) (w a04 (o a6o) e)) (w a05 (w a06 (o a6p) e) (o a07))) (w a08 (w a09 (w a0a (o a6q) e) (o a0b)) (w a0c (w a0d (o a6r) e) (o a0e)))) (w a0f (w a0g (w a0h (w a0i (o a6s) e) (w a0j (o a6t) e)) (w a0k (w a0l (o a6u) e) (o a0m))) (w a0n (w a0o (w a0p (o a6v) e) (o a0q)) (w a0r (w a0s (o a6w) e) (o a0t))))) (w a0u (w a0v (w a0w (w a0x (w a0y (o a6x) e) (w a0z (o a6y) e)) (w a10 (w a11 (o a6z) e) (o a12))) (w a13 (w a14 (w a15 (o a70) e) (o a16)) (w a17 (w a18 (o a71) e) (o a19)))) (w a1a (w a1b (w a1c (w a1d (o a72) e) (o a1e)) (w a1f (w a1g (o a73) e) (o a1h))) (w a1i (w a1j (w a1k (o a74) e) (o a1l)) (w a1m (w a1n (o a75) e) (o a76)))))) (w PySem.W.boot_o_5 (w PySem.W.boot_o_9 (w a1o (w a1p (w a1q (w a1r (o a77) e) (w a1s (o a78) e)) (w a1t (w a1u (o a79) e) (o a1v))) (w a1w (w a1x (w a1y (o a7a) e) (o a1z)) (w a20 (w a21 (o a7b) e) (o a22)))) (w a23 (w a24 (w a25 (w a26 (o a7c) e) (o a27)) (w a28 (w a29 (o a7d) e) (o a2a))) (w a2b (w a2c (w a2d (o a7e) e) (o a2e)) (w a2f (w a2g (o a7f) e) (o a2h))))) (w a2i (w a2j (w a2k (w a2l (w a2m (o a7g) e) (w a2n (o a7h) e)) (w a2o (w a2p (o a7i) e) (o a2q))) (w a2r (w a2s (w a2t (o a7j) e) (o a2u)) (w a2v (w a2w (o a7k) e) (o a2x)))) (w a2y (w a2z (w a30 (w a31 (o a7l) e) (o a32)) (w a33 (w a34 (o a7m) e) (o a35))) (w a36 (w a37 (w a38 (o a7n) e) (o a39)) (w a3a (w a3b (o a7o) e) (o a7p))))))) (w PySem.W.boot_o_2 (w PySem.W.boot_o_4 (w PySem.W.boot_o_8 (w a3c (w a3d (w a3e (w a3f (o a7q) e) (w a3g (o a7r) e)) (w a3h (w a3i (o a7s) e) (o a3j))) (w a3k (w a3l (w a3m (o a7t) e) (o a3n)) (w a3o (w a3p (o a7u) e) (o a3q)))) (w a3r (w a3s (w a3t (w a3u (o a7v) e) (o a3v)) (w a3w (w a3x (o a7w) e) (o a3y))) (w a3z (w a40 (w a41 (o a7x) e) (o a42)) (w a43 (w a44 (o a7y) e) (o a45))))) (w a7z (w a47 (w a48 (w a49 (w a4a (o a80) e) (w a4b (o a81) e)) (w a4c (w a4d (o a82) e) (o a4e))) (w a4f (w a4g (w a4h (o a83) e) (o a4i)) (w a4j (w a4k (o a84) e) (o a4l)))) (w a4m (w a4n (w a4o (w a4p (o a85) e) (o a4q)) (w a4r (w a4s (o a86) e) (o a4t))) (w a4u (w a4v (w a4w (o a87) e) (o a4x)) (w a4y (w a4z (o a88) e) (o a89)))))) (w PySem.W.boot_o_6 (w PySem.W.boot_o_10 (w a50 (w a51 (w a52 (w a53 (o a8a) e) (w a54 (o a8b) e)) (w a55 (w a56 (o a8c) e) (o a57))) (w a58 (w a59 (w a5a (o a8d) e) (o a5b)) (w a5c (w a5d (o a8e) e) (o a5e)))) (w a5f (w a5g (w a5h (w a5i (o a8f) e) (o a5j)) (w a5k (w a5l (o a8g) e) (o a5m))) (w a5n (w a5o (w a5p (o a8h) e) (o a5q)) (w a5r (w a5s (o a8i) e) (o a8j))))) (w a5t (w a5u (w a5v (w a5w (w a5x (o a8k) e) (w a5y (o a8l) e)) (w a5z (w a60 (o a8m) e) (o a61))) (w a62 (w a63 (w a64 (o a8n) e) (o a65)) (w a66 (w a67 (o a8o) e) (o a68)))) (w a69 (w a6a (w a6b (w a6c (o a8p) e) (o a6d)) (w a6e (w a6f (o a8q) e) (o a6g))) (w a6h (w a6i (w a6j (o a8r) e) (o a6k)) (w a6l (w a6m (o a8s) e) (o a8t))))))))
def _root_.PySem.W.Fast.tw13939066620630469773 : Params → W.BT := Ttree_388 PySem.W.Fast.tw14751566917249563092
theorem _root_.PySem.W.Fast.te13939066620630469773 : Ttree_388 Ob.A309 = PySem.W.Fast.tw13939066620630469773 := (congrArg Ttree_388 PySem.W.Fast.te14751566917249563092)
lay_quick Ob.A389
def Ttree_462 (Q : F) : Params → W.BT := (w PySem.W.boot_o_0 (w PySem.W.boot_o_1 (w Q (w PySem.W.boot_o_7 (w a00 (w a01 (w a02 (w a03 (o a6n) (o a8u)) (w a04 (o a6o) e)) (w a05 (w a06 (o a6p) e) (w a07 (o a8v) e))) (w a08 (w a09 (w a0a (o a6q) (o a8w)) (w a0b (o a8x) e)) (w a0c (w a0d (o a6r) e) (w a0e (o a8y) e)))) (w a0f (w a0g (w a0h (w a0i (o a6s) (o a8z)) (w a0j (o a6t) e)) (w a0k (w a0l (o a6u) e) (w a0m (o a90) e))) (w a0n (w a0o (w a0p (o a6v) e) (w a0q (o a91) e)) (w a0r (w a0s (o a6w) e) (w a0t (o a92) e))))) (w a0u (w a0v (w a0w (w a0x (w a0y (o a6x) (o a93)) (w a0z (o a6y) e)) (w a10 (w a11 (o a6z) e) (w a12 (o a94) e))) (w a13 (w a14 (w a15 (o a70) e) (w a16 (o a95) e)) (w a17 (w a18 (o a71) e) (w a19 (o a96) e)))) (w a1a (w a1b (w a1c (w a1d (o a72) (o a97)) (w a1e (o a98) e)) (w a1f (w a1g (o a73) e) (w a1h (o a99) e))) (w a1i (w a1j (w a1k (o a74) e) (w a1l (o a9a) e)) (w a1m (w a1n (o a75) e) (w a76 (o a9b) e)))))) (w PySem.W.boot_o_5 (w PySem.W.boot_o_9 (w a1o (w a1p (w a1q (w a1r (o a77) (o a9c)) (w a1s (o a78) e)) (w a1t (w a1u (o a79) e) (w a1v (o a9d) e))) (w a1w (w a1x (w a1y (o a7a) e) (w a1z (o a9e) e)) (w a20 (w a21 (o a7b) e) (w a22 (o a9f) e)))) (w a23 (w a24 (w a25 (w a26 (o a7c) (o a9g)) (w a27 (o a9h) e)) (w a28 (w a29 (o a7d) e) (w a2a (o a9i) e))) (w a2b (w a2c (w a2d (o a7e) e) (w a2e (o a9j) e)) (w a2f (w a2g (o a7f) e) (w a2h (o a9k) e))))) (w a2i (w a2j (w a2k (w a2l (w a2m (o a7g) (o a9l)) (w a2n (o a7h) e)) (w a2o (w a2p (o a7i) e) (w a2q (o a9m) e))) (w a2r (w a2s (w a2t (o a7j) e) (w a2u (o a9n) e)) (w a2v (w a2w (o a7k) e) (w a2x (o a9o) e)))) (w a2y (w a2z (w a30 (w a31 (o a7l) (o a9p)) (w a32 (o a9q) e)) (w a33 (w a34 (o a7m) e) (w a35 (o a9r) e))) (w a36 (w a37 (w a38 (o a7n) e) (w a39 (o a9s) e)) (w a3a (w a3b (o a7o) e) (w a7p (o a9t) e))))))) (w PySem.W.boot_o_2 (w PySem.W.boot_o_4 (w PySem.W.boot_o_8 (w a3c (w a3d (w a3e (w a3f (o a7q) (o a9u)) (w a3g (o a7r) e)) (w a3h (w a3i (o a7s) e) (w a3j (o a9v) e))) (w a3k (w a3l (w a3m (o a7t) e) (w a3n (o a9w) e)) (w a3o (w a3p (o a7u) e) (w a3q (o a9x) e)))) (w a3r (w a3s (w a3t (w a3u (o a7v) (o a9y)) (w a3v (o a9z) e)) (w a3w (w a3x (o a7w) e) (w a3y (o aa0) e))) (w a3z (w a40 (w a41 (o a7x) e) (w a42 (o aa1) e)) (w a43 (w a44 (o a7y) e) (w a45 (o aa2) e))))) (w aa3 (w a47 (w a48 (w a49 (w a4a (o a80) (o aa4)) (w a4b (o a81) e)) (w a4c (w a4d (o a82) e) (w a4e (o aa5) e))) (w a4f (w a4g (w a4h (o a83) e) (w a4i (o aa6) e)) (w a4j (w a4k (o a84) e) (w a4l (o aa7) e)))) (w a4m (w a4n (w a4o (w a4p (o a85) (o aa8)) (w a4q (o aa9) e)) (w a4r (w a4s (o a86) e) (w a4t (o aaa) e))) (w a4u (w a4v (w a4w (o a87) e) (w a4x (o aab) e)) (w a4y (w a4z (o a88) e) (w a89 (o aac) e)))))) (w PySem.W.boot_o_6 (w PySem.W.boot_o_10 (w a50 (w a51 (w a52 (w a53 (o a8a) (o aad)) (w a54 (o a8b) e)) (w a55 (w a56 (o a8c) e) (w a57 (o aae) e))) (w a58 (w a59 (w a5a (o a8d) e) (w a5b (o aaf) e)) (w a5c (w a5d (o a8e) e) (w a5e (o aag) e)))) (w a5f (w a5g (w a5h (w a5i (o a8f) (o aah)) (w a5j (o aai) e)) (w a5k (w a5l (o a8g) e) (w a5m (o aaj) e))) (w a5n (w a5o (w a5p (o a8h) e) (w a5q (o aak) e)) (w a5r (w a5s (o a8i) e) (w a8j (o aal) e))))) (w a5t (w a5u (w a5v (w a5w (w a5x (o a8k) (o aam)) (w a5y (o a8l) e)) (w a5z (w a60 (o a8m) e) (w a61 (o aan) e))) (w a62 (w a63 (w a64 (o a8n) e) (w a65 (o aao) e)) (w a66 (w a67 (o a8o) e) (w a68 (o aap) e)))) (w a69 (w a6a (w a6b (w a6c (o a8p) (o aaq)) (w a6d (o aar) e)) (w a6e (w a6f (o a8q) e) (w a6g (o aas) e))) (w a6h (w a6i (w a6j (o a8r) e) (w a6k (o aat) e)) (w a6l (w a6m (o a8s) e) (w a8t (o aau) e))))))))
def _root_.PySem.W.Fast.tw6151566822620362176 : Params → W.BT := Ttree_462 PySem.W.Fast.tw7582377830699073474
theorem _root_.PySem.W.Fast.te6151566822620362176 : Ttree_462 Ob.A389 = PySem.W.Fast.tw6151566822620362176 := (congrArg Ttree_462 PySem.W.Fast.te7582377830699073474)
lay_quick Ob.A463
def Ttree_542 (Q : F) : Params → W.BT := (w PySem.W.boot_o_0 (w PySem.W.boot_o_1 (w Q (w PySem.W.boot_o_7 (w a00 (w a01 (w a02 (w a03 (o a6n) (o a8u)) (w a04 (o a6o) (o aav))) (w a05 (w a06 (o a6p) (o aaw)) (w a07 (o a8v) e))) (w a08 (w a09 (w a0a (o a6q) (o a8w)) (w a0b (o a8x) (o aax))) (w a0c (w a0d (o a6r) (o aay)) (w a0e (o a8y) e)))) (w a0f (w a0g (w a0h (w a0i (o a6s) (o a8z)) (w a0j (o a6t) (o aaz))) (w a0k (w a0l (o a6u) (o ab0)) (w a0m (o a90) e))) (w a0n (w a0o (w a0p (o a6v) (o ab1)) (w a0q (o a91) (o ab2))) (w a0r (w a0s (o a6w) (o ab3)) (w a0t (o a92) e))))) (w a0u (w a0v (w a0w (w a0x (w a0y (o a6x) (o a93)) (w a0z (o a6y) (o ab4))) (w a10 (w a11 (o a6z) (o ab5)) (w a12 (o a94) e))) (w a13 (w a14 (w a15 (o a70) (o ab6)) (w a16 (o a95) (o ab7))) (w a17 (w a18 (o a71) (o ab8)) (w a19 (o a96) e)))) (w a1a (w a1b (w a1c (w a1d (o a72) (o a97)) (w a1e (o a98) (o ab9))) (w a1f (w a1g (o a73) (o aba)) (w a1h (o a99) e))) (w a1i (w a1j (w a1k (o a74) (o abb)) (w a1l (o a9a) (o abc))) (w a1m (w a1n (o a75) (o abd)) (w a76 (o a9b) e)))))) (w PySem.W.boot_o_5 (w PySem.W.boot_o_9 (w a1o (w a1p (w a1q (w a1r (o a77) (o a9c)) (w a1s (o a78) (o abe))) (w a1t (w a1u (o a79) (o abf)) (w a1v (o a9d) e))) (w a1w (w a1x (w a1y (o a7a) (o abg)) (w a1z (o a9e) (o abh))) (w a20 (w a21 (o a7b) (o abi)) (w a22 (o a9f) e)))) (w a23 (w a24 (w a25 (w a26 (o a7c) (o a9g)) (w a27 (o a9h) (o abj))) (w a28 (w a29 (o a7d) (o abk)) (w a2a (o a9i) e))) (w a2b (w a2c (w a2d (o a7e) (o abl)) (w a2e (o a9j) (o abm))) (w a2f (w a2g (o a7f) (o abn)) (w a2h (o a9k) e))))) (w a2i (w a2j (w a2k (w a2l (w a2m (o a7g) (o a9l)) (w a2n (o a7h) (o abo))) (w a2o (w a2p (o a7i) (o abp)) (w a2q (o a9m) e))) (w a2r (w a2s (w a2t (o a7j) (o abq)) (w a2u (o a9n) (o abr))) (w a2v (w a2w (o a7k) (o abs)) (w a2x (o a9o) e)))) (w a2y (w a2z (w a30 (w a31 (o a7l) (o a9p)) (w a32 (o a9q) (o abt))) (w a33 (w a34 (o a7m) (o abu)) (w a35 (o a9r) e))) (w a36 (w a37 (w a38 (o a7n) (o abv)) (w a39 (o a9s) (o abw))) (w a3a (w a3b (o a7o) (o abx)) (w a7p (o a9t) e))))))) (w PySem.W.boot_o_2 (w PySem.W.boot_o_4 (w PySem.W.boot_o_8 (w a3c (w a3d (w a3e (w a3f (o a7q) (o a9u)) (w a3g (o a7r) (o aby))) (w a3h (w a3i (o a7s) (o abz)) (w a3j (o a9v) e))) (w a3k (w a3l (w a3m (o a7t) (o ac0)) (w a3n (o a9w) (o ac1))) (w a3o (w a3p (o a7u) (o ac2)) (w a3q (o a9x) e)))) (w a3r (w a3s (w a3t (w a3u (o a7v) (o a9y)) (w a3v (o a9z) (o ac3))) (w a3w (w a3x (o a7w) (o ac4)) (w a3y (o aa0) e))) (w a3z (w a40 (w a41 (o a7x) (o ac5)) (w a42 (o aa1) (o ac6))) (w a43 (w a44 (o a7y) (o ac7)) (w a45 (o aa2) e))))) (w ac8 (w a47 (w a48 (w a49 (w a4a (o a80) (o aa4)) (w a4b (o a81) (o ac9))) (w a4c (w a4d (o a82) (o aca)) (w a4e (o aa5) e))) (w a4f (w a4g (w a4h (o a83) (o acb)) (w a4i (o aa6) (o acc))) (w a4j (w a4k (o a84) (o acd)) (w a4l (o aa7) e)))) (w a4m (w a4n (w a4o (w a4p (o a85) (o aa8)) (w a4q (o aa9) (o ace))) (w a4r (w a4s (o a86) (o acf)) (w a4t (o aaa) e))) (w a4u (w a4v (w a4w (o a87) (o acg)) (w a4x (o aab) (o ach))) (w a4y (w a4z (o a88) (o aci)) (w a89 (o aac) e)))))) (w PySem.W.boot_o_6 (w PySem.W.boot_o_10 (w a50 (w a51 (w a52 (w a53 (o a8a) (o aad)) (w a54 (o a8b) (o acj))) (w a55 (w a56 (o a8c) (o ack)) (w a57 (o aae) e))) (w a58 (w a59 (w a5a (o a8d) (o acl)) (w a5b (o aaf) (o acm))) (w a5c (w a5d (o a8e) (o acn)) (w a5e (o aag) e)))) (w a5f (w a5g (w a5h (w a5i (o a8f) (o aah)) (w a5j (o aai) (o aco))) (w a5k (w a5l (o a8g) (o acp)) (w a5m (o aaj) e))) (w a5n (w a5o (w a5p (o a8h) (o acq)) (w a5q (o aak) (o acr))) (w a5r (w a5s (o a8i) (o acs)) (w a8j (o aal) e))))) (w a5t (w a5u (w a5v (w a5w (w a5x (o a8k) (o aam)) (w a5y (o a8l) (o act))) (w a5z (w a60 (o a8m) (o acu)) (w a61 (o aan) e))) (w a62 (w a63 (w a64 (o a8n) (o acv)) (w a65 (o aao) (o acw))) (w a66 (w a67 (o a8o) (o acx)) (w a68 (o aap) e)))) (w a69 (w a6a (w a6b (w a6c (o a8p) (o aaq)) (w a6d (o aar) (o acy))) (w a6e (w a6f (o a8q) (o acz)) (w a6g (o aas) e))) (w a6h (w a6i (w a6j (o a8r) (o ad0)) (w a6k (o aat) e)) (w a6l (w a6m (o a8s) (o ad1)) (w a8t (o aau) e))))))))
def _root_.PySem.W.Fast.tw2775888711077320379 : Params → W.BT := Ttree_542 PySem.W.Fast.tw6086692868395980073
theorem _root_.PySem.W.Fast.te2775888711077320379 : Ttree_542 Ob.A463 = PySem.W.Fast.tw2775888711077320379 := (congrArg Ttree_542 PySem.W.Fast.te6086692868395980073)
end
end Ob
namespace L2
open PySem PySem.Spec PyProof.Rows
abbrev Key:=Sum Int Str
def t_:Key → Value → Bool
  | .inl k,v => Value.isInt k v
  | .inr x,v => Value.isStrOf x v
def keyH (w:World):Key → Int
  | .inl k => hashInt k
  | .inr x => hashStr w x
theorem bI:∀ {k:Key} {v:Value},t_ k v = true → (∃ i t,k = Sum.inl i ∧ v = Value.int i t) ∨ (∃ x t,k = Sum.inr x ∧ v = Value.str x t)
  | .inl i,v,h => by
    obtain ⟨t,e⟩:=Value.isInt_shape (k:=i) (v:=v) h
    exact .inl ⟨i,t,rfl,e⟩
  | .inr x,v,h => by
    obtain ⟨t,e⟩:=Value.isStrOf_shape (x:=x) (v:=v) h
    exact .inr ⟨x,t,rfl,e⟩
theorem vQ (a b:Int):decide ((Sum.inl a:Key) = Sum.inl b) = (a == b):=by
  by_cases e:a = b
  · subst e; simp
  · have h : ¬ (Sum.inl a:Key) = Sum.inl b:=fun q => e (Sum.inl.inj q)
    rw [decide_eq_false h]
    exact (beq_eq_false_iff_ne.mpr e).symm
theorem wr (a b:Str):decide ((Sum.inr a:Key) = Sum.inr b) = decide (a = b):=by
  by_cases e:a = b
  · subst e; simp
  · have h : ¬ (Sum.inr a:Key) = Sum.inr b:=fun q => e (Sum.inr.inj q)
    rw [decide_eq_false h,decide_eq_false e]
theorem wb (a:Int) (b:Str):decide ((Sum.inl a:Key) = Sum.inr b) = false:=decide_eq_false (fun q => nomatch q)
theorem wJ (a:Str) (b:Int):decide ((Sum.inr a:Key) = Sum.inl b) = false:=decide_eq_false (fun q => nomatch q)
def kv (prog:Program) (w:World):PySem.KeyKind prog w Key where
  is:=t_
  hash:=keyH w
  inj:=fun v a b ha hb => by
    rcases bI ha with ⟨i,t,rfl,rfl⟩ | ⟨x,t,rfl,rfl⟩
    · rcases bI hb with ⟨j,u,rfl,e⟩ | ⟨y,u,rfl,e⟩
      · injection e with e1 _; rw [e1]
      · exact nomatch e
    · rcases bI hb with ⟨j,u,rfl,e⟩ | ⟨y,u,rfl,e⟩
      · exact nomatch e
      · injection e with e1 _; rw [e1]
  byValue:=fun k v h => by
    rcases bI h with ⟨i,t,rfl,rfl⟩ | ⟨x,t,rfl,rfl⟩ <;> rfl
  pyHash:=fun hv h => by
    rcases bI hv with ⟨i,t,rfl,rfl⟩ | ⟨x,t,rfl,rfl⟩
    · exact wpAny_pyHash_int h
    · exact wpAny_pyHash_str h
  eqBool:=fun hu hv h => by
    rcases bI hu with ⟨i,t,rfl,rfl⟩ | ⟨x,t,rfl,rfl⟩
    · rcases bI hv with ⟨j,u,rfl,rfl⟩ | ⟨y,u,rfl,rfl⟩
      · rw [vQ] at h; exact wpAny_eqBool_int h
      · rw [wb] at h; exact SeqAt.EqAt.int_str i t y u _ _ _ _ h
    · rcases bI hv with ⟨j,u,rfl,rfl⟩ | ⟨y,u,rfl,rfl⟩
      · rw [wJ] at h; exact SeqAt.EqAt.str_int x t j u _ _ _ _ h
      · rw [wr] at h; exact wpAny_eqBool_str h
  «strs»:=fun k x t v h => by
    rcases bI h with ⟨i,u,rfl,e⟩ | ⟨y,u,rfl,e⟩
    · exact nomatch e
    · injection e with e1 _
      subst e1
      cases v <;> rfl
inductive V where
  | non | bl (b:Bool) | int (i:Int) | str (x:Str) | byt (b:Array UInt8) | flt (b:UInt64) | ref (a:Addr) | ty (n:String)
  deriving DecidableEq
def bf:V → Value → Prop
  | .non,u => u = Value.none
  | .bl b,u => u = Value.bool b
  | .int i,u => ∃ t,u = Value.int i t
  | .str x,u => ∃ t,u = Value.str x t
  | .byt b,u => ∃ t,u = Value.bytes b t
  | .flt b,u => ∃ t,u = Value.float b t
  | .ref a,u => u = Value.ref a
  | .ty n,u => u = Value.type n
abbrev aY:List V → List Value → Prop:=Paired bf
theorem aY.length {xs:List V} {us:List Value} (r:aY xs us):xs.length = us.length:=Paired.length r
theorem aY.get:∀ {xs:List V} {us:List Value} {i:Nat} {x:V},aY xs us → xs[i]? = some x → ∃ u,us[i]? = some u ∧ bf x u
  | _,_,_,_,.nil,e => by simp at e
  | _,_,0,_,.cons r _,e => by simp at e; subst e; exact ⟨_,rfl,r⟩
  | _,_,i + 1,x,.cons _ t,e => by
    obtain ⟨u,h1,h2⟩:=aY.get (i:=i) (x:=x) t (by simpa using e)
    exact ⟨u,by simpa using h1,h2⟩
theorem aY.set {x:V} {u:Value} (r:bf x u):∀ {xs:List V} {us:List Value} (i:Nat),aY xs us → aY (xs.set i x) (us.set i u)
  | _,_,_,.nil => .nil
  | _,_,0,.cons _ t => .cons r t
  | _,_,i + 1,.cons q t => .cons q (aY.set r i t)
theorem aY.append:∀ {xs ys:List V} {us ws:List Value},aY xs us → aY ys ws → aY (xs ++ ys) (us ++ ws)
  | _,_,_,_,.nil,s => s
  | _,_,_,_,.cons r t,s => .cons r (aY.append t s)
theorem aY.take:∀ {xs:List V} {us:List Value} (n:Nat),aY xs us → aY (xs.take n) (us.take n)
  | _,_,0,_ => .nil
  | _,_,_ + 1,.nil => .nil
  | _,_,n + 1,.cons r t => .cons r (aY.take n t)
theorem aY.drop:∀ {xs:List V} {us:List Value} (n:Nat),aY xs us → aY (xs.drop n) (us.drop n)
  | _,_,0,r => r
  | _,_,_ + 1,.nil => .nil
  | _,_,n + 1,.cons _ t => aY.drop n t
def RelO:Option V → Option Value → Prop
  | some v,some u => bf v u
  | none,none => True
  | _,_ => False
def KV {κ:Type}:List (κ × V) → List (κ × Value) → Prop:=Paired fun (p : κ × V) (q : κ × Value) => p.1 = q.1 ∧ bf p.2 q.2
def kV:Key → V
  | .inl i => .int i
  | .inr x => .str x
inductive HO where
  
  | lst (xs:List V)
  
  | tup (xs:List V)
  
  | dK (kvs:List (Key × V)) | dT (kvs:List (List Key × V))
  
  | set (S:Int → Bool) (n:Nat)
  
  | ins (C dx:Addr) (fs:List (Str × V))
  
  | own (x:Addr)
  
  | xd (fs:List (Str × V))
  
  | met (f x:Addr)
  
  | rng (lo hi:Int)
  
  | frz (o:Obj) (u:HO)
  
  | tbl (ps:Array Value)
  
  | ext (φ:Heap → Prop)
abbrev Hp:=Addr → Option HO
def upd (H:Hp) (a:Addr) (o:HO):Hp:=fun b => if b = a then some o else H b
theorem aW {H:Hp} {a:Addr} {o:HO}:upd H a o a = some o:=by unfold upd; rw [if_pos rfl]
theorem ax {H:Hp} {a b:Addr} {o:HO} (h:b ≠ a):upd H a o b = H b:=by unfold upd; rw [if_neg h]
theorem av {H:Hp} {a b:Addr} {o:HO} (h:H a = some o) (h':H b = none):a ≠ b:=by
  intro e; subst e; rw [h] at h'; cases h'
section
variable (P:Program) (w:World)
def b7 (H:Hp) (h:Heap) (a:Addr):HO → Prop
  | .lst xs => xs.length ≤ sizeLine ∧ ∃ (its:List Value) (n:Nat),aY xs its ∧ h.get? a = some { cls:=.type "list",data:=.seq its.toArray n }
  | .tup xs => xs.length ≤ sizeLine ∧ ∃ its:List Value,aY xs its ∧ IsTup h a its.toArray
  | .dK kvs => kvs.length ≤ sizeLine ∧ (a == sysModules) = false ∧ ∃ vs,KV kvs vs ∧ h.DictOf (kv P w) a vs
  | .dT kvs => kvs.length ≤ sizeLine ∧ (a == sysModules) = false ∧ ∃ xs:List (List Key × Addr × Value),
      Paired (fun (p:List Key × V) (q:List Key × Addr × Value) => p.1 = q.1 ∧ H q.2.1 = some (.tup (p.1.map kV)) ∧ bf p.2 q.2.2) kvs xs ∧
      ∃ o es ep,h.get? a = some o ∧ o.ExactDict ∧ o.data = .dict es ep ∧ es.toList = xs.map (entryOfKey (tupleKind (kv P w))) ∧ (xs.map (·.1)).Nodup
  | .set S n => h.SetOf (intKind P w) a S n
  | .ins C dx fs => H dx = some (.own a) ∧ fs.length ≤ 1000 ∧ dx ≠ a ∧ h.get? a = some (PySem.W.instObj C dx) ∧
      ∃ mA,h.Ns1 dx mA ∧ (∀ f,RelO (fs.lookup f) (mA f)) ∧ PySem.Within mA (fs.map (·.1))
  | .own _ => ∃ o,h.get? a = some o
  | .xd fs => ∃ mA,h.Ns1 a mA ∧ ∀ f,RelO (fs.lookup f) (mA f)
  | .rng lo hi => ∃ t u v,h.get? a = some { cls:=.type "range",data:=.fields #[.int lo t,.int hi u,.int 1 v] }
  | .frz o u => h.get? a = some o ∧ b7 H h a u
  | .tbl ps => h.get? a = some { cls:=.none,data:=.fields ps }
  | .met f x => h.get? a = some (PySem.W.methodObj (.ref f) (.ref x))
  | .ext φ => φ h ∧ (∃ o,h.get? a = some o) ∧ ∀ h1 h2:Heap,φ h1 → (∀ o,h1.get? a = some o → h2.get? a = some o) → φ h2
def HOk (H:Hp) (h:Heap):Prop:=∀ a o,H a = some o → b7 P w H h a o
end
section
variable {P:Program} {w:World} {H H':Hp} {h h':Heap} {a:Addr} {o:HO}
theorem b7.lt (x:b7 P w H h a o):a < h.objs.size:=by
  cases o with
  | lst xs => obtain ⟨_,_,_,_,e⟩:=x; exact Heap.lt_size e
  | tup xs => obtain ⟨_,_,_,p⟩:=x; exact p.lt
  | dK kvs => obtain ⟨_,_,_,_,o,_,_,e,_⟩:=x; exact Heap.lt_size e
  | dT kvs => obtain ⟨_,_,_,_,o,_,_,e,_⟩:=x; exact Heap.lt_size e
  | set S n => obtain ⟨o,_,_,_,e,_⟩:=x; exact Heap.lt_size e
  | ins C dx fs => obtain ⟨_,_,_,e,_⟩:=x; exact Heap.lt_size e
  | own y => obtain ⟨_,e⟩:=x; exact Heap.lt_size e
  | xd fs => obtain ⟨_,⟨_,_,_,e,_⟩,_⟩:=x; exact Heap.lt_size e
  | rng lo hi => obtain ⟨_,_,_,e⟩:=x; exact Heap.lt_size e
  | frz ob u => obtain ⟨e,_⟩:=x; exact Heap.lt_size e
  | tbl ps => exact Heap.lt_size (show h.get? a = some _ from x)
  | met f y => exact Heap.lt_size (show h.get? a = some _ from x)
  | ext φ => obtain ⟨_,⟨_,e⟩,_⟩:=x; exact Heap.lt_size e
theorem Paired.mapP {α β:Type} {F G : α → β → Prop}:∀ {l₁:List α} {l₂:List β},Paired F l₁ l₂ → (∀ a b,F a b → G a b) → Paired G l₁ l₂
  | _,_,.nil,_ => .nil
  | _,_,.cons r t,f => .cons (f _ _ r) (Paired.mapP t f)
theorem b7.stay (x:b7 P w H h a o) (k:∀ b u,(b = a ∨ H b = some (.own a)) → h.get? b = some u → h'.get? b = some u)
    (ho:∀ b,H b = some (.own a) → H' b = some (.own a)) (ht:∀ b xs,H b = some (.tup xs) → H' b = some (.tup xs)):b7 P w H' h' a o:=by
  induction o with
  | lst xs => obtain ⟨z,its,n,r,e⟩:=x; exact ⟨z,its,n,r,k _ _ (.inl rfl) e⟩
  | tup xs => obtain ⟨z,its,r,ob,e,c⟩:=x; exact ⟨z,its,r,ob,k _ _ (.inl rfl) e,c⟩
  | dK kvs => obtain ⟨z,y,vs,r,ob,es,ep,e,c⟩:=x; exact ⟨z,y,vs,r,ob,es,ep,k _ _ (.inl rfl) e,c⟩
  | dT kvs =>
    obtain ⟨z,y,xs,r,ob,es,ep,e,c⟩:=x
    exact ⟨z,y,xs,Paired.mapP r fun p q z => ⟨z.1,ht _ _ z.2.1,z.2.2⟩,ob,es,ep,k _ _ (.inl rfl) e,c⟩
  | set S n => obtain ⟨ob,es,ep,t,e,c⟩:=x; exact ⟨ob,es,ep,t,k _ _ (.inl rfl) e,c⟩
  | ins C dx fs =>
    obtain ⟨d,z,ne,e,mA,⟨od,es,ep,e2,c⟩,r⟩:=x
    exact ⟨ho _ d,z,ne,k _ _ (.inl rfl) e,mA,⟨od,es,ep,k _ _ (.inr d) e2,c⟩,r⟩
  | own y => obtain ⟨ob,e⟩:=x; exact ⟨ob,k _ _ (.inl rfl) e⟩
  | xd fs => obtain ⟨mA,⟨od,es,ep,e,c⟩,r⟩:=x; exact ⟨mA,⟨od,es,ep,k _ _ (.inl rfl) e,c⟩,r⟩
  | rng lo hi => obtain ⟨t,u,v,e⟩:=x; exact ⟨t,u,v,k _ _ (.inl rfl) e⟩
  | frz ob u ih => obtain ⟨e,q⟩:=x; exact ⟨k _ _ (.inl rfl) e,ih q⟩
  | tbl ps =>
    have e:h.get? a = some { cls:=.none,data:=.fields ps }:=x
    show h'.get? a = some { cls:=.none,data:=.fields ps }
    exact k a _ (.inl rfl) e
  | met f y =>
    have e:h.get? a = some (PySem.W.methodObj (.ref f) (.ref y)):=x
    show h'.get? a = some (PySem.W.methodObj (.ref f) (.ref y))
    exact k a _ (.inl rfl) e
  | ext φ => obtain ⟨p,⟨o,e⟩,st⟩:=x; exact ⟨st _ _ p fun o q => k _ _ (.inl rfl) q,⟨o,k _ _ (.inl rfl) e⟩,st⟩
theorem HOk.lt (x:HOk P w H h) (e:H a = some o):a < h.objs.size:=(x a o e).lt
theorem HOk.fresh (x:HOk P w H h) (e:h.objs.size ≤ a):H a = none:=by
  cases q:H a with
  | none => rfl
  | some u => exact absurd (Nat.lt_of_lt_of_le (x.lt q) e) (Nat.lt_irrefl _)
theorem HOk.kept (x:HOk P w H h) (k:∀ b u,h.get? b = some u → h'.get? b = some u):HOk P w H h':=fun a o e =>
  (x a o e).stay (fun b u _ q => k b u q) (fun _ q => q) fun _ _ q => q
theorem HOk.laid (x:HOk P w H h) (k:∀ b u,h.get? b = some u → h'.get? b = some u) (hp:h.objs.size ≤ a) (new:b7 P w (upd H a o) h' a o):HOk P w (upd H a o) h':=fun b u e => by
  have hn:=x.fresh hp
  by_cases hb:b = a
  · subst hb; rw [aW] at e; cases e; exact new
  · rw [ax hb] at e
    exact (x b u e).stay (fun c v _ q => k c v q) (fun c q => by rw [ax (av q hn)]; exact q) fun c xs q => by rw [ax (av q hn)]; exact q
end
def Rd (H:Hp) (a:Addr) (u:HO):Prop:=H a = some u ∨ ∃ o,H a = some (.frz o u)
theorem Rd.ok {P:Program} {w:World} {H:Hp} {h:Heap} {a:Addr} {u:HO} (r:Rd H a u) (x:HOk P w H h):b7 P w H h a u:=by
  rcases r with r | ⟨o,r⟩
  · exact x a u r
  · obtain ⟨_,q⟩:=x a _ r
    exact q
def Mut:Option HO → Prop
  | some (.lst _) => True
  | some (.dK _) => True
  | some (.dT _) => True
  | some (.set _ _) => True
  | some (.ins _ _ _) => True
  | some (.ext _) => True
  | _ => False
section
variable {P:Program} {w:World} {H:Hp} {h h':Heap} {x e:Addr} {o':HO}
theorem HOk.write (ok:HOk P w H h) (mu:Mut (H x)) (he:e = x ∨ H e = some (.own x)) (k:∀ b u,b ≠ e → h.get? b = some u → h'.get? b = some u) (heo:∃ u,h'.get? e = some u)
    (new:b7 P w (upd H x o') h' x o'):HOk P w (upd H x o') h':=fun b u q => by
  have nown:∀ c y,H c = some (.own y) → c ≠ x:=fun c y r z => by subst z; rw [r] at mu; exact mu
  have ntup:∀ c xs,H c = some (.tup xs) → c ≠ x:=fun c xs r z => by subst z; rw [r] at mu; exact mu
  by_cases hb:b = x
  · subst hb; rw [aW] at q; cases q; exact new
  · rw [ax hb] at q
    by_cases hbe:b = e
    · have q':H b = some (.own x):=by
        rcases he with z | z
        · exact absurd (hbe.trans z) hb
        · rw [hbe]; exact z
      rw [q] at q'; cases q'
      obtain ⟨v,hv⟩:=heo
      exact ⟨v,by rw [hbe]; exact hv⟩
    · refine (ok b u q).stay (fun c v hc r => k c v ?_ r) (fun c r => by rw [ax (nown c b r)]; exact r) fun c xs r => by rw [ax (ntup c xs r)]; exact r
      rcases hc with rfl | hc
      · exact hbe
      · rintro rfl
        rcases he with z | z
        · exact nown c b hc z
        · rw [hc] at z; cases z; exact hb rfl
end
structure Un (fs ex:List Addr) (H H':Hp) (h h':Heap):Prop where
  keep:∀ b o,h.get? b = some o → H b = none → b ∉ fs → b ∉ ex → h'.get? b = some o
  slot:∀ b o,h.get? b = some o → H b = none → b ∈ fs → b ∉ ex → ∃ sl,h'.get? b = some { o with slots:=sl }
  free:∀ b o,h.get? b = some o → H b = none → b ∉ ex → H' b = none
  there:∀ b o,h.get? b = some o → b ∉ ex → ∃ o',h'.get? b = some o'
  tups:∀ b xs,H b = some (.tup xs) → H' b = some (.tup xs)
  frzs:∀ b o u,H b = some (.frz o u) → H' b = some (.frz o u)
  tbls:∀ b ps,H b = some (.tbl ps) → ∃ more,H' b = some (.tbl (ps ++ more))
section
variable {fs fs' ex ex':List Addr} {H H1 H2:Hp} {h h1 h2 h':Heap} {a x e:Addr} {o:HO}
theorem Un.any (u:Un fs ex H H1 h h1) {b:Addr} {ob:Obj} (q:h.get? b = some ob) (n:H b = none) (hx:b ∉ ex):∃ sl,h1.get? b = some { ob with slots:=sl }:=by
  by_cases hb:b ∈ fs
  · exact u.slot b ob q n hb hx
  · exact ⟨ob.slots,u.keep b ob q n hb hx⟩
theorem Un.kept (k:∀ b u,h.get? b = some u → h'.get? b = some u):Un fs ex H H h h' :=
  ⟨fun b ob q _ _ _ => k b ob q,fun b ob q _ _ _ => ⟨ob.slots,k b ob q⟩,fun _ _ _ n _ => n,fun b ob q _ => ⟨ob,k b ob q⟩,fun _ _ q => q,fun _ _ _ q => q,fun _ ps q => ⟨#[],by rw [q]; simp⟩⟩
theorem Un.refl:Un fs ex H H h h:=Un.kept fun _ _ q => q
theorem Un.laid (k:∀ b u,h.get? b = some u → h'.get? b = some u) (hp:h.objs.size ≤ a) (hn:H a = none):Un fs ex H (upd H a o) h h' where
  keep:=fun b u q _ _ _ => k b u q
  slot:=fun b u q _ _ _ => ⟨u.slots,k b u q⟩
  free:=fun b u q n _ => by rw [ax (Nat.ne_of_lt (Nat.lt_of_lt_of_le (Heap.lt_size q) hp))]; exact n
  there:=fun b u q _ => ⟨u,k b u q⟩
  tups:=fun b xs q => by rw [ax (av q hn)]; exact q
  frzs:=fun b u xs q => by rw [ax (av q hn)]; exact q
  tbls:=fun b ps q => ⟨#[],by rw [ax (av q hn),q]; simp⟩
theorem Un.write (mu:Mut (H x)) (he:e = x ∨ H e = some (.own x)) (k:∀ b u,b ≠ e → h.get? b = some u → h'.get? b = some u) (heo:∃ u,h'.get? e = some u):Un fs ex H (upd H x o) h h':=by
  have hx:∀ b,H b = none → b ≠ x:=fun b n z => by subst z; rw [n] at mu; exact mu
  have hb:∀ b,H b = none → b ≠ e:=fun b n z => by
    subst z
    rcases he with r | r
    · exact hx b n r
    · rw [n] at r; cases r
  have hm:∀ b u,H b = some u → ¬ Mut (some u) → b ≠ x:=fun b u q nm z => by subst z; rw [q] at mu; exact nm mu
  refine ⟨fun b u q n _ _ => k b u (hb b n) q,fun b u q n _ _ => ⟨u.slots,k b u (hb b n) q⟩,fun b u q n _ => by rw [ax (hx b n)]; exact n,fun b u q _ => ?_,
    fun b xs q => by rw [ax (hm b _ q fun z => z)]; exact q,fun b u xs q => by rw [ax (hm b _ q fun z => z)]; exact q,fun b ps q => ⟨#[],by rw [ax (hm b _ q fun z => z),q]; simp⟩⟩
  by_cases hbe:b = e
  · subst hbe; exact heo
  · exact ⟨u,k b u hbe q⟩
end
def trk (h:Heap) (H:Hp):List Addr:=(List.range h.objs.size).filter fun a => (H a).isSome
def km (h:Heap) (H:Hp):Heap:=PySem.W.hideAll h (trk h H)
theorem oS (h:Heap) (H:Hp):(km h H).objs.size = h.objs.size:=PySem.W.hideAll_size _ _
theorem pZ {h:Heap} {H:Hp} {b:Addr} {o:Obj} (e:h.get? b = some o) (n:H b = none):(km h H).get? b = some o :=
  PySem.W.hideAll_get _ e fun hm => by
    have q:(H b).isSome = true:=(List.mem_filter.mp hm).2
    rw [n] at q; simp at q
theorem tD {h:Heap} {H:Hp} {b:Addr} {o:Obj} (e:(km h H).get? b = some o):h.get? b = some o ∧ H b = none:=by
  have e':h.get? b = some o:=PySem.W.of_hideAll (trk h H) e
  refine ⟨e',?_⟩
  cases q:H b with
  | none => rfl
  | some x =>
    have hm:b ∈ trk h H:=List.mem_filter.mpr ⟨List.mem_range.mpr (Heap.lt_size e'),by simp [q]⟩
    have z:(km h H).get? b = none:=PySem.W.hideAll_none (trk h H) hm
    rw [z] at e; cases e
structure Mod (K:PySem.W.Frag) (mg:Str → Option Value) (base:Heap):Prop where
  kin:K.In base
  glob:base.Ns mainGlobals mg
  blt:∃ mb,base.Ns builtinsNs mb ∧ ∀ x:Str,x ≠ "__name__" → mb x = bootBuiltins x
  nolimit:base.NoLimit
structure Cx where
  prog:Program
  w:World
  K:PySem.W.Frag
  mg:Str → Option Value
  base:Heap
  A:Around
  N:List Str
  s₀:Shared
  H₀:Hp
  env:Env
  outer:List Env
  stack:List Env
  ex:List Addr
  fn:Str → Bool
  calm:Bool
  pn:List (Addr × Obj)
  xe:Value → Shared → Prop
def frs (l:List Env):List Addr:=l.filterMap (·.frame)
abbrev Cx.fs (X:Cx):List Addr:=frs X.outer
def Vis (sc:Scope) (x:Str):Prop:=sc.names.lookup x = some .local ∨ sc.names.lookup x = some .cell ∨ sc.names.lookup x = some .free
def Loc (sc:Scope) (x:Str):Prop:=sc.names.lookup x = some .local ∨ sc.names.lookup x = some .cell
def Look (env:Env) (h:Heap) (m:Str → Option Value) (x:Str) (u:Value):Prop :=
  (env.kindOf x = some .local ∧ m x = some u) ∨ ((env.kindOf x = some .cell ∨ env.kindOf x = some .free) ∧ ∃ c,env.cells.lookup x = some c ∧ h.IsCell c (some u))
structure Cx.Ok (X:Cx):Prop where
  mod:Mod X.K X.mg X.base
  kind:X.env.scope.kind = .function
  glob:X.env.globals = mainGlobals
  blt:X.env.builtins = builtinsNs
  above:X.s₀.heap.objs.size ≤ X.env.locals
  inj:∀ x y c,X.env.cells.lookup x = some c → X.env.cells.lookup y = some c → x = y
  has:∀ x,(X.env.kindOf x = some .cell ∨ X.env.kindOf x = some .free) → ∃ c,X.env.cells.lookup x = some c
  cab:∀ x c,X.fn x = true → X.env.cells.lookup x = some c → X.s₀.heap.objs.size ≤ c
  hd:X.calm = true → X.A.handled = none
  frames:X.A.frames = some X.stack
  stk:X.stack = X.outer ∨ (X.stack = X.env :: X.outer ∧ X.env.frame = some X.env.locals)
  exf:∀ b ∈ X.ex,b ≠ X.env.locals ∧ ∀ x c,X.env.cells.lookup x = some c → c ≠ b
  bs:∀ b o,X.base.get? b = some o → X.s₀.heap.get? b = some o ∧ X.H₀ b = none
  bsz:X.base.objs.size ≤ X.s₀.heap.objs.size
  noex:∀ b o,X.base.get? b = some o → b ∉ X.ex
  exfs:∀ b ∈ X.ex,b ∉ X.fs
  funs:X.s₀.heap.FunFrames X.base X.outer
  frf:∀ b ∈ X.fs,X.H₀ b = none
structure Inv (X:Cx) (pins:List (Addr × Obj)) (σ:List (Option V)) (H:Hp) (s:Shared):Prop where
  ok:X.Ok
  os:s.os = X.s₀.os
  bare:AllBare s.gens
  base:Un X.fs X.ex X.H₀ H X.s₀.heap s.heap
  loc:∃ m,s.heap.Ns X.env.locals m ∧ ∀ (i:Nat) (x:Str) (v:V),X.N[i]? = some x → σ[i]? = some (some v) → Vis X.env.scope x → ∃ u,bf v u ∧ Look X.env s.heap m x u
  cell:∀ x c,X.env.cells.lookup x = some c → ∃ v,s.heap.IsCell c v
  free:H X.env.locals = none
  freeC:∀ x c,X.env.cells.lookup x = some c → H c = none
  pin:∀ p ∈ X.pn ++ pins,s.heap.get? p.1 = some p.2 ∧ H p.1 = none ∧ p.1 ≠ X.env.locals ∧ p.1 ∉ X.fs ∧ ∀ v,p.2.data ≠ .cell v
  hok:HOk X.prog X.w H s.heap
  len : σ.length = X.N.length
section
variable {X:Cx} {pins:List (Addr × Obj)} {σ:List (Option V)} {H H':Hp} {s:Shared} {h':Heap}
theorem Cx.Ok.nofr (ok:X.Ok) {b:Addr} {o:Obj} (e:X.base.get? b = some o):b ∉ X.fs:=fun hb => by
  have:=(ok.funs.mem hb).1
  rw [e] at this; cases this
theorem Inv.bs (I:Inv X pins σ H s):∀ b o,X.base.get? b = some o → s.heap.get? b = some o ∧ H b = none:=fun b o e =>
  ⟨I.base.keep b o (I.ok.bs b o e).1 (I.ok.bs b o e).2 (I.ok.nofr e) (I.ok.noex b o e),I.base.free b o (I.ok.bs b o e).1 (I.ok.bs b o e).2 (I.ok.noex b o e)⟩
theorem Inv.bk (I:Inv X pins σ H s):∀ b o,X.base.get? b = some o → s.heap.get? b = some o:=fun b o e => (I.bs b o e).1
theorem Inv.mod (I:Inv X pins σ H s):Mod X.K X.mg X.base:=I.ok.mod
theorem Inv.kIn (I:Inv X pins σ H s):X.K.In s.heap:=I.ok.mod.kin.keeps I.bk
theorem Inv.fr (I:Inv X pins σ H s):∃ m,Fr X.base X.env.locals s.heap m :=
  let ⟨m,hn,_⟩:=I.loc
  ⟨m,hn,I.bk,Nat.le_trans I.ok.bsz I.ok.above⟩
theorem Inv.lt (I:Inv X pins σ H s):X.env.locals < s.heap.objs.size:=let ⟨_,hn,_⟩:=I.loc; hn.lt
theorem Inv.sz (I:Inv X pins σ H s):X.s₀.heap.objs.size ≤ s.heap.objs.size:=Nat.le_trans I.ok.above (Nat.le_of_lt I.lt)
theorem Inv.nofs (I:Inv X pins σ H s) {a:Addr} (h:s.heap.objs.size ≤ a):a ∉ X.fs:=fun hb => by
  obtain ⟨_,o,ho,_⟩:=I.ok.funs.mem hb
  exact absurd (Nat.lt_of_lt_of_le (Heap.lt_size ho) (Nat.le_trans I.sz h)) (Nat.lt_irrefl _)
theorem Inv.cne (I:Inv X pins σ H s):∀ x c,X.env.cells.lookup x = some c → c ≠ X.env.locals:=fun x c e z => by
  obtain ⟨v,o,ho,hd⟩:=I.cell x c e
  obtain ⟨m,⟨o',es,ep,ho',hd',_⟩,_⟩:=I.loc
  rw [z,ho'] at ho; cases ho; rw [hd'] at hd; cases hd
theorem Inv.funs (I:Inv X pins σ H s):s.heap.FunFrames X.base X.outer:=by
  have all:∀ (l:List Env),(∀ b ∈ frs l,b ∈ X.fs) → X.s₀.heap.FunFrames X.base l → s.heap.FunFrames X.base l:=by
    intro l
    induction l with
    | nil => intro _ _; trivial
    | cons env r ih =>
      intro hs hl
      obtain ⟨hk,⟨L,o,hf,hn,ho,hd⟩,hr⟩:=hl
      have hL:L ∈ X.fs:=hs L (by unfold frs; rw [List.filterMap_cons,hf]; exact List.mem_cons_self)
      obtain ⟨sl,e⟩:=I.base.slot L o ho (I.ok.frf L hL) hL fun z => I.ok.exfs L z hL
      exact ⟨hk,⟨L,_,hf,hn,e,hd⟩,ih (fun b hb => hs b (by unfold frs; rw [List.filterMap_cons,hf]; exact List.mem_cons_of_mem _ hb)) hr⟩
  exact all X.outer (fun _ hb => hb) I.ok.funs
theorem Inv.stack (I:Inv X pins σ H s):s.heap.FunFrames X.base X.stack:=by
  rcases I.ok.stk with e | ⟨e,hf⟩
  · rw [e]; exact I.funs
  · rw [e]
    obtain ⟨m,hn,_⟩:=I.loc
    refine .cons (by rw [I.ok.kind]; decide) hf hn ?_ I.funs
    exact Heap.get?_none_of_le (Nat.le_trans I.ok.bsz I.ok.above)
theorem Inv.stkSub (I:Inv X pins σ H s):∀ b ∈ frs X.stack,b ∈ X.env.locals :: X.fs:=fun b hb => by
  rcases I.ok.stk with e | ⟨e,hf⟩
  · rw [e] at hb; exact List.mem_cons_of_mem _ hb
  · rw [e] at hb
    unfold frs at hb
    rw [List.filterMap_cons,hf] at hb
    exact hb
theorem Inv.stkFree (I:Inv X pins σ H s):∀ b ∈ frs X.stack,H b = none:=fun b hb => by
  rcases List.mem_cons.mp (I.stkSub b hb) with e | hb
  · rw [e]; exact I.free
  · obtain ⟨_,o,ho,_⟩:=I.ok.funs.mem hb
    exact I.base.free b o ho (I.ok.frf b hb) fun z => I.ok.exfs b z hb
theorem Inv.step {g':Array GenState} {t':Nat} {d':Drawn} {ch:List Addr} (I:Inv X pins σ H s)
    (hch:∀ b ∈ ch,(b ∈ X.ex ∨ X.s₀.heap.objs.size ≤ b) ∧ b ≠ X.env.locals ∧ (∀ x c,X.env.cells.lookup x = some c → c ≠ b) ∧ ∀ p ∈ X.pn ++ pins,p.1 ≠ b)
    (keep:∀ b o,b ≠ X.env.locals → b ∉ X.fs → b ∉ ch → s.heap.get? b = some o → H b = none → h'.get? b = some o)
    (slot:∀ b o,b ≠ X.env.locals → b ∈ X.fs → b ∉ ch → s.heap.get? b = some o → H b = none → ∃ sl,h'.get? b = some { o with slots:=sl }) (free:∀ b o,b ∉ ch → s.heap.get? b = some o → H b = none → H' b = none)
    (there:∀ b o,b ∉ ch → s.heap.get? b = some o → ∃ o',h'.get? b = some o')
    (tups:∀ b xs,H b = some (.tup xs) → H' b = some (.tup xs)) (frzs:∀ b o u,H b = some (.frz o u) → H' b = some (.frz o u)) (tbls:∀ b ps,H b = some (.tbl ps) → ∃ more,H' b = some (.tbl (ps ++ more)))
    (ns:∀ m,s.heap.Ns X.env.locals m → h'.Ns X.env.locals m) (hok:HOk X.prog X.w H' h') (hg:AllBare g') :
    Inv X pins σ H' { s with heap:=h',gens:=g',drawn:=d',toks:=t' }:=by
  have neL:∀ b o,X.s₀.heap.get? b = some o → b ≠ X.env.locals:=fun b o e => Nat.ne_of_lt (Nat.lt_of_lt_of_le (Heap.lt_size e) I.ok.above)
  have neC:∀ b o,X.s₀.heap.get? b = some o → b ∉ X.ex → b ∉ ch:=fun b o e hx hb => by
    rcases (hch b hb).1 with z | z
    · exact hx z
    · exact absurd (Nat.lt_of_lt_of_le (Heap.lt_size e) z) (Nat.lt_irrefl _)
  have cellK:∀ x c,X.env.cells.lookup x = some c → ∀ v,s.heap.IsCell c v → h'.IsCell c v:=fun x c e v ⟨o,ho,hd⟩ => by
    have nch:c ∉ ch:=fun z => (hch c z).2.2.1 x c e rfl
    by_cases hc:c ∈ X.fs
    · obtain ⟨sl,q⟩:=slot c o (I.cne x c e) hc nch ho (I.freeC x c e)
      exact ⟨_,q,hd⟩
    · exact ⟨o,keep c o (I.cne x c e) hc nch ho (I.freeC x c e),hd⟩
  refine ⟨I.ok,I.os,hg,⟨fun b o e n hb hx => ?_,fun b o e n hb hx => ?_,fun b o e n hx => ?_,fun b o e hx => ?_,fun b xs e => tups b xs (I.base.tups b xs e),fun b o xs e => frzs b o xs (I.base.frzs b o xs e),fun b ps e => ?_⟩,?_,fun x c e => ?_,?_,fun x c e => ?_,fun p hp => ?_,hok,I.len⟩
  · exact keep b o (neL b o e) hb (neC b o e hx) (I.base.keep b o e n hb hx) (I.base.free b o e n hx)
  · obtain ⟨sl,e1⟩:=I.base.slot b o e n hb hx
    obtain ⟨sl',e2⟩:=slot b _ (neL b o e) hb (neC b o e hx) e1 (I.base.free b o e n hx)
    exact ⟨sl',e2⟩
  · obtain ⟨o',e1⟩:=I.base.there b o e hx
    exact free b o' (neC b o e hx) e1 (I.base.free b o e n hx)
  · obtain ⟨o',e1⟩:=I.base.there b o e hx
    exact there b o' (neC b o e hx) e1
  · obtain ⟨m1,e1⟩:=I.base.tbls b ps e
    obtain ⟨m2,e2⟩:=tbls b _ e1
    exact ⟨m1 ++ m2,by rw [e2,Array.append_assoc]⟩
  · obtain ⟨m,hn,hl⟩:=I.loc
    refine ⟨m,ns m hn,fun i x v e1 e2 e3 => ?_⟩
    obtain ⟨u,r,l⟩:=hl i x v e1 e2 e3
    refine ⟨u,r,?_⟩
    rcases l with l | ⟨k,c,e,z⟩
    · exact .inl l
    · exact .inr ⟨k,c,e,cellK x c e _ z⟩
  · obtain ⟨v,z⟩:=I.cell x c e
    exact ⟨v,cellK x c e v z⟩
  · obtain ⟨m,⟨o,_,_,ho,_⟩,_⟩:=I.loc
    exact free _ o (fun z => (hch _ z).2.1 rfl) ho I.free
  · obtain ⟨v,o,ho,hd⟩:=I.cell x c e
    exact free c o (fun z => (hch c z).2.2.1 x c e rfl) ho (I.freeC x c e)
  · obtain ⟨e,n,ne,nf,d⟩:=I.pin p hp
    have nch:p.1 ∉ ch:=fun z => (hch p.1 z).2.2.2 p hp rfl
    exact ⟨keep p.1 p.2 ne nf nch e n,free p.1 p.2 nch e n,ne,nf,d⟩
theorem Inv.un {t':Nat} (I:Inv X pins σ H s) (u:Un X.fs [] H H' s.heap h') (hok:HOk X.prog X.w H' h'):Inv X pins σ H' { s with heap:=h',toks:=t' }:=by
  obtain ⟨m,⟨o,es,ep,ho,r⟩,_⟩:=id I.loc
  obtain ⟨sl,hL⟩:=u.any ho I.free (by simp)
  exact I.step (g':=s.gens) (d':=s.drawn) (ch:=[]) (fun _ z => nomatch z) (fun b o _ hb _ e n => u.keep b o e n hb (by simp)) (fun b o _ hb _ e n => u.slot b o e n hb (by simp)) (fun b o _ e n => u.free b o e n (by simp)) (fun b o _ e => u.there b o e (by simp)) u.tups u.frzs u.tbls (fun m' hm => by
    obtain ⟨o',es',ep',ho',r'⟩:=hm
    rw [ho] at ho'; cases ho'
    exact ⟨_,es',ep',hL,r'⟩) hok I.bare
theorem Inv.call {g':Array GenState} {t':Nat} {d':Drawn} {ch:List Addr} (I:Inv X pins σ H s) (u:Un (frs X.stack) ch H H' s.heap h') (hok:HOk X.prog X.w H' h') (hg:AllBare g')
    (hch:∀ b ∈ ch,(b ∈ X.ex ∨ X.s₀.heap.objs.size ≤ b) ∧ b ≠ X.env.locals ∧ (∀ x c,X.env.cells.lookup x = some c → c ≠ b) ∧ ∀ p ∈ X.pn ++ pins,p.1 ≠ b) :
    Inv X pins σ H' { s with heap:=h',gens:=g',drawn:=d',toks:=t' }:=by
  obtain ⟨m,⟨o,es,ep,ho,r⟩,_⟩:=id I.loc
  obtain ⟨sl,hL⟩:=u.any ho I.free fun z => (hch _ z).2.1 rfl
  exact I.step (ch:=ch) hch (fun b o hL hb hc e n => u.keep b o e n (fun z => (List.mem_cons.mp (I.stkSub b z)).elim hL hb) hc) (fun b o _ _ hc e n => u.any e n hc) (fun b o hc e n => u.free b o e n hc) (fun b o hc e => u.there b o e hc) u.tups u.frzs u.tbls (fun m' hm => by
    obtain ⟨o',es',ep',ho',r'⟩:=hm
    rw [ho] at ho'; cases ho'
    exact ⟨_,es',ep',hL,r'⟩) hok hg
theorem Inv.turned {t':Nat} {it:Addr} (I:Inv X pins σ H s) (k:∀ b o,b ≠ it → s.heap.get? b = some o → h'.get? b = some o) (hn:H it = none) (hL:it ≠ X.env.locals)
    (h1:it ∈ X.ex ∨ X.s₀.heap.objs.size ≤ it) (h2:∀ x c,X.env.cells.lookup x = some c → c ≠ it) (h3:∀ p ∈ X.pn ++ pins,p.1 ≠ it):Inv X pins σ H { s with heap:=h',toks:=t' }:=by
  have nit:∀ b u,H b = some u → b ≠ it:=fun b u e z => by rw [z,hn] at e; cases e
  refine I.step (g':=s.gens) (d':=s.drawn) (ch:=[it]) (fun b hb => ?_) (fun b o _ _ hc e _ => k b o (fun z => hc (by simp [z])) e) (fun b o _ _ hc e _ => ⟨o.slots,k b o (fun z => hc (by simp [z])) e⟩) (fun _ _ _ _ n => n)
    (fun b o hc e => ⟨o,k b o (fun z => hc (by simp [z])) e⟩) (fun _ _ e => e) (fun _ _ _ e => e) (fun b ps e => ⟨#[],by rw [e]; simp⟩) (fun m hm => ?_) (fun b u e => ?_) I.bare
  · have e:b = it:=by simpa using hb
    subst e
    exact ⟨h1,hL,h2,h3⟩
  · obtain ⟨o,es,ep,ho,r⟩:=hm
    exact ⟨o,es,ep,k _ o (Ne.symm hL) ho,r⟩
  · refine (I.hok b u e).stay (fun c v hc q => k c v ?_ q) (fun _ q => q) fun _ _ q => q
    rcases hc with z | z
    · rw [z]; exact nit b u e
    · exact nit c _ z
theorem Inv.tok (I:Inv X pins σ H s) (t:Nat):Inv X pins σ H { s with toks:=t }:=I.un (h':=s.heap) (t':=t) Un.refl I.hok
theorem Inv.kept {t':Nat} (I:Inv X pins σ H s) (k:∀ b u,s.heap.get? b = some u → h'.get? b = some u):Inv X pins σ H { s with heap:=h',toks:=t' }:=I.un (Un.kept k) (I.hok.kept k)
theorem Inv.laid {a:Addr} {o:HO} {t':Nat} (I:Inv X pins σ H s) (k:∀ b u,s.heap.get? b = some u → h'.get? b = some u) (hp:s.heap.objs.size ≤ a) (new:b7 X.prog X.w (upd H a o) h' a o) :
    Inv X pins σ (upd H a o) { s with heap:=h',toks:=t' }:=I.un (Un.laid k hp (I.hok.fresh hp)) (I.hok.laid k hp new)
theorem Inv.write {x e:Addr} {o:HO} {t':Nat} (I:Inv X pins σ H s) (mu:Mut (H x)) (he:e = x ∨ H e = some (.own x)) (k:∀ b u,b ≠ e → s.heap.get? b = some u → h'.get? b = some u) (heo:∃ u,h'.get? e = some u)
    (new:b7 X.prog X.w (upd H x o) h' x o):Inv X pins σ (upd H x o) { s with heap:=h',toks:=t' }:=I.un (Un.write mu he k heo) (I.hok.write mu he k heo new)
theorem Inv.weak {σ':List (Option V)} (I:Inv X pins σ H s) (hl : σ'.length = σ.length) (w:∀ (i:Nat) v,σ'[i]? = some (some v) → σ[i]? = some (some v)):Inv X pins σ' H s :=
  ⟨I.ok,I.os,I.bare,I.base,let ⟨m,hn,hl'⟩:=I.loc; ⟨m,hn,fun i x v e1 e2 e3 => hl' i x v e1 (w i v e2) e3⟩,I.cell,I.free,I.freeC,I.pin,I.hok,hl.trans I.len⟩
theorem Inv.pins_of {pins':List (Addr × Obj)} (I:Inv X pins σ H s) (h:∀ p ∈ pins',s.heap.get? p.1 = some p.2 ∧ H p.1 = none ∧ p.1 ≠ X.env.locals ∧ p.1 ∉ X.fs ∧ ∀ v,p.2.data ≠ .cell v):Inv X pins' σ H s :=
  ⟨I.ok,I.os,I.bare,I.base,I.loc,I.cell,I.free,I.freeC,fun p hp => (List.mem_append.mp hp).elim (fun z => I.pin p (List.mem_append_left _ z)) (h p),I.hok,I.len⟩
theorem lH {N:List Str} (hN:N.Nodup) {i j:Nat} {x:Str} (a:N[i]? = some x) (b:N[j]? = some x):i = j:=by
  obtain ⟨h1,e1⟩:=List.getElem?_eq_some_iff.mp a
  obtain ⟨h2,e2⟩:=List.getElem?_eq_some_iff.mp b
  exact (List.getElem_inj hN).mp (e1.trans e2.symm)
theorem jD {M:Model} {A:Around} {E:Value → Shared → Prop} {i:Nat} {x:Str} {v:V} {u:Value} {Q:Unit → Shared → Prop} (I:Inv X pins σ H s) (hN:X.N.Nodup) (hi:X.N[i]? = some x) (hx:Loc X.env.scope x) (r:bf v u)
    (h:∀ s',Inv X pins (σ.set i (some v)) H s' → (∃ a,Heap.SameBut a s.heap s'.heap ∧ (a = X.env.locals ∨ X.env.cells.lookup x = some a)) → Q () s') (hf:X.fn x = true ∨ X.env.scope.names.lookup x = some .local:=by first | exact .inl rfl | exact .inr rfl | assumption):wpAny M A (storeName X.env x u) Q E s:=by
  obtain ⟨m,hn,hl⟩:=id I.loc
  have hcls:(X.env.scope.kind == .class || (X.env.scope.kind == .module && X.env.locals != X.env.globals)) = false:=by rw [I.ok.kind]; rfl
  have hiσ:i < σ.length:=by rw [I.len]; exact (List.getElem?_eq_some_iff.mp hi).1
  have cne:=I.cne
  have tracked:∀ {a:Addr} {h':Heap},(∃ o,s.heap.get? a = some o ∧ H a = none) → Heap.SameBut a s.heap h' → HOk X.prog X.w H h':=fun {a h'} ha hs b ob e => by
    obtain ⟨_,_,hfree⟩:=ha
    refine (I.hok b ob e).stay (fun c w' hc q => (hs.2 c ?_).trans q) (fun _ q => q) fun _ _ q => q
    rintro rfl
    rcases hc with rfl | hc
    · rw [hfree] at e; cases e
    · rw [hfree] at hc; cases hc
  rcases hx with hk | hk
  · refine wpAny_storeName_local hk hn (fun h' hn' hs => ?_) hcls
    obtain ⟨oL,_,_,hoL,_⟩:=id hn
    refine h _ ⟨I.ok,I.os,I.bare,⟨fun b o e n hb hx => ?_,fun b o e n hb hx => ?_,I.base.free,fun b o e hx => ?_,I.base.tups,I.base.frzs,I.base.tbls⟩,⟨_,hn',fun j y v' e1 e2 e3 => ?_⟩,fun y c e => ?_,I.free,I.freeC,fun p hp => ?_,tracked ⟨oL,hoL,I.free⟩ hs,by simpa using I.len⟩ ⟨_,hs,.inl rfl⟩
    · exact (hs.2 b (Nat.ne_of_lt (Nat.lt_of_lt_of_le (Heap.lt_size e) I.ok.above))).trans (I.base.keep b o e n hb hx)
    · obtain ⟨sl,e1⟩:=I.base.slot b o e n hb hx
      exact ⟨sl,(hs.2 b (Nat.ne_of_lt (Nat.lt_of_lt_of_le (Heap.lt_size e) I.ok.above))).trans e1⟩
    · obtain ⟨o',e1⟩:=I.base.there b o e hx
      exact ⟨o',(hs.2 b (Nat.ne_of_lt (Nat.lt_of_lt_of_le (Heap.lt_size e) I.ok.above))).trans e1⟩
    · by_cases hj:j = i
      · subst hj
        rw [hi] at e1; cases e1
        rw [List.getElem?_set_self hiσ] at e2
        cases e2
        exact ⟨u,r,.inl ⟨hk,by simp⟩⟩
      · rw [List.getElem?_set_ne (Ne.symm hj)] at e2
        obtain ⟨u',r',q⟩:=hl j y v' e1 e2 e3
        refine ⟨u',r',?_⟩
        rcases q with ⟨k,e⟩ | ⟨k,c,e,z⟩
        · refine .inl ⟨k,?_⟩
          have:y ≠ x:=fun e => hj (lH hN e1 (e ▸ hi))
          simp [this,e]
        · exact .inr ⟨k,c,e,z.sameBut hs (cne y c e)⟩
    · obtain ⟨w',z⟩:=I.cell y c e
      exact ⟨w',z.sameBut hs (cne y c e)⟩
    · obtain ⟨e,n,ne,nf,d⟩:=I.pin p hp
      exact ⟨(hs.2 p.1 ne).trans e,n,ne,nf,d⟩
  · have hfn:X.fn x = true:=by
      rcases hf with z | z
      · exact z
      · rw [z] at hk; cases hk
    obtain ⟨c,hc⟩:=I.ok.has x (.inl hk)
    obtain ⟨w',z⟩:=I.cell x c hc
    refine wpAny_storeName_cell I.ok.kind hk hc z (fun h' hc' hs => ?_)
    obtain ⟨oc,hoc,hocd⟩:=id z
    refine h { s with heap:=h' } ⟨I.ok,I.os,I.bare,⟨fun b o e n hb hx => ?_,fun b o e n hb hx => ?_,I.base.free,fun b o e hx => ?_,I.base.tups,I.base.frzs,I.base.tbls⟩,⟨m,hn.sameBut hs (Ne.symm (cne x c hc)),fun j y v' e1 e2 e3 => ?_⟩,fun y c' e => ?_,I.free,I.freeC,fun p hp => ?_,tracked ⟨oc,hoc,I.freeC x c hc⟩ hs,by simpa using I.len⟩ ⟨c,hs,.inr hc⟩
    · exact (hs.2 b (Nat.ne_of_lt (Nat.lt_of_lt_of_le (Heap.lt_size e) (I.ok.cab x c hfn hc)))).trans (I.base.keep b o e n hb hx)
    · obtain ⟨sl,e1⟩:=I.base.slot b o e n hb hx
      exact ⟨sl,(hs.2 b (Nat.ne_of_lt (Nat.lt_of_lt_of_le (Heap.lt_size e) (I.ok.cab x c hfn hc)))).trans e1⟩
    · obtain ⟨o',e1⟩:=I.base.there b o e hx
      exact ⟨o',(hs.2 b (Nat.ne_of_lt (Nat.lt_of_lt_of_le (Heap.lt_size e) (I.ok.cab x c hfn hc)))).trans e1⟩
    · by_cases hj:j = i
      · subst hj
        rw [hi] at e1; cases e1
        rw [List.getElem?_set_self hiσ] at e2
        cases e2
        exact ⟨u,r,.inr ⟨.inl hk,c,hc,hc'⟩⟩
      · rw [List.getElem?_set_ne (Ne.symm hj)] at e2
        obtain ⟨u',r',q⟩:=hl j y v' e1 e2 e3
        refine ⟨u',r',?_⟩
        rcases q with q | ⟨k,c',e,z'⟩
        · exact .inl q
        · refine .inr ⟨k,c',e,z'.sameBut hs ?_⟩
          rintro rfl
          exact hj (lH hN e1 (I.ok.inj _ _ _ e hc ▸ hi))
    · by_cases hcc:c' = c
      · subst hcc; exact ⟨_,hc'⟩
      · obtain ⟨w2,z2⟩:=I.cell y c' e
        exact ⟨w2,z2.sameBut hs hcc⟩
    · obtain ⟨e,n,ne,nf,d⟩:=I.pin p hp
      refine ⟨(hs.2 p.1 ?_).trans e,n,ne,nf,d⟩
      intro q
      rw [q,hoc] at e
      have q':oc = p.2:=Option.some.inj e
      exact d w' (by rw [← q']; exact hocd)
theorem eO {M:Model} {A:Around} {E:Value → Shared → Prop} {i:Nat} {x:Str} {v:V} {u:Value} {Q:Unit → Shared → Prop} (I:Inv X pins σ H s) (hN:X.N.Nodup) (hi:X.N[i]? = some x) (hx:Loc X.env.scope x) (r:bf v u)
    (h:∀ s',Inv X pins (σ.set i (some v)) H s' → Q () s') (hf:X.fn x = true ∨ X.env.scope.names.lookup x = some .local:=by first | exact .inl rfl | exact .inr rfl | assumption):wpAny M A (storeName X.env x u) Q E s :=
  jD I hN hi hx r (fun s' I' _ => h s' I') hf
theorem Inv.call' {s':Shared} {ch:List Addr} (I:Inv X pins σ H s) (ho:s'.os = s.os) (u:Un (frs X.stack) ch H H' s.heap s'.heap) (hok:HOk X.prog X.w H' s'.heap) (hg:AllBare s'.gens)
    (hch:∀ b ∈ ch,(b ∈ X.ex ∨ X.s₀.heap.objs.size ≤ b) ∧ b ≠ X.env.locals ∧ (∀ x c,X.env.cells.lookup x = some c → c ≠ b) ∧ ∀ p ∈ X.pn ++ pins,p.1 ≠ b):Inv X pins σ H' s':=by
  obtain ⟨h',g',d',t',o'⟩:=s'
  have e:o' = s.os:=ho
  subst e
  exact I.call (g':=g') (t':=t') (d':=d') u hok hg hch
end
abbrev XK:=Value → Option Addr → Hp → Prop
abbrev St:=List (Option V)
abbrev VK:=V → Hp → Prop
abbrev TE:=St → Hp → VK → Prop
abbrev TT:=St → Hp → (Bool → Hp → Prop) → Prop
abbrev TA:=St → Hp → (List V → Hp → Prop) → Prop
structure Ends where
  nx:St → Hp → Prop
  rt:VK
  bk:St → Hp → Prop:=fun _ _ => False
  ct:St → Hp → Prop:=fun _ _ => False
abbrev TS:=Ends → St → Hp → Prop
def EP (X:Cx) (pins:List (Addr × Obj)) (σ:St) (Q:VK) (u:Value) (s':Shared):Prop:=∃ v H',Inv X pins σ H' s' ∧ bf v u ∧ Q v H'
def TP (X:Cx) (pins:List (Addr × Obj)) (σ:St) (Q:Bool → Hp → Prop) (b:Bool) (s':Shared):Prop:=∃ H',Inv X pins σ H' s' ∧ Q b H'
def AP (X:Cx) (pins:List (Addr × Obj)) (σ:St) (Q:List V → Hp → Prop) (us:List Value) (s':Shared):Prop:=∃ vs H',Inv X pins σ H' s' ∧ aY vs us ∧ Q vs H'
def SP (X:Cx) (pins:List (Addr × Obj)) (D:Ends) (f:Flow) (s':Shared):Prop :=
  match f with
  | .next => ∃ σ' H',Inv X pins σ' H' s' ∧ D.nx σ' H'
  | .brk => ∃ σ' H',Inv X pins σ' H' s' ∧ D.bk σ' H'
  | .cont => ∃ σ' H',Inv X pins σ' H' s' ∧ D.ct σ' H'
  | .ret u => ∃ v σ' H',Inv X pins σ' H' s' ∧ bf v u ∧ D.rt v H'
structure PE (X:Cx) (e:Expr) (t:TE):Prop where
  go:∀ (pins:List (Addr × Obj)) (s:Shared) (σ:St) (H:Hp) (Q:VK),Inv X pins σ H s → t σ H Q → wpAny (model X.prog X.w) X.A (eval e X.env) (EP X pins σ Q) X.xe s
instance {X:Cx} {e:Expr} {t:TE}:CoeFun (PE X e t) fun _ => ∀ (pins:List (Addr × Obj)) (s:Shared) (σ:St) (H:Hp) (Q:VK),Inv X pins σ H s → t σ H Q → wpAny (model X.prog X.w) X.A (eval e X.env) (EP X pins σ Q) X.xe s:=⟨fun h => h.go⟩
structure PT (X:Cx) (e:Expr) (t:TT):Prop where
  go:∀ (pins:List (Addr × Obj)) (s:Shared) (σ:St) (H:Hp) (Q:Bool → Hp → Prop),Inv X pins σ H s → t σ H Q → wpAny (model X.prog X.w) X.A (isTrue e X.env (eval e X.env)) (TP X pins σ Q) X.xe s
instance {X:Cx} {e:Expr} {t:TT}:CoeFun (PT X e t) fun _ => ∀ (pins:List (Addr × Obj)) (s:Shared) (σ:St) (H:Hp) (Q:Bool → Hp → Prop),Inv X pins σ H s → t σ H Q → wpAny (model X.prog X.w) X.A (isTrue e X.env (eval e X.env)) (TP X pins σ Q) X.xe s:=⟨fun h => h.go⟩
structure PW (X:Cx) (e:Expr) (t:TT):Prop where
  go:∀ (whole:Sem Value) (pins:List (Addr × Obj)) (s:Shared) (σ:St) (H:Hp) (Q:Bool → Hp → Prop),Inv X pins σ H s → t σ H Q → wpAny (model X.prog X.w) X.A (isTrue e X.env whole) (TP X pins σ Q) X.xe s
instance {X:Cx} {e:Expr} {t:TT}:CoeFun (PW X e t) fun _ => ∀ (whole:Sem Value) (pins:List (Addr × Obj)) (s:Shared) (σ:St) (H:Hp) (Q:Bool → Hp → Prop),Inv X pins σ H s → t σ H Q → wpAny (model X.prog X.w) X.A (isTrue e X.env whole) (TP X pins σ Q) X.xe s:=⟨fun h => h.go⟩
theorem PW.pt {X:Cx} {e:Expr} {t:TT} (h:PW X e t):PT X e t:=⟨h.go _⟩
structure PA (X:Cx) (es:List Expr) (t:TA):Prop where
  go:∀ (pos:Pos) (pins:List (Addr × Obj)) (s:Shared) (σ:St) (H:Hp) (Q:List V → Hp → Prop),Inv X pins σ H s → t σ H Q → wpAny (model X.prog X.w) X.A (spliced (backTo pos (starEach es X.env))) (AP X pins σ Q) X.xe s
instance {X:Cx} {es:List Expr} {t:TA}:CoeFun (PA X es t) fun _ => ∀ (pos:Pos) (pins:List (Addr × Obj)) (s:Shared) (σ:St) (H:Hp) (Q:List V → Hp → Prop),Inv X pins σ H s → t σ H Q → wpAny (model X.prog X.w) X.A (spliced (backTo pos (starEach es X.env))) (AP X pins σ Q) X.xe s:=⟨fun h => h.go⟩
structure PS (X:Cx) (st:Stmt) (t:TS):Prop where
  go:∀ (pins:List (Addr × Obj)) (s:Shared) (σ:St) (H:Hp) (D:Ends),Inv X pins σ H s → t D σ H → wpAny (model X.prog X.w) X.A (exec st X.env) (SP X pins D) X.xe s
instance {X:Cx} {st:Stmt} {t:TS}:CoeFun (PS X st t) fun _ => ∀ (pins:List (Addr × Obj)) (s:Shared) (σ:St) (H:Hp) (D:Ends),Inv X pins σ H s → t D σ H → wpAny (model X.prog X.w) X.A (exec st X.env) (SP X pins D) X.xe s:=⟨fun h => h.go⟩
structure PSs (X:Cx) (st:List Stmt) (t:TS):Prop where
  go:∀ (pins:List (Addr × Obj)) (s:Shared) (σ:St) (H:Hp) (D:Ends),Inv X pins σ H s → t D σ H → wpAny (model X.prog X.w) X.A (execs st X.env) (SP X pins D) X.xe s
instance {X:Cx} {st:List Stmt} {t:TS}:CoeFun (PSs X st t) fun _ => ∀ (pins:List (Addr × Obj)) (s:Shared) (σ:St) (H:Hp) (D:Ends),Inv X pins σ H s → t D σ H → wpAny (model X.prog X.w) X.A (execs st X.env) (SP X pins D) X.xe s:=⟨fun h => h.go⟩
theorem thn {α:Type} {t:Sem α} {Q Q' : α → Shared → Prop} {M:Model} {A:Around} {E:Value → Shared → Prop} {s:Shared} (h:wpAny M A t Q E s) (hQ:∀ a s,Q a s → Q' a s):wpAny M A t Q' E s:=wpAny_mono h hQ fun _ _ x => x
section
variable {X:Cx}
theorem bin {a b:Expr} {ta tb:TE} (ha:PE X a ta) (hb:PE X b tb) {pins:List (Addr × Obj)} {s:Shared} {σ:St} {H:Hp} {R:V → V → Hp → Prop} (I:Inv X pins σ H s) (h:ta σ H fun x H1 => tb σ H1 fun y H2 => R x y H2)
    {α:Type} {Q : α → Shared → Prop} {f:Value → Value → Sem α}
    (hf:∀ v u s2 x y H2,Inv X pins σ H2 s2 → bf x v → bf y u → R x y H2 → wpAny (model X.prog X.w) X.A (f v u) Q X.xe s2) :
    wpAny (model X.prog X.w) X.A (eval a X.env) (fun v s₁ => wpAny (model X.prog X.w) X.A (eval b X.env) (fun u s₂ => wpAny (model X.prog X.w) X.A (f v u) Q X.xe s₂) X.xe s₁) X.xe s:=by
  refine thn (ha pins s σ H _ I h) fun v s1 ⟨x,H1,I1,r1,q1⟩ => ?_
  refine thn (hb pins s1 σ H1 _ I1 q1) fun u s2 ⟨y,H2,I2,r2,q2⟩ => ?_
  exact hf v u s2 x y H2 I2 r1 r2 q2
def tVar (i:Nat):TE:=fun σ H Q => ∃ v,σ[i]? = some (some v) ∧ Q v H
def tC (v:V):TE:=fun _ H Q => Q v H
theorem d6 {i:Nat} {x:Str} {pos:Pos} (hN:X.N[i]? = some x) (hv:Vis X.env.scope x) (hd:(x == ("__debug__":Str)) = false:=by decide) (hcd:(x == ("__classdict__":Str)) = false:=by decide):PE X (.Name x pos) (tVar i):=by
  (try refine ⟨?_⟩); intro pins s σ H Q I h
  obtain ⟨v,e,h⟩:=h
  obtain ⟨m,hn,hl⟩:=I.loc
  obtain ⟨u,r,l⟩:=hl i x v hN e hv
  have fin:EP X pins σ Q u s:=⟨v,H,I,r,h⟩
  rcases l with ⟨hk,hm⟩ | ⟨hk,c,hc,hcell⟩
  · exact wpAny_Name (wpAny_loadName_local I.ok.kind hk hn hm fin) hd
  · rcases hk with hk | hk
    · exact wpAny_Name (wpAny_loadName_cell I.ok.kind hk hc hcell fin) hd
    · exact wpAny_Name (wpAny_loadName_free I.ok.kind hk hc hcell fin hcd) hd
theorem pO {i j pos}:PE X (.Constant (.int i) j pos) (tC (.int i)):=⟨fun _ _ _ H _ I h => wpAny_Constant_int ⟨.int i,H,I.tok _,⟨_,rfl⟩,h⟩⟩
theorem pe_bl {b j pos}:PE X (.Constant (.bool b) j pos) (tC (.bl b)):=⟨fun _ _ _ H _ I h => Constant_bool ⟨.bl b,H,I,rfl,h⟩⟩
theorem vA {j pos}:PE X (.Constant .none j pos) (tC .non):=⟨fun _ _ _ H _ I h => Constant_none ⟨.non,H,I,rfl,h⟩⟩
def Gl (X:Cx) (x:Str):Prop:=X.env.kindOf x = some .globalImplicit
theorem nP {E:Value → Shared → Prop} {pins:List (Addr × Obj)} {s:Shared} {σ:St} {H:Hp} {x:Str} {u:Value} {pos:Pos} {Q:Value → Shared → Prop} (I:Inv X pins σ H s) (hg:Gl X x) (hm:X.mg x = some u) (h:Q u s)
    (hd:(x == ("__debug__":Str)) = false:=by decide):wpAny (model X.prog X.w) X.A (eval (.Name x pos) X.env) Q E s :=
  Calls.Name_function_global I.ok.kind hg (Calls.loadGlobal_global (by rw [I.ok.glob]; exact I.mod.glob.keeps I.bk) hm h) hd
theorem fq {E:Value → Shared → Prop} {pins:List (Addr × Obj)} {s:Shared} {σ:St} {H:Hp} {x:Str} {u:Value} {pos:Pos} {Q:Value → Shared → Prop} (I:Inv X pins σ H s) (hg:Gl X x) (hm:X.mg x = none) (hv:bootBuiltins x = some u) (h:Q u s)
    (hn:x ≠ "__name__":=by decide) (hd:(x == ("__debug__":Str)) = false:=by decide):wpAny (model X.prog X.w) X.A (eval (.Name x pos) X.env) Q E s:=by
  obtain ⟨mb,h1,h2⟩:=I.mod.blt
  exact Calls.Name_function_global I.ok.kind hg (Calls.loadGlobal_builtin (by rw [I.ok.glob]; exact I.mod.glob.keeps I.bk) hm (by rw [I.ok.blt]; exact h1.keeps I.bk) ((h2 x hn).trans hv) h) hd
theorem sZ {x:Str} {v:V} {u:Value} {pos:Pos} (hg:Gl X x) (hm:X.mg x = some u) (r:bf v u) (hd:(x == ("__debug__":Str)) = false:=by decide):PE X (.Name x pos) (tC v):=⟨fun _ _ _ H _ I h => nP I hg hm ⟨v,H,I,r,h⟩ hd⟩
theorem cy {x:Str} {v:V} {u:Value} {pos:Pos} (hg:Gl X x) (hm:X.mg x = none) (hv:bootBuiltins x = some u) (r:bf v u) (hn:x ≠ "__name__":=by decide) (hd:(x == ("__debug__":Str)) = false:=by decide):PE X (.Name x pos) (tC v):=⟨fun _ _ _ H _ I h => fq I hg hm hv ⟨v,H,I,r,h⟩ hn hd⟩
variable {a b:Expr} {ta tb:TE} {pos:Pos}
def tB (t:TE):TT:=fun σ H Q => t σ H fun x H1 => ∃ c,x = .bl c ∧ Q c H1
theorem wQ {e:Expr} {t:TE} (h:PE X e t) (he:∀ whole,isTrue e X.env whole = (do let v ← whole; standAt e.pos; holding [v] (truthy v)):=by intro _; rfl):PT X e (tB t):=by
  (try refine ⟨?_⟩); intro pins s σ H Q I hw
  refine isTrue_plain (thn (h pins s σ H _ I hw) fun v s1 ⟨x,H1,I1,r1,q1⟩ => ?_) (he _)
  obtain ⟨d,rfl,q⟩:=q1
  cases r1
  exact wpAny_truthy_bool ⟨H1,I1,q⟩
variable {tA tB':TT} {rest:List Expr}
def tAnd (t u:TT):TT:=fun σ H Q => t σ H fun c H1 => if c = true then u σ H1 Q else Q false H1
def tOr (t u:TT):TT:=fun σ H Q => t σ H fun c H1 => if c = true then Q true H1 else u σ H1 Q
def tNot (t:TT):TT:=fun σ H Q => t σ H fun c H1 => Q (!c) H1
theorem su (ha:PT X a tA):PW X (.BoolOp .And [a] pos) tA:=by
  (try refine ⟨?_⟩); intro wh pins s σ H Q I h
  refine isTrue_and (thn (ha pins s σ H Q I h) fun c s1 e => ?_)
  cases c with
  | true => exact isTrue_and_nil e
  | false => exact e
theorem vO (ha:PT X a tA):PW X (.BoolOp .Or [a] pos) tA:=by
  (try refine ⟨?_⟩); intro wh pins s σ H Q I h
  refine isTrue_or (thn (ha pins s σ H Q I h) fun c s1 e => ?_)
  cases c with
  | false => exact isTrue_or_nil e
  | true => exact e
theorem vZ (ha:PT X a tA) (hb:PW X (.BoolOp .And (b :: rest) pos) tB'):PW X (.BoolOp .And (a :: b :: rest) pos) (tAnd tA tB'):=by
  (try refine ⟨?_⟩); intro wh pins s σ H Q I h
  refine isTrue_and (thn (ha pins s σ H _ I h) fun c s1 ⟨H1,I1,q1⟩ => ?_)
  cases c with
  | true => exact hb wh pins s1 σ H1 Q I1 q1
  | false => exact ⟨H1,I1,q1⟩
theorem pw_or (ha:PT X a tA) (hb:PW X (.BoolOp .Or (b :: rest) pos) tB'):PW X (.BoolOp .Or (a :: b :: rest) pos) (tOr tA tB'):=by
  (try refine ⟨?_⟩); intro wh pins s σ H Q I h
  refine isTrue_or (thn (ha pins s σ H _ I h) fun c s1 ⟨H1,I1,q1⟩ => ?_)
  cases c with
  | true => exact ⟨H1,I1,q1⟩
  | false => exact hb wh pins s1 σ H1 Q I1 q1
theorem wU (ha:PT X a tA):PT X (.UnaryOp .Not a pos) (tNot tA):=by
  (try refine ⟨?_⟩); intro pins s σ H Q I h
  exact isTrue_not (ha pins s σ H (fun c H1 => Q (!c) H1) I h)
def tAndV (ta tb:TE):TE:=fun σ H Q => ta σ H fun x H1 => ∃ c,x = .bl c ∧ if c = true then tb σ H1 Q else Q (.bl false) H1
def tOrV (ta tb:TE):TE:=fun σ H Q => ta σ H fun x H1 => ∃ c,x = .bl c ∧ if c = true then Q (.bl true) H1 else tb σ H1 Q
def tNotV (ta:TE):TE:=fun σ H Q => ta σ H fun x H1 => ∃ c,x = .bl c ∧ Q (.bl (!c)) H1
theorem wj {op} {t:TE} (h:PE X a t):PE X (.BoolOp op [a] pos) t:=⟨fun pins s σ H Q I hw => BoolOp_one (h pins s σ H Q I hw)⟩
theorem wH (ha:PE X a ta) (hb:PE X (.BoolOp .And (b :: rest) pos) tb):PE X (.BoolOp .And (a :: b :: rest) pos) (tAndV ta tb):=by
  (try refine ⟨?_⟩); intro pins s σ H Q I h
  refine BoolOp_and (thn (ha pins s σ H _ I h) fun v s1 ⟨x,H1,I1,r1,q1⟩ => ?_)
  obtain ⟨c,rfl,q1⟩:=q1
  cases r1
  refine wpAny_truthy_bool ?_
  cases c with
  | true => exact hb pins s1 σ H1 Q I1 q1
  | false => exact ⟨.bl false,H1,I1,rfl,q1⟩
theorem pe_or (ha:PE X a ta) (hb:PE X (.BoolOp .Or (b :: rest) pos) tb):PE X (.BoolOp .Or (a :: b :: rest) pos) (tOrV ta tb):=by
  (try refine ⟨?_⟩); intro pins s σ H Q I h
  refine BoolOp_or (thn (ha pins s σ H _ I h) fun v s1 ⟨x,H1,I1,r1,q1⟩ => ?_)
  obtain ⟨c,rfl,q1⟩:=q1
  cases r1
  refine wpAny_truthy_bool ?_
  cases c with
  | false => exact hb pins s1 σ H1 Q I1 q1
  | true => exact ⟨.bl true,H1,I1,rfl,q1⟩
theorem uQ (ha:PE X a ta):PE X (.UnaryOp .Not a pos) (tNotV ta):=by
  (try refine ⟨?_⟩); intro pins s σ H Q I h
  refine UnaryOp_ (thn (ha pins s σ H _ I h) fun v s1 ⟨x,H1,I1,r1,q1⟩ => ?_)
  obtain ⟨c,rfl,q1⟩:=q1
  cases r1
  exact not_of (wpAny_truthy_bool ⟨.bl (!c),H1,I1,rfl,q1⟩)
def tIf (t:TT) (ta tb:TE):TE:=fun σ H Q => t σ H fun c H1 => if c = true then ta σ H1 Q else tb σ H1 Q
theorem rO {c:Expr} (hc:PT X c tA) (ha:PE X a ta) (hb:PE X b tb):PE X (.IfExp c a b pos) (tIf tA ta tb):=by
  (try refine ⟨?_⟩); intro pins s σ H Q I h
  refine wpAny_IfExp (thn (hc pins s σ H _ I h) fun d s1 ⟨H1,I1,q1⟩ => ?_)
  cases d with
  | true => exact ha pins s1 σ H1 Q I1 q1
  | false => exact hb pins s1 σ H1 Q I1 q1
end
def SqL (K:PySem.W.Frag) (H:Hp) (a:Addr) (xs:List V):Prop :=
  Rd H a (.lst xs) ∨
    ∃ (o:Obj) (its:Array Value) (n:Nat),K.lookup a = some o ∧ o.cls = .type "list" ∧ o.dict = none ∧ o.data = .seq its n ∧ its.size ≤ sizeLine ∧ aY xs its.toList
def SqT (K:PySem.W.Frag) (H:Hp) (a:Addr) (xs:List V):Prop :=
  Rd H a (.tup xs) ∨
    ∃ (o:Obj) (its:Array Value) (n:Nat),K.lookup a = some o ∧ o.cls = .type "tuple" ∧ o.data = .seq its n ∧ its.size ≤ sizeLine ∧ aY xs its.toList
def absV:Value → Option V
  | .none => some .non
  | .bool b => some (.bl b)
  | .int i _ => some (.int i)
  | .str x _ => some (.str x)
  | .bytes b _ => some (.byt b)
  | .float b _ => some (.flt b)
  | .ref a => some (.ref a)
  | .type n => some (.ty n)
  | _ => none
theorem bf.abs {x:V} {u:Value} (r:bf x u):absV u = some x:=by
  cases x with
  | non => cases r; rfl
  | bl _ => cases r; rfl
  | int _ => obtain ⟨t,rfl⟩:=r; rfl
  | str _ => obtain ⟨t,rfl⟩:=r; rfl
  | byt _ => obtain ⟨t,rfl⟩:=r; rfl
  | flt _ => obtain ⟨t,rfl⟩:=r; rfl
  | ref _ => cases r; rfl
  | ty _ => cases r; rfl
theorem bf.inj {x y:V} {u:Value} (r:bf x u) (q:bf y u):x = y:=Option.some.inj (r.abs.symm.trans q.abs)
theorem aY.inj:∀ {xs ys:List V} {us:List Value},aY xs us → aY ys us → xs = ys
  | _,_,_,.nil,.nil => rfl
  | _,_,_,.cons r t,.cons r' t' => by rw [r.inj r',aY.inj t t']
section
variable {X:Cx} {pins:List (Addr × Obj)} {σ:St} {H:Hp} {s:Shared} {a:Addr} {xs ys:List V}
theorem SqL.of {K:PySem.W.Frag} (h:H a = some (.lst xs)):SqL K H a xs:=.inl (.inl h)
theorem SqT.of {K:PySem.W.Frag} (h:H a = some (.tup xs)):SqT K H a xs:=.inl (.inl h)
theorem Inv.list (I:Inv X pins σ H s) (h:SqL X.K H a xs):∃ its:List Value,aY xs its ∧ PlainL s.heap a its.toArray ∧ xs.length ≤ sizeLine:=by
  rcases h with h | ⟨o,its,n,hk,hc,hd,hs,hz,r⟩
  · obtain ⟨z,its,n,r,e⟩:=h.ok I.hok
    exact ⟨its,r,⟨_,n,e,rfl,rfl,rfl⟩,z⟩
  · refine ⟨its.toList,r,⟨o,n,I.kIn a o hk,hc,hd,by simpa using hs⟩,?_⟩
    have e:=r.length
    simp only [Array.length_toList] at e
    omega
theorem Inv.tuple (I:Inv X pins σ H s) (h:SqT X.K H a xs):∃ its:List Value,aY xs its ∧ IsTup s.heap a its.toArray ∧ xs.length ≤ sizeLine:=by
  rcases h with h | ⟨o,its,n,hk,hc,hs,hz,r⟩
  · obtain ⟨z,its,r,p⟩:=h.ok I.hok
    exact ⟨its,r,p,z⟩
  · refine ⟨its.toList,r,⟨o,I.kIn a o hk,hc,n,by simpa using hs⟩,?_⟩
    have e:=r.length
    simp only [Array.length_toList] at e
    omega
theorem Inv.list_inj (I:Inv X pins σ H s) (h:SqL X.K H a xs) (h':SqL X.K H a ys):xs = ys:=by
  obtain ⟨its,r,⟨o,n,e,_,_,d⟩,_⟩:=I.list h
  obtain ⟨its',r',⟨o',n',e',_,_,d'⟩,_⟩:=I.list h'
  rw [e] at e'; cases e'
  rw [d] at d'
  injection d' with d1 _
  have:its = its':=by simpa using congrArg Array.toList d1
  subst this
  exact r.inj r'
end
abbrev Cx.wish (X:Cx) (E:Value → Shared → Prop):Cx:={ X with xe:=E }
abbrev Cx.nox (X:Cx):Cx:=X.wish fun _ _ => False
theorem Cx.Ok.wish {X:Cx} (ok:X.Ok) (E:Value → Shared → Prop):(X.wish E).Ok :=
  ⟨ok.mod,ok.kind,ok.glob,ok.blt,ok.above,ok.inj,ok.has,ok.cab,ok.hd,ok.frames,ok.stk,ok.exf,ok.bs,ok.bsz,ok.noex,ok.exfs,ok.funs,ok.frf⟩
theorem Cx.Ok.unwish {X:Cx} {E:Value → Shared → Prop} (ok:(X.wish E).Ok):X.Ok :=
  ⟨ok.mod,ok.kind,ok.glob,ok.blt,ok.above,ok.inj,ok.has,ok.cab,ok.hd,ok.frames,ok.stk,ok.exf,ok.bs,ok.bsz,ok.noex,ok.exfs,ok.funs,ok.frf⟩
section
variable {X:Cx} {pins:List (Addr × Obj)} {σ:St} {H:Hp} {s:Shared} {E:Value → Shared → Prop}
theorem Inv.wish (I:Inv X pins σ H s) (E:Value → Shared → Prop):Inv (X.wish E) pins σ H s:=⟨I.ok.wish E,I.os,I.bare,I.base,I.loc,I.cell,I.free,I.freeC,I.pin,I.hok,I.len⟩
theorem Inv.unwish (I:Inv (X.wish E) pins σ H s):Inv X pins σ H s:=⟨I.ok.unwish,I.os,I.bare,I.base,I.loc,I.cell,I.free,I.freeC,I.pin,I.hok,I.len⟩
theorem SP.unwish {D:Ends} {f:Flow} {s':Shared} (h:SP (X.wish E) pins D f s'):SP X pins D f s':=by
  cases f with
  | next => obtain ⟨σ',H',I,q⟩:=h; exact ⟨σ',H',I.unwish,q⟩
  | brk => obtain ⟨σ',H',I,q⟩:=h; exact ⟨σ',H',I.unwish,q⟩
  | cont => obtain ⟨σ',H',I,q⟩:=h; exact ⟨σ',H',I.unwish,q⟩
  | ret u => obtain ⟨v,σ',H',I,r,q⟩:=h; exact ⟨v,σ',H',I.unwish,r,q⟩
theorem PSs.nox {st:List Stmt} {t:TS} (h:PSs X.nox st t):PSs X st t:=⟨fun pins s σ H D I hw =>
  wpAny_mono (h pins s σ H D (I.wish _) hw) (fun _ _ q => q.unwish) fun _ _ z => False.elim z⟩
end
section
variable {X:Cx} {st:Stmt} {rest:List Stmt} {t u:TS} {e:Expr} {te:TE} {pos:Pos}
def tNext:TS:=fun D σ H => D.nx σ H
def tSeq (t u:TS):TS:=fun D σ H => t { D with nx:=u D } σ H
theorem s9:PSs X [] tNext:=⟨fun _ _ σ H _ I h => wpAny_execs_nil ⟨σ,H,I,h⟩⟩
theorem rd (h1:PS X st t) (h2:PSs X rest u):PSs X (st :: rest) (tSeq t u):=by
  (try refine ⟨?_⟩); intro pins s σ H D I h
  refine wpAny_execs_cons (thn (h1 pins s σ H { D with nx:=u D } I h) fun f s1 q => ?_)
  cases f with
  | next =>
    obtain ⟨σ',H',I',q⟩:=q
    exact h2 pins s1 σ' H' D I' q
  | ret v => exact q
  | brk => exact q
  | cont => exact q
theorem tK (h1:PS X st t):PSs X [st] t:=by
  (try refine ⟨?_⟩); intro pins s σ H D I h
  refine wpAny_execs_cons (thn (h1 pins s σ H D I h) fun f s1 q => ?_)
  cases f with
  | next => exact wpAny_execs_nil q
  | ret v => exact q
  | brk => exact q
  | cont => exact q
theorem Inv.quiet {pins:List (Addr × Obj)} {σ:St} {H:Hp} {s:Shared} (I:Inv X pins σ H s):interactive X.env = false:=by simp [interactive,I.ok.kind]
def tDrop (te:TE):TS:=fun D σ H => te σ H fun _ H1 => D.nx σ H1
theorem gH (he:PE X e te) (hs:swapsWith e none pos.line X.env = pure false:=by rfl):PS X (.Expr e pos) (tDrop te):=by
  (try refine ⟨?_⟩); intro pins s σ H D I h
  exact wpAny_Expr_any (thn (he pins s σ H _ I h) fun v s1 ⟨x,H1,I1,r1,q1⟩ => ⟨σ,H1,I1,q1⟩) I.quiet hs
def tRet (te:TE):TS:=fun D σ H => te σ H D.rt
theorem qa (he:PE X e te):PS X (.Return (some e) pos) (tRet te):=by
  (try refine ⟨?_⟩); intro pins s σ H D I h
  exact wpAny_Return_some (thn (he pins s σ H _ I h) fun v s1 ⟨x,H1,I1,r1,q1⟩ => ⟨x,σ,H1,I1,r1,q1⟩)
def tIfS (c:TT) (t u:TS):TS:=fun D σ H => c σ H fun b H1 => if b = true then t D σ H1 else u D σ H1
theorem ps_if {c:Expr} {a b:List Stmt} {tc:TT} (hc:PT X c tc) (ha:PSs X a t) (hb:PSs X b u):PS X (.If c a b pos) (tIfS tc t u):=by
  (try refine ⟨?_⟩); intro pins s σ H D I h
  refine wpAny_If (thn (hc pins s σ H _ I h) fun d s1 ⟨H1,I1,q1⟩ => ?_)
  cases d with
  | true => exact ha pins s1 σ H1 D I1 q1
  | false => exact hb pins s1 σ H1 D I1 q1
def vS:TS:=fun _ _ _ => False
theorem q9:PS X st vS:=⟨fun _ _ _ _ _ _ h => h.elim⟩
end
abbrev TG:=V → St → Hp → (St → Hp → Prop) → Prop
abbrev TGs:=List V → St → Hp → (St → Hp → Prop) → Prop
structure PG (X:Cx) (target:Expr) (t:TG):Prop where
  go:∀ (pins:List (Addr × Obj)) (s:Shared) (σ:St) (H:Hp) (v:V) (u:Value) (Q:St → Hp → Prop),Inv X pins σ H s → bf v u → t v σ H Q →
    wpAny (model X.prog X.w) X.A (assign target X.env u) (fun _ s' => ∃ σ' H',Inv X pins σ' H' s' ∧ Q σ' H') X.xe s
instance {X:Cx} {target:Expr} {t:TG}:CoeFun (PG X target t) fun _ => ∀ (pins:List (Addr × Obj)) (s:Shared) (σ:St) (H:Hp) (v:V) (u:Value) (Q:St → Hp → Prop),Inv X pins σ H s → bf v u → t v σ H Q →
    wpAny (model X.prog X.w) X.A (assign target X.env u) (fun _ s' => ∃ σ' H',Inv X pins σ' H' s' ∧ Q σ' H') X.xe s:=⟨fun h => h.go⟩
structure PGs (X:Cx) (ts:List Expr) (t:TGs):Prop where
  go:∀ (pins:List (Addr × Obj)) (s:Shared) (σ:St) (H:Hp) (vs:List V) (us:List Value) (Q:St → Hp → Prop),Inv X pins σ H s → aY vs us → t vs σ H Q →
    wpAny (model X.prog X.w) X.A (assignInOrder ((assignEach ts X.env).map (·.2)) us) (fun _ s' => ∃ σ' H',Inv X pins σ' H' s' ∧ Q σ' H') X.xe s
instance {X:Cx} {ts:List Expr} {t:TGs}:CoeFun (PGs X ts t) fun _ => ∀ (pins:List (Addr × Obj)) (s:Shared) (σ:St) (H:Hp) (vs:List V) (us:List Value) (Q:St → Hp → Prop),Inv X pins σ H s → aY vs us → t vs σ H Q →
    wpAny (model X.prog X.w) X.A (assignInOrder ((assignEach ts X.env).map (·.2)) us) (fun _ s' => ∃ σ' H',Inv X pins σ' H' s' ∧ Q σ' H') X.xe s:=⟨fun h => h.go⟩
abbrev qU:=V → V → V → Hp → (Hp → Prop) → Prop
def PSet (X:Cx) (t:qU):Prop :=
  ∀ (pins:List (Addr × Obj)) (s:Shared) (σ:St) (H:Hp) (o i v:V) (ov iv u:Value) (Q:Hp → Prop),Inv X pins σ H s → bf o ov → bf i iv → bf v u → t o i v H Q →
    wpAny (model X.prog X.w) X.A (setItem ov iv u) (fun _ s' => ∃ H',Inv X pins σ H' s' ∧ Q H') X.xe s
abbrev TIp:=V → V → Hp → VK → Prop
def PIp (X:Cx) (op:Operator) (t:TIp):Prop :=
  ∀ (pins:List (Addr × Obj)) (s:Shared) (σ:St) (H:Hp) (x y:V) (v u:Value) (Q:VK),Inv X pins σ H s → bf x v → bf y u → t x y H Q →
    wpAny (model X.prog X.w) X.A (inplaceOp op v u) (EP X pins σ Q) X.xe s
section
variable {X:Cx} {pos:Pos}
def g6 (i:Nat):TG:=fun v σ H Q => Q (σ.set i (some v)) H
theorem bh {i:Nat} {x:Str} (hN:X.N.Nodup) (hi:X.N[i]? = some x) (hx:Loc X.env.scope x) (hf:X.fn x = true ∨ X.env.scope.names.lookup x = some .local:=by first | exact .inl rfl | exact .inr rfl | assumption):PG X (.Name x pos) (g6 i):=by
  (try refine ⟨?_⟩); intro pins s σ H v u Q I r h
  exact wpAny_assign_Name (eO I hN hi hx r (fun s' I' => ⟨_,H,I',h⟩) hf)
def gNil:TGs:=fun vs σ H Q => vs = [] ∧ Q σ H
def t6 (t:TG) (u:TGs):TGs:=fun vs σ H Q => ∃ v r,vs = v :: r ∧ t v σ H fun σ' H' => u r σ' H' Q
theorem kH:PGs X [] gNil:=by
  (try refine ⟨?_⟩); intro pins s σ H vs us Q I r h
  obtain ⟨e,h⟩:=h
  subst e
  cases r
  exact assignInOrder_nil ⟨σ,H,I,h⟩
theorem eT {e:Expr} {es:List Expr} {t:TG} {u:TGs} (h1:PG X e t) (h2:PGs X es u)
    (hs:(assignEach (e :: es) X.env).map (·.2) = assign e X.env :: (assignEach es X.env).map (·.2):=by rfl):PGs X (e :: es) (t6 t u):=by
  (try refine ⟨?_⟩); intro pins s σ H vs us Q I r h
  obtain ⟨v,vr,e1,h⟩:=h
  subst e1
  cases r with
  | cons r rr =>
    rw [hs]
    refine assignInOrder_cons (thn (h1 pins s σ H _ _ _ I r h) fun _ s1 ⟨σ1,H1,I1,q1⟩ => ?_)
    exact h2 pins s1 σ1 H1 _ _ Q I1 rr q1
def gTup (K:PySem.W.Frag) (n:Nat) (t:TGs):TG:=fun v σ H Q => ∃ a xs,v = .ref a ∧ SqT K H a xs ∧ xs.length = n ∧ t xs σ H Q
theorem mj {es:List Expr} {k:Nat} {t:TGs} {n:Nat} (hc:X.calm = true) (h:PGs X es t)
    (hn:(assignEach es X.env).length = n:=by rfl) (hst:(assignEach es X.env).findIdx? (·.1) = none:=by rfl):PG X (.Tuple es k pos) (gTup X.K n t):=by
  (try refine ⟨?_⟩); intro pins s σ H v u Q I r hw
  obtain ⟨a,xs,e1,hq,hl,hw⟩:=hw
  subst e1
  cases r
  obtain ⟨its,rv,ht,hz⟩:=I.tuple hq
  refine assign_Tuple_tuple (I.ok.hd hc) ht (by simp [hn,← hl,rv.length]) hst fun h' hx => ?_
  have I1:Inv X pins σ H { s with heap:=h' }:=I.kept (t':=s.toks) fun b o e => hx b o (Nat.ne_of_lt (Heap.lt_size e)) e
  exact h pins _ σ H xs _ Q I1 (by simpa using rv) hw
def gSub (to ti:TE) (t:qU):TG:=fun v σ H Q => to σ H fun o H1 => ti σ H1 fun i H2 => t o i v H2 fun H3 => Q σ H3
theorem w5 {o i:Expr} {to ti:TE} {t:qU} (ho:PE X o to) (hi:PE X i ti) (hs:PSet X t)
    (ha:∀ v,assign (.Subscript o i pos) X.env v = (do
      let ov ← holding [v] (eval o X.env)
      let iv ← holding [v,ov] (eval i X.env)
      standAt pos
      holding [v,ov,iv] (setItem ov iv v)
      release [v,ov,iv] []):=by intro _; rfl):PG X (.Subscript o i pos) (gSub to ti t):=by
  (try refine ⟨?_⟩); intro pins s σ H v u Q I r h
  rw [ha]
  refine wpAny_bind (wpAny_holding (thn (ho pins s σ H _ I h) fun ov s1 ⟨x,H1,I1,r1,q1⟩ => ?_))
  refine wpAny_bind (wpAny_holding (thn (hi pins s1 σ H1 _ I1 q1) fun iv s2 ⟨y,H2,I2,r2,q2⟩ => ?_))
  refine wpAny_bind (wpAny_standAt (wpAny_bind (wpAny_holding (thn (hs pins s2 σ H2 x y v ov iv u _ I2 r1 r2 r q2) fun _ s3 ⟨H3,I3,q3⟩ => ?_))))
  exact wpAny_release ⟨σ,H3,I3,q3⟩
def p8 (te:TE) (g:TG):TS:=fun D σ H => te σ H fun x H1 => g x σ H1 D.nx
theorem mK {tg e:Expr} {te:TE} {g:TG} (he:PE X e te) (hg:PG X tg g) (hs:swapsWithSole [tg] e pos.line X.env = pure false:=by rfl) (hw:swappedStores [tg] e X.env = pure none:=by rfl)
    (h1:(assignEach [tg] X.env).map (·.2) = [assign tg X.env]:=by rfl):PS X (.Assign [tg] e pos) (p8 te g):=by
  (try refine ⟨?_⟩); intro pins s σ H D I h
  refine wpAny_Assign_stores (thn (he pins s σ H _ I h) fun v s1 ⟨x,H1,I1,r1,q1⟩ => ?_) hs hw
  rw [h1]
  exact thn (hg pins s1 σ H1 x v _ I1 r1 q1) fun _ s2 q => q
theorem mF {i:Nat} {x:Str} {e:Expr} {te:TE} {pos':Pos} (hN:X.N.Nodup) (hi:X.N[i]? = some x) (hx:Loc X.env.scope x) (he:PE X e te) (hs:swapsWith e (some (.Name x pos')) pos.line X.env = pure false:=by rfl) (hf:X.fn x = true ∨ X.env.scope.names.lookup x = some .local:=by first | exact .inl rfl | exact .inr rfl | assumption) :
    PS X (.Assign [.Name x pos'] e pos) (p8 te (g6 i)):=by
  (try refine ⟨?_⟩); intro pins s σ H D I h
  refine wpAny_Assign_Name (thn (he pins s σ H _ I h) fun v s1 ⟨y,H1,I1,r1,q1⟩ => ?_) hs
  exact eO I1 hN hi hx r1 (fun s2 I2 => ⟨_,H1,I2,q1⟩) hf
def tPar (i j:Nat) (ta:TA):TS:=fun D σ H => ta σ H fun vs H1 => ∃ v w,vs = [v,w] ∧ D.nx ((σ.set i (some v)).set j (some w)) H1
theorem wt {i j:Nat} {x y:Str} {a b:Expr} {ta:TA} {px py pt:Pos} {kt k2 pt2} (hc:X.calm = true) (hN:X.N.Nodup) (hi:X.N[i]? = some x) (hj:X.N[j]? = some y) (hij:i ≠ j)
    (hx:X.env.scope.names.lookup x = some .local) (hy:X.env.scope.names.lookup y = some .local) (ha:PA X [a,b] ta)
    (hw:swappedStores [.Tuple [.Name x px,.Name y py] kt pt] (.Tuple [a,b] k2 pt2) X.env = pure (some [x,y]))
    (hs:swapsWithSole [.Tuple [.Name x px,.Name y py] kt pt] (.Tuple [a,b] k2 pt2) pos.line X.env = pure false:=by rfl) :
    PS X (.Assign [.Tuple [.Name x px,.Name y py] kt pt] (.Tuple [a,b] k2 pt2) pos) (tPar i j ta):=by
  (try refine ⟨?_⟩); intro pins s σ H D I h
  rw [exec_Assign_arm]
  refine wpAny_bind (wpAny_standAt ?_)
  rw [hs]
  refine wpAny_bind (wpAny_pure ?_)
  rw [if_neg (by decide)]
  refine wpAny_bind (Tuple_ (thn (ha _ pins s σ H _ I h) fun us s1 ⟨vs,H1,I1,r1,q1⟩ => ?_))
  obtain ⟨v,w,e1,q1⟩:=q1
  subst e1
  obtain ⟨u1,u2,rfl,rv,rw'⟩:∃ u1 u2,us = [u1,u2] ∧ bf v u1 ∧ bf w u2:=by
    cases r1 with
    | cons p q =>
      cases q with
      | cons p' q' =>
        cases q'
        exact ⟨_,_,rfl,p,p'⟩
  refine wpAny_newObj_type ?_ (by show 2 ≤ sizeLine; decide)
  have I2:Inv X pins σ H1 { s1 with heap:=s1.heap.push { cls:=.type "tuple",data:=.seq [u1,u2].toArray } }:=I1.kept (t':=s1.toks) fun b o e => Heap.get?_push_of_some _ e
  rw [hw]
  refine wpAny_bind (wpAny_pure ?_)
  show wpAny (model X.prog X.w) X.A (do rule "assign.swapped-stores"; let items ← unpackItems (.ref s1.heap.objs.size) 2 none; assignInOrder [fun v => bindName X.env y v,fun v => bindName X.env x v] items.reverse; pure Flow.next) _ _ _
  refine wpAny_bind (wpAny_rule (wpAny_bind (unpackItems_tuple (items:=#[u1,u2]) (I.ok.hd hc) (IsTup.new s1.heap _) fun h' hx' => ?_)))
  have I3:=I2.kept (h':=h') (t':=s1.toks) fun b o e => hx' b o (Nat.ne_of_lt (Heap.lt_size e)) e
  show wpAny _ _ (assignInOrder [fun v => bindName X.env y v,fun v => bindName X.env x v] [u2,u1] >>= fun _ => pure Flow.next) _ _ _
  refine wpAny_bind (assignInOrder_cons (wpAny_bindName (eO I3 hN hj (.inl hy) rw' (fun s2 I4 => ?_) (.inr hy))))
  refine assignInOrder_cons (wpAny_bindName (eO I4 hN hi (.inl hx) rv (fun s3 I5 => assignInOrder_nil (wpAny_pure ?_)) (.inr hx)))
  rw [List.set_comm _ _ (Ne.symm hij)] at I5
  exact ⟨_,H1,I5,q1⟩
def tAug (i:Nat) (te:TE) (ti:TIp):TS:=fun D σ H => ∃ x,σ[i]? = some (some x) ∧ te σ H fun y H1 => ti x y H1 fun z H2 => D.nx (σ.set i (some z)) H2
theorem vD {i:Nat} {x:Str} {e:Expr} {te:TE} {op:Operator} {ti:TIp} {pos':Pos} (hN:X.N.Nodup) (hi:X.N[i]? = some x) (hx:Loc X.env.scope x) (he:PE X e te) (ho:PIp X op ti) (hf:X.fn x = true ∨ X.env.scope.names.lookup x = some .local:=by first | exact .inl rfl | exact .inr rfl | assumption) :
    PS X (.AugAssign (.Name x pos') op e pos) (tAug i te ti):=by
  (try refine ⟨?_⟩); intro pins s σ H D I h
  obtain ⟨v,e1,h⟩:=h
  obtain ⟨m,hn,hl⟩:=I.loc
  have vis:Vis X.env.scope x:=by rcases hx with k | k; exact .inl k; exact .inr (.inl k)
  obtain ⟨u,r,l⟩:=hl i x v hi e1 vis
  refine wpAny_AugAssign_Name ?_
  have go:wpAny (model X.prog X.w) X.A (eval e X.env) (fun w s₂ => wpAny (model X.prog X.w) X.A (inplaceOp op u w) (fun r s₃ => wpAny (model X.prog X.w) X.A (storeName X.env x r) (fun _ => SP X pins D .next) X.xe s₃) X.xe s₂) X.xe s:=by
    refine thn (he pins s σ H _ I h) fun w s1 ⟨y,H1,I1,r1,q1⟩ => ?_
    refine thn (ho pins s1 σ H1 v y u w _ I1 r r1 q1) fun z s2 ⟨zv,H2,I2,r2,q2⟩ => ?_
    exact eO I2 hN hi hx r2 (fun s3 I3 => ⟨_,H2,I3,q2⟩) hf
  rcases l with ⟨hk,hm⟩ | ⟨hk,c,hc,hcell⟩
  · exact wpAny_loadName_local I.ok.kind hk hn hm go
  · rcases hk with hk | hk
    · exact wpAny_loadName_cell I.ok.kind hk hc hcell go
    · rcases hx with k | k
      · have:X.env.scope.names.lookup x = some .free:=hk
        rw [k] at this; cases this
      · have:X.env.scope.names.lookup x = some .free:=hk
        rw [k] at this; cases this
def tAugS (to ti te:TE) (tget:V → V → Hp → VK → Prop) (tip:TIp) (tset:qU):TS:=fun D σ H => to σ H fun o H1 => ti σ H1 fun i H2 => tget o i H2 fun x H3 => te σ H3 fun y H4 => tip x y H4 fun z H5 => tset o i z H5 fun H6 => D.nx σ H6
def PGet (X:Cx) (t:V → V → Hp → VK → Prop):Prop :=
  ∀ (pins:List (Addr × Obj)) (s:Shared) (σ:St) (H:Hp) (o i:V) (ov iv:Value) (Q:VK),Inv X pins σ H s → bf o ov → bf i iv → t o i H Q →
    wpAny (model X.prog X.w) X.A (getItem ov iv) (EP X pins σ Q) X.xe s
theorem sj {o i e:Expr} {to ti te:TE} {tget:V → V → Hp → VK → Prop} {tip:TIp} {tset:qU} {op:Operator} {tpos:Pos} (ho:PE X o to) (hi:PE X i ti) (hg:PGet X tget) (he:PE X e te) (hp:PIp X op tip) (hs:PSet X tset)
    (ha:∀ ov iv new,augStore i ov iv new = (do holding [new,ov,iv] (setItem ov iv new); release [new,ov,iv] []; pure .next):=by intros; rfl):PS X (.AugAssign (.Subscript o i tpos) op e pos) (tAugS to ti te tget tip tset):=by
  (try refine ⟨?_⟩); intro pins s σ H D I h
  refine wpAny_AugAssign_SubscriptAny (thn (ho pins s σ H _ I h) fun ov s1 ⟨x1,H1,I1,r1,q1⟩ => ?_) ha
  refine thn (hi pins s1 σ H1 _ I1 q1) fun iv s2 ⟨x2,H2,I2,r2,q2⟩ => ?_
  refine thn (hg pins s2 σ H2 x1 x2 ov iv _ I2 r1 r2 q2) fun old s3 ⟨x3,H3,I3,r3,q3⟩ => ?_
  refine thn (he pins s3 σ H3 _ I3 q3) fun v s4 ⟨x4,H4,I4,r4,q4⟩ => ?_
  refine thn (hp pins s4 σ H4 x3 x4 old v _ I4 r3 r4 q4) fun new s5 ⟨x5,H5,I5,r5,q5⟩ => ?_
  exact thn (hs pins s5 σ H5 x1 x2 x5 ov iv new _ I5 r1 r2 r5 q5) fun _ s6 ⟨H6,I6,q6⟩ => ⟨σ,H6,I6,q6⟩
def ipI (f:Int → Int → Int):TIp:=fun x y H Q => ∃ i j,x = .int i ∧ y = .int j ∧ Q (.int (f i j)) H
theorem vx:PIp X .Add (ipI fun i j => i + j):=by
  (try refine ⟨?_⟩); intro pins s σ H x y v u Q I r1 r2 h
  obtain ⟨i,j,e1,e2,q⟩:=h
  subst e1; subst e2
  obtain ⟨t,rfl⟩:=r1
  obtain ⟨t',rfl⟩:=r2
  exact iadd_int ⟨.int _,H,I.tok _,⟨_,rfl⟩,q⟩
theorem wX:PIp X .Sub (ipI fun i j => i - j):=by
  (try refine ⟨?_⟩); intro pins s σ H x y v u Q I r1 r2 h
  obtain ⟨i,j,e1,e2,q⟩:=h
  subst e1; subst e2
  obtain ⟨t,rfl⟩:=r1
  obtain ⟨t',rfl⟩:=r2
  exact isub_int ⟨.int _,H,I.tok _,⟨_,rfl⟩,q⟩
end
section
variable {X:Cx} {pos:Pos}
def vt (c:TT) (tb:TS):TS:=fun D σ H => ∃ W:Nat → St → Hp → Prop,(∃ m,W m σ H) ∧ ∀ m σ H,W m σ H →
  c σ H fun b H1 => if b = true then ∃ N:St → Hp → Prop,(∀ σ' H',N σ' H' → ∃ m',m' < m ∧ W m' σ' H') ∧ tb { D with nx:=N,ct:=N,bk:=D.nx } σ H1 else D.nx σ H1
theorem qE {c:Expr} {body:List Stmt} {tc:TT} {tb:TS} (hp:PassesOwn (model X.prog X.w) X.A X.env X.xe) (hc:PT X c tc) (hb:PSs X body tb):PS X (.While c body [] pos) (vt tc tb):=by
  (try refine ⟨?_⟩); intro pins s σ H D I h
  obtain ⟨W,⟨m0,w0⟩,turn⟩:=h
  refine wpAny_While (codeAny_whileLoop (fun n s' => ∃ σ' H',Inv X pins σ' H' s' ∧ W n σ' H') ?_ m0 ⟨σ,H,I,w0⟩)
  rintro n s1 ⟨σ1,H1,I1,w1⟩
  refine wpAny_passesOwn hp (thn (hc pins s1 σ1 H1 _ I1 (turn n σ1 H1 w1)) fun b s2 ⟨H2,I2,q2⟩ => ?_)
  cases b with
  | true =>
    obtain ⟨N,hN,q2⟩:=q2
    rw [if_pos rfl]
    refine wpAny_passesOwn hp (thn (hb pins s2 σ1 H2 _ I2 q2) fun f s3 q3 => ?_)
    cases f with
    | next =>
      obtain ⟨σ3,H3,I3,n3⟩:=q3
      obtain ⟨m',hm,w3⟩:=hN σ3 H3 n3
      exact ⟨m',hm,σ3,H3,I3,w3⟩
    | cont =>
      obtain ⟨σ3,H3,I3,n3⟩:=q3
      obtain ⟨m',hm,w3⟩:=hN σ3 H3 n3
      exact ⟨m',hm,σ3,H3,I3,w3⟩
    | brk => exact q3
    | ret v => exact q3
  | false =>
    rw [if_neg Bool.false_ne_true]
    exact wpAny_execs_nil ⟨σ1,H2,I2,q2⟩
end
structure It where
  go:Nat → Hp → Prop
  yld:Nat → Hp → V → Hp → Prop
  stop:Nat → Hp → Prop
def kY (X:Cx) (pins:List (Addr × Obj)) (H:Hp) (b:Addr):Prop :=
  H b = none ∧ b ≠ X.env.locals ∧ b ∉ X.fs ∧ (b ∈ X.ex ∨ X.s₀.heap.objs.size ≤ b) ∧ (∀ x c,X.env.cells.lookup x = some c → c ≠ b) ∧ ∀ p ∈ X.pn ++ pins,p.1 ≠ b
theorem Inv.fpOk {X:Cx} {pins:List (Addr × Obj)} {σ:St} {H H':Hp} {s:Shared} {b:Addr} (I:Inv X pins σ H s) (hb:s.heap.objs.size ≤ b) (hn:H' b = none):kY X pins H' b:=by
  refine ⟨hn,Nat.ne_of_gt (Nat.lt_of_lt_of_le I.lt hb),I.nofs hb,.inr (Nat.le_trans I.sz hb),fun x c e z => ?_,fun p hp z => ?_⟩
  · obtain ⟨v,q⟩:=I.cell x c e
    exact absurd (Nat.lt_of_lt_of_le q.lt (by rw [z]; exact hb)) (Nat.lt_irrefl _)
  · exact absurd (Nat.lt_of_lt_of_le (Heap.lt_size (I.pin p hp).1) (by rw [z]; exact hb)) (Nat.lt_irrefl _)
structure Turn (P:Program) (w:World) (K:PySem.W.Frag) (tg:Expr) (J:It) (fp:List Addr) (it:Addr) (tn:Nat → Heap → Prop):Prop where
  mem:it ∈ fp
  obj:∀ i h,tn i h → ∀ b ∈ fp,∃ o,h.get? b = some o ∧ ∀ v,o.data ≠ .cell v
  keep:∀ i h h',tn i h → (∀ b ∈ fp,∀ o,h.get? b = some o → h'.get? b = some o) → tn i h'
  item:∀ (X:Cx),X.prog = P → X.w = w → X.K = K → X.calm = true → ∀ (i:Nat) (pins:List (Addr × Obj)) (s:Shared) (σ:St) (H:Hp) (E:Value → Shared → Prop),Inv X pins σ H s → (∀ b ∈ fp,kY X pins H b) → tn i s.heap → J.go i H →
    wpAny (model P w) X.A (pyNext (.ref it)) (fun r s1 => ∃ u,r = some u ∧
      wpAny (model P w) X.A (letOwnedTupleGo tg (.ref it) u) (fun _ s2 => ∃ x H',Inv X pins σ H' s2 ∧ bf x u ∧ J.yld i H x H' ∧ tn (i + 1) s2.heap ∧ ∀ b ∈ fp,H' b = none) E s1) E s
  done:∀ (X:Cx),X.prog = P → X.w = w → X.K = K → X.calm = true → ∀ (i:Nat) (pins:List (Addr × Obj)) (s:Shared) (σ:St) (H:Hp) (E:Value → Shared → Prop),Inv X pins σ H s → (∀ b ∈ fp,kY X pins H b) → tn i s.heap → J.stop i H →
    wpAny (model P w) X.A (pyNext (.ref it)) (fun r s1 => r = none ∧ Inv X pins σ H s1) E s
  self:∀ (A:Around) (i:Nat) (s:Shared) (Q:Value → Shared → Prop) (E:Value → Shared → Prop),tn i s.heap → Q (.ref it) s → wpAny (model P w) A (pyIter (.ref it)) Q E s
abbrev TI:=St → Hp → (It → Hp → Prop) → Prop
def PIE (X:Cx) (pins:List (Addr × Obj)) (σ:St) (tg:Expr) (R:It → Hp → Prop) (itv:Value) (s2:Shared):Prop :=
  ∃ (it:Addr) (fp:List Addr) (tn:Nat → Heap → Prop) (J:It) (H':Hp),itv = .ref it ∧ Inv X pins σ H' s2 ∧ Turn X.prog X.w X.K tg J fp it tn ∧ tn 0 s2.heap ∧ (∀ b ∈ fp,kY X pins H' b) ∧ R J H'
structure PI (X:Cx) (tg iter:Expr) (wi:TI):Prop where
  go:∀ (pins:List (Addr × Obj)) (s:Shared) (σ:St) (H:Hp) (R:It → Hp → Prop),Inv X pins σ H s → wi σ H R →
    wpAny (model X.prog X.w) X.A (eval iter X.env) (fun v s1 => wpAny (model X.prog X.w) X.A (pyIter v) (PIE X pins σ tg R) X.xe s1) X.xe s
instance {X:Cx} {tg iter:Expr} {wi:TI}:CoeFun (PI X tg iter wi) fun _ => ∀ (pins:List (Addr × Obj)) (s:Shared) (σ:St) (H:Hp) (R:It → Hp → Prop),Inv X pins σ H s → wi σ H R →
    wpAny (model X.prog X.w) X.A (eval iter X.env) (fun v s1 => wpAny (model X.prog X.w) X.A (pyIter v) (PIE X pins σ tg R) X.xe s1) X.xe s:=⟨fun h => h.go⟩
theorem uD {M:Model} {A:Around} {E:Value → Shared → Prop} {s:Shared} {tg:Expr} {it:Addr} {u:Value} {o:Obj} {n:String} {vs:Array Value} {Q:Unit → Shared → Prop} (ho:s.heap.get? it = some o) (hc:o.cls = .type n) (hd:o.data = .fields vs)
    (hn : ["enumerate","zip","dict_itemiterator","dict_reverseitemiterator","odict_iterator","itertools.zip_longest","itertools.pairwise"].contains n = false) (hQ:Q () s):wpAny M A (letOwnedTupleGo tg (.ref it) u) Q E s:=by
  unfold letOwnedTupleGo
  cases tg <;> first
    | exact wpAny_pure hQ
    | (cases u <;> first
        | exact wpAny_pure hQ
        | (refine wpAny_bind (wpAny_load ho ?_)
           rw [hc,hd]
           show wpAny M A (if (["enumerate","zip","dict_itemiterator","dict_reverseitemiterator","odict_iterator","itertools.zip_longest","itertools.pairwise"].contains n && vs[0]? == some (rawInt _)) = true then _ else _) Q E s
           rw [if_neg (by intro h; rw [hn,Bool.false_and] at h; cases h)]
           exact wpAny_pure hQ))
def Itl (K:PySem.W.Frag) (a:Addr):It :=
  ⟨fun i H => ∃ xs x,SqL K H a xs ∧ xs[i]? = some x,fun i H x H' => H' = H ∧ ∀ xs,SqL K H a xs → xs[i]? = some x,fun i H => ∃ xs,SqL K H a xs ∧ xs.length ≤ i⟩
def Itr (lo:Int) (n:Nat):It:=⟨fun i _ => i < n,fun i H x H' => H' = H ∧ x = .int (lo + i),fun i _ => n ≤ i⟩
theorem o7 {P:Program} {w:World} {K:PySem.W.Frag} {tg:Expr} (a it:Addr):Turn P w K tg (Itl K a) [it] it (fun i h => h.IsListIter it a i) where
  mem:=by simp
  obj:=fun i h st b hb => by
    have e:b = it:=by simpa using hb
    subst e
    obtain ⟨o,e,c,d⟩:=st
    exact ⟨o,e,fun v z => by rw [d] at z; cases z⟩
  keep:=fun i h h' st k => st.at fun o e => k it (by simp) o e
  item:=by
    intro X hP hw hK hc i pins s σ H E I hf st hg
    subst hP hw hK
    obtain ⟨xs,x,hq,hx⟩:=hg
    obtain ⟨its,rv,p,hz⟩:=I.list hq
    obtain ⟨u,hu,ru⟩:=rv.get hx
    obtain ⟨f0,f1,f2,f3,f4,f5⟩:=hf it (by simp)
    refine wpAny_pyNext_list_item st p.isList (x:=u) (by simpa using hu) fun h' st' sb => ?_
    have I1:Inv X pins σ H { s with heap:=h' }:=I.turned (t':=s.toks) (fun b o hb e => (sb.2 b hb).trans e) f0 f1 f3 f4 f5
    obtain ⟨o,e,c,d⟩:=id st'
    exact ⟨u,rfl,uD (s:={ s with heap:=h' }) e c d (by decide) ⟨x,H,I1,ru,⟨rfl,fun ys hy => by rw [I.list_inj hy hq]; exact hx⟩,st',fun b hb => (hf b hb).1⟩⟩
  done:=by
    intro X hP hw hK hc i pins s σ H E I hf st hg
    subst hP hw hK
    obtain ⟨xs,hq,hx⟩:=hg
    obtain ⟨its,rv,p,hz⟩:=I.list hq
    obtain ⟨f0,f1,f2,f3,f4,f5⟩:=hf it (by simp)
    have hl:=rv.length
    exact wpAny_pyNext_list_end (I.ok.hd hc) st p.isList (by simp; omega) fun h' eb => ⟨rfl,I.turned (t':=s.toks) (fun b o hb e => eb b o hb e) f0 f1 f3 f4 f5⟩
  self:=fun _ _ _ _ _ st h => wpAny_pyIter_listiter st h
theorem lV {P:Program} {w:World} {K:PySem.W.Frag} {tg:Expr} (it:Addr) (lo:Int) (n:Nat):Turn P w K tg (Itr lo n) [it] it (fun i h => IsRangeIter h it (lo + (i:Nat) * 1) ((n:Int) - (i:Nat)) 1) where
  mem:=by simp
  obj:=fun i h st b hb => by
    have e:b = it:=by simpa using hb
    subst e
    exact ⟨_,st,fun v z => by
      have z':Data.fields _ = Data.cell v:=z
      cases z'⟩
  keep:=fun i h h' st k => k it (by simp) _ st
  item:=by
    intro X hP hw hK hc i pins s σ H E I hf st hg
    subst hP hw hK
    obtain ⟨f0,f1,f2,f3,f4,f5⟩:=hf it (by simp)
    have W:=Walks.range (prog:=X.prog) (w:=X.w) (I.ok.hd hc) it lo 1 n
    refine W.item i s _ _ hg st fun v h' tk hv st' kk => ?_
    obtain ⟨t,rfl⟩:=hv
    have I1:Inv X pins σ H { s with heap:=h',toks:=tk }:=I.turned (fun b o hb e => kk b o (by simpa using hb) e) f0 f1 f3 f4 f5
    refine ⟨_,rfl,uD (s:={ s with heap:=h',toks:=tk }) (n:="range_iterator") st' rfl rfl (by decide) ⟨.int (lo + i),H,I1,⟨t,?_⟩,⟨rfl,rfl⟩,st',fun b hb => (hf b hb).1⟩⟩
    rw [Int.mul_one]
  done:=by
    intro X hP hw hK hc i pins s σ H E I hf st hg
    subst hP hw hK
    obtain ⟨f0,f1,f2,f3,f4,f5⟩:=hf it (by simp)
    exact wpAny_pyNext_range_end (I.ok.hd hc) st (by have:n ≤ i:=hg; omega) fun h' eb => ⟨rfl,I.turned (t':=s.toks) (fun b o hb e => eb b o hb e) f0 f1 f3 f4 f5⟩
  self:=fun _ _ _ _ _ st h => wpAny_pyIter_rangeiter st h
section
variable {X:Cx} {tg:Expr}
def iList (K:PySem.W.Frag) (tl:TE):TI:=fun σ H R => tl σ H fun x H1 => ∃ a,x = .ref a ∧ (∃ xs,SqL K H1 a xs) ∧ R (Itl K a) H1
theorem tQ {l:Expr} {tl:TE} (hl:PE X l tl):PI X tg l (iList X.K tl):=by
  (try refine ⟨?_⟩); intro pins s σ H R I h
  refine thn (hl pins s σ H _ I h) fun v s1 ⟨x,H1,I1,r1,q1⟩ => ?_
  obtain ⟨a,e,⟨xs,hq⟩,q⟩:=q1
  subst e
  cases r1
  obtain ⟨its,rv,p,hz⟩:=I1.list hq
  refine wpAny_pyIter_list p.isList ?_
  refine ⟨s1.heap.objs.size,[s1.heap.objs.size],_,_,H1,rfl,I1.kept (t':=s1.toks) fun b o e => Heap.get?_push_of_some _ e,o7 a _,⟨_,Heap.get?_push_size _ rfl,rfl,rfl⟩,fun b hb => ?_,q⟩
  have e:b = s1.heap.objs.size:=by simpa using hb
  subst e
  exact I1.fpOk (Nat.le_refl _) (I1.hok.fresh (Nat.le_refl _))
theorem k9 {pins:List (Addr × Obj)} {σ:St} {H:Hp} {s:Shared} {R:It → Hp → Prop} {E:Value → Shared → Prop} {lo hi:Int} {t u v:Tok} {tk:Nat} (I:Inv X pins σ H s) (h1 : -(2 ^ 62) ≤ lo) (h2:lo < 2 ^ 62) (h3 : -(2 ^ 62) ≤ hi) (h4:hi < 2 ^ 62)
    (q:R (Itr lo (hi - lo).toNat) H):wpAny (model X.prog X.w) X.A (pyIter (.ref s.heap.objs.size)) (PIE X pins σ tg R) E { s with heap:=s.heap.push { cls:=.type "range",data:=.fields #[.int lo t,.int hi u,.int 1 v] },toks:=tk }:=by
  refine wpAny_pyIter_range (IsRange.new ..) (small_one h1 h2 h3 h4) ?_
  have I1:Inv X pins σ H { s with heap:=s.heap.push { cls:=.type "range",data:=.fields #[.int lo t,.int hi u,.int 1 v] },toks:=tk }:=I.kept fun b o e => Heap.get?_push_of_some _ e
  refine ⟨(s.heap.push { cls:=.type "range",data:=.fields #[.int lo t,.int hi u,.int 1 v] }).objs.size,[(s.heap.push { cls:=.type "range",data:=.fields #[.int lo t,.int hi u,.int 1 v] }).objs.size],_,_,H,rfl,
    I1.kept (t':=tk) fun b o e => Heap.get?_push_of_some _ e,lV _ lo (hi - lo).toNat,?_,fun b hb => ?_,q⟩
  · have e1:lo + ((0:Nat):Int) * 1 = lo:=by simp
    have e2:(((hi - lo).toNat:Nat):Int) - ((0:Nat):Int) = Builtin.Range.rangeSize lo hi 1:=by rw [rangeSize_one]; split <;> omega
    show IsRangeIter _ _ (lo + ((0:Nat):Int) * 1) ((((hi - lo).toNat:Nat):Int) - ((0:Nat):Int)) 1
    rw [e1,e2]
    exact Heap.get?_push_size _ rfl
  · have e:b = (s.heap.push { cls:=.type "range",data:=.fields #[.int lo t,.int hi u,.int 1 v] }).objs.size:=by simpa using hb
    subst e
    exact I1.fpOk (Nat.le_refl _) (I1.hok.fresh (Nat.le_refl _))
def iRng1 (ta:TA):TI:=fun σ H R => ta σ H fun vs H1 => ∃ j:Int,vs = [.int j] ∧ -(2 ^ 62) ≤ j ∧ j < 2 ^ 62 ∧ R (Itr 0 j.toNat) H1
def iRng2 (ta:TA):TI:=fun σ H R => ta σ H fun vs H1 => ∃ i j:Int,vs = [.int i,.int j] ∧ (-(2 ^ 62) ≤ i ∧ i < 2 ^ 62 ∧ -(2 ^ 62) ≤ j ∧ j < 2 ^ 62) ∧ R (Itr i (j - i).toNat) H1
theorem oZ {a:Expr} {ta:TA} {p pos:Pos} (hg:Gl X "range") (hm:X.mg "range" = none) (ha:PA X [a] ta) (hs:starEach [a] X.env = [(false,eval a X.env)]:=by rfl):PI X tg (.Call (.Name "range" p) [a] [] pos) (iRng1 ta):=by
  (try refine ⟨?_⟩); intro pins s σ H R I h
  refine Call_ (fq I hg hm boot_range (PyProof.Rows.callWith_type1 (thn (ha pos pins s σ H _ I h) fun us s1 ⟨vs,H1,I1,r1,q1⟩ => ?_) hs rfl))
  obtain ⟨j,e,q1,q2,q⟩:=q1
  subst e
  cases r1 with
  | cons r rr =>
    cases rr
    obtain ⟨t,rfl⟩:=r
    exact call_range_1 (k9 I1 (by omega) (by omega) q1 q2 (by simpa using q))
theorem o8 {a b:Expr} {ta:TA} {p pos:Pos} (hg:Gl X "range") (hm:X.mg "range" = none) (ha:PA X [a,b] ta) (hs:starEach [a,b] X.env = [(false,eval a X.env),(false,eval b X.env)]:=by rfl) (hs2:starEach [b] X.env = [(false,eval b X.env)]:=by rfl) :
    PI X tg (.Call (.Name "range" p) [a,b] [] pos) (iRng2 ta):=by
  (try refine ⟨?_⟩); intro pins s σ H R I h
  refine Call_ (fq I hg hm boot_range (PyProof.Rows.callWith_type1 (thn (ha pos pins s σ H _ I h) fun us s1 ⟨vs,H1,I1,r1,q1⟩ => ?_) (by rw [hs,hs2]) (by rw [hs2]; rfl)))
  obtain ⟨i,j,e,⟨q1,q2,q3,q4⟩,q⟩:=q1
  subst e
  cases r1 with
  | cons r rr =>
    cases rr with
    | cons r' rr =>
      cases rr
      obtain ⟨t,rfl⟩:=r
      obtain ⟨t',rfl⟩:=r'
      exact call_range_2 (k9 I1 q1 q2 q3 q4 q)
def tFor (wi:TI) (g:TG) (tb:TS):TS:=fun D σ H => wi σ H fun J H1 => ∃ W:Nat → Nat → St → Hp → Prop,(∃ m,W 0 m σ H1) ∧ ∀ i m σ H,W i m σ H →
  (J.stop i H ∧ D.nx σ H) ∨ (J.go i H ∧ ∃ N:St → Hp → Prop,(∀ σ' H',N σ' H' → ∃ m',m' < m ∧ W (i + 1) m' σ' H') ∧ ∀ x H',J.yld i H x H' → g x σ H' fun σ2 H2 => tb { D with nx:=N,ct:=N,bk:=D.nx } σ2 H2)
def iA (fp:List Addr) (h:Heap):List (Addr × Obj):=fp.filterMap fun b => (h.get? b).map fun o => (b,o)
theorem cI {fp:List Addr} {h:Heap} {b:Addr} {o:Obj} (hb:b ∈ fp) (e:h.get? b = some o):(b,o) ∈ iA fp h:=List.mem_filterMap.mpr ⟨b,hb,by rw [e]; rfl⟩
theorem jk {fp:List Addr} {h:Heap} {p:Addr × Obj} (hp:p ∈ iA fp h):p.1 ∈ fp ∧ h.get? p.1 = some p.2:=by
  obtain ⟨b,hb,e⟩:=List.mem_filterMap.mp hp
  cases q:h.get? b with
  | none => rw [q] at e; cases e
  | some o =>
    rw [q] at e
    have e':(b,o) = p:=Option.some.inj e
    subst e'
    exact ⟨hb,q⟩
theorem Inv.pinned {pins:List (Addr × Obj)} {σ:St} {H:Hp} {s:Shared} {fp:List Addr} (I:Inv X pins σ H s) (hf:∀ b ∈ fp,kY X pins H b) (ho:∀ b ∈ fp,∃ o,s.heap.get? b = some o ∧ ∀ v,o.data ≠ .cell v):Inv X (pins ++ iA fp s.heap) σ H s :=
  I.pins_of fun p hp => (List.mem_append.mp hp).elim (fun z => I.pin p (List.mem_append_right _ z)) fun z => by
    obtain ⟨hb,e⟩:=jk z
    obtain ⟨f0,f1,f2,_⟩:=hf p.1 hb
    obtain ⟨o,e',d⟩:=ho p.1 hb
    rw [e] at e'; cases e'
    exact ⟨e,f0,f1,f2,d⟩
theorem Inv.unpinned {pins pl:List (Addr × Obj)} {σ:St} {H:Hp} {s:Shared} (I:Inv X (pins ++ pl) σ H s):Inv X pins σ H s:=I.pins_of fun p hp => I.pin p (List.mem_append_right _ (List.mem_append_left _ hp))
theorem uU {iter:Expr} {body:List Stmt} {wi:TI} {g:TG} {tb:TS} {pos:Pos} (hp:PassesOwn (model X.prog X.w) X.A X.env X.xe) (hc:X.calm = true) (hi:PI X tg iter wi) (hg:PG X tg g) (hb:PSs X body tb)
    (hs:∀ x,foldedSetIterable iter X.env x = pure x:=by intro _; rfl):PS X (.For tg iter body [] pos) (tFor wi g tb):=by
  (try refine ⟨?_⟩); intro pins s σ H D I h
  refine wpAny_For (thn (hi pins s σ H _ I h) fun v s1 h1 => thn h1 fun itv s2 h2 => ?_) hs
  obtain ⟨it,fp,tn,J,H2,e,I2,T,st2,f2,W,⟨m0,w0⟩,turn⟩:=h2
  subst e
  -- what stays true of the iterator's objects through the loop
  have stat:∀ {H':Hp},(∀ b ∈ fp,H' b = none) → ∀ b ∈ fp,kY X pins H' b:=fun hn b hb => ⟨hn b hb,(f2 b hb).2⟩
  refine codeAny_forLoop_any (fun n s' => ∃ i σ' H',Inv X pins σ' H' s' ∧ tn i s'.heap ∧ (∀ b ∈ fp,H' b = none) ∧ W i n σ' H') ?_ m0 ⟨0,σ,H2,I2,st2,fun b hb => (f2 b hb).1,w0⟩
  rintro n s3 ⟨i,σ3,H3,I3,st3,fr3,w3⟩
  rcases turn i n σ3 H3 w3 with ⟨stop,qn⟩ | ⟨go,N,hN,step⟩
  · refine wpAny_passesOwn hp (thn (T.done X rfl rfl rfl hc i pins s3 σ3 H3 X.xe I3 (stat fr3) st3 stop) fun r s4 ⟨hr,I4⟩ => ?_)
    subst hr
    exact wpAny_execs_nil ⟨σ3,H3,I4,qn⟩
  · refine wpAny_passesOwn hp (thn (T.item X rfl rfl rfl hc i pins s3 σ3 H3 X.xe I3 (stat fr3) st3 go) fun r s4 ⟨u,hr,h4⟩ => ?_)
    subst hr
    refine wpAny_passesOwn hp (thn h4 fun _ s5 ⟨x,H5,I5,r5,y5,st5,fr5⟩ => ?_)
    have I5':=I5.pinned (stat fr5) (T.obj _ _ st5)
    refine wpAny_passesOwn hp (thn (hg _ s5 σ3 H5 x u _ I5' r5 (step x H5 y5)) fun _ s6 ⟨σ6,H6,I6,q6⟩ => ?_)
    refine wpAny_passesOwn hp (thn (hb _ s6 σ6 H6 _ I6 q6) fun f s7 q7 => ?_)
    have again:∀ {σ7:St} {H7:Hp},Inv X (pins ++ iA fp s5.heap) σ7 H7 s7 → N σ7 H7 → ∃ m,m < n ∧ ∃ i σ' H',Inv X pins σ' H' s7 ∧ tn i s7.heap ∧ (∀ b ∈ fp,H' b = none) ∧ W i m σ' H':=fun {σ7 H7} I7 n7 => by
      obtain ⟨m',hm,w7⟩:=hN σ7 H7 n7
      refine ⟨m',hm,i + 1,σ7,H7,I7.unpinned,T.keep _ _ _ st5 fun b hb o e => (I7.pin (b,o) (List.mem_append_right _ (List.mem_append_right _ (cI hb e)))).1,fun b hb => ?_,w7⟩
      obtain ⟨o,e,d⟩:=T.obj _ _ st5 b hb
      exact (I7.pin (b,o) (List.mem_append_right _ (List.mem_append_right _ (cI hb e)))).2.1
    cases f with
    | next => obtain ⟨σ7,H7,I7,n7⟩:=q7; exact again I7 n7
    | cont => obtain ⟨σ7,H7,I7,n7⟩:=q7; exact again I7 n7
    | brk => obtain ⟨σ7,H7,I7,q7⟩:=q7; exact ⟨σ7,H7,I7.unpinned,q7⟩
    | ret v => obtain ⟨x7,σ7,H7,I7,r7,q7⟩:=q7; exact ⟨x7,σ7,H7,I7.unpinned,r7,q7⟩
end
abbrev R2:=V → V → Hp → VK → Prop
def OpR (X:Cx) (f:Value → Value → Sem Value) (r:R2):Prop :=
  ∀ (pins:List (Addr × Obj)) (s:Shared) (σ:St) (H:Hp) (x y:V) (v u:Value) (Q:VK),Inv X pins σ H s → bf x v → bf y u → r x y H Q →
    wpAny (model X.prog X.w) X.A (f v u) (EP X pins σ Q) X.xe s
def UnR (X:Cx) (f:Value → Sem Value) (r:V → Hp → VK → Prop):Prop :=
  ∀ (pins:List (Addr × Obj)) (s:Shared) (σ:St) (H:Hp) (x:V) (v:Value) (Q:VK),Inv X pins σ H s → bf x v → r x H Q →
    wpAny (model X.prog X.w) X.A (f v) (EP X pins σ Q) X.xe s
def cC (X:Cx) (f:Value) (r:List V → Hp → VK → Prop):Prop :=
  ∀ (pins:List (Addr × Obj)) (s:Shared) (σ:St) (H:Hp) (xs:List V) (us:List Value) (Q:VK),Inv X pins σ H s → aY xs us → r xs H Q →
    wpAny (model X.prog X.w) X.A (call f us) (EP X pins σ Q) X.xe s
def TruR (X:Cx) (r:V → Hp → (Bool → Hp → Prop) → Prop):Prop :=
  ∀ (pins:List (Addr × Obj)) (s:Shared) (σ:St) (H:Hp) (x:V) (v:Value) (Q:Bool → Hp → Prop),Inv X pins σ H s → bf x v → r x H Q →
    wpAny (model X.prog X.w) X.A (truthy v) (TP X pins σ Q) X.xe s
def tOp (r:R2) (ta tb:TE):TE:=fun σ H Q => ta σ H fun x H1 => tb σ H1 fun y H2 => r x y H2 Q
def tUn (r:V → Hp → VK → Prop) (ta:TE):TE:=fun σ H Q => ta σ H fun x H1 => r x H1 Q
def rI (C:Int → Int → Prop) (g:Int → Int → V):R2:=fun x y H Q => ∃ i j,x = .int i ∧ y = .int j ∧ C i j ∧ Q (g i j) H
def rI0 (g:Int → Int → V):R2:=fun x y H Q => ∃ i j,x = .int i ∧ y = .int j ∧ Q (g i j) H
def rU (g:Int → V):V → Hp → VK → Prop:=fun x H Q => ∃ i,x = .int i ∧ Q (g i) H
section
variable {X:Cx} {a b c:Expr} {ta tb tc:TE} {pos:Pos}
theorem binT (ha:PE X a ta) (hb:PE X b tb) {pins:List (Addr × Obj)} {s:Shared} {σ:St} {H:Hp} {R:V → V → Hp → Prop} (I:Inv X pins σ H s)
    (h:ta σ H fun x H1 => tb σ H1 fun y H2 => R x y H2) {Q:Value → Shared → Prop} {f:Value → Value → Sem Value}
    (hf:∀ v u s2 x y H2,Inv X pins σ H2 s2 → bf x v → bf y u → R x y H2 → wpAny (model X.prog X.w) X.A (f v u) Q X.xe s2) :
    wpAny (model X.prog X.w) X.A (eval a X.env) (fun v s₁ => wpAny (model X.prog X.w) X.A (eval b X.env) (fun u s₂ => wpAny (model X.prog X.w) X.A (f v u) Q X.xe s₂) X.xe s₁) X.xe s:=by
  refine thn (ha pins s σ H _ I h) fun v s1 ⟨x,H1,I1,r1,q1⟩ => ?_
  refine thn (hb pins s1 σ H1 _ I1 q1) fun u s2 ⟨y,H2,I2,r2,q2⟩ => ?_
  exact hf v u s2 x y H2 I2 r1 r2 q2
theorem nX {op:Operator} {r:R2} (ho:OpR X (binaryOp op) r) (ha:PE X a ta) (hb:PE X b tb):PE X (.BinOp a op b pos) (tOp r ta tb):=by
  (try refine ⟨?_⟩); intro pins s σ H Q I h
  exact wpAny_BinOp (binT ha hb I h fun v u s2 x y H2 I2 rx ry q => ho pins s2 σ H2 x y v u Q I2 rx ry q)
theorem pe_un {op:UnaryOp} {r:V → Hp → VK → Prop} (ho:UnR X (unaryOp op) r) (ha:PE X a ta):PE X (.UnaryOp op a pos) (tUn r ta):=by
  (try refine ⟨?_⟩); intro pins s σ H Q I h
  exact UnaryOp_ (thn (ha pins s σ H _ I h) fun v s1 ⟨x,H1,I1,r1,q1⟩ => ho pins s1 σ H1 x v Q I1 r1 q1)
theorem opI {f:Value → Value → Sem Value} {C:Int → Int → Prop} {g:Int → Int → Int}
    (rule:∀ (i j:Int) (t u:Tok) (s:Shared) (Q:Value → Shared → Prop) (E:Value → Shared → Prop),C i j → Q (.int (g i j) s.toks) { s with toks:=s.toks + 1 } → wpAny (model X.prog X.w) X.A (f (.int i t) (.int j u)) Q E s) :
    OpR X f (rI C fun i j => .int (g i j)):=by
  (try refine ⟨?_⟩); intro pins s σ H x y v u Q I rx ry h
  obtain ⟨i,j,rfl,rfl,hc,q⟩:=h
  obtain ⟨t,rfl⟩:=rx
  obtain ⟨t',rfl⟩:=ry
  exact rule i j t t' s _ _ hc ⟨.int (g i j),H,I.tok _,⟨_,rfl⟩,q⟩
theorem opI0 {f:Value → Value → Sem Value} {g:Int → Int → Int}
    (rule:∀ (i j:Int) (t u:Tok) (s:Shared) (Q:Value → Shared → Prop) (E:Value → Shared → Prop),Q (.int (g i j) s.toks) { s with toks:=s.toks + 1 } → wpAny (model X.prog X.w) X.A (f (.int i t) (.int j u)) Q E s) :
    OpR X f (rI0 fun i j => .int (g i j)):=by
  (try refine ⟨?_⟩); intro pins s σ H x y v u Q I rx ry h
  obtain ⟨i,j,rfl,rfl,q⟩:=h
  obtain ⟨t,rfl⟩:=rx
  obtain ⟨t',rfl⟩:=ry
  exact rule i j t t' s _ _ ⟨.int (g i j),H,I.tok _,⟨_,rfl⟩,q⟩
theorem opB0 {f:Value → Value → Sem Value} {g:Int → Int → Bool}
    (rule:∀ (i j:Int) (t u:Tok) (s:Shared) (Q:Value → Shared → Prop) (E:Value → Shared → Prop),Q (.bool (g i j)) s → wpAny (model X.prog X.w) X.A (f (.int i t) (.int j u)) Q E s) :
    OpR X f (rI0 fun i j => .bl (g i j)):=by
  (try refine ⟨?_⟩); intro pins s σ H x y v u Q I rx ry h
  obtain ⟨i,j,rfl,rfl,q⟩:=h
  obtain ⟨t,rfl⟩:=rx
  obtain ⟨t',rfl⟩:=ry
  exact rule i j t t' s _ _ ⟨.bl (g i j),H,I,rfl,q⟩
def CDiv (i j:Int):Prop:=0 < j ∧ j < 1073741824
def CPow (i j:Int):Prop:=0 ≤ j ∧ j ≤ 1000000 ∧ i.natAbs < 2 ^ 64
def CMul (i j:Int):Prop:=(-(2 ^ 64) < i ∧ i < 2 ^ 64) ∨ (-(2 ^ 64) < j ∧ j < 2 ^ 64)
theorem CMul.ok {i j:Int} (h:CMul i j):IntMulOk i j:=by
  rcases h with ⟨h1,h2⟩ | ⟨h1,h2⟩
  · exact .of_left (intBits_le_64 h1 h2)
  · exact .of_right (intBits_le_64 h1 h2)
theorem bM:OpR X (binaryOp .Add) (rI0 fun i j => .int (i + j)):=opI0 fun _ _ _ _ _ _ _ q => add_int q
theorem bv:OpR X (binaryOp .Sub) (rI0 fun i j => .int (i - j)):=opI0 fun _ _ _ _ _ _ _ q => sub_int q
theorem dt:OpR X (binaryOp .Mult) (rI CMul fun i j => .int (i * j)):=opI fun _ _ _ _ _ _ _ hc q => mul_int q hc.ok
theorem nB:OpR X (binaryOp .FloorDiv) (rI CDiv fun i j => .int (i / j)):=opI fun i j _ _ _ _ _ hc q => by
  have h1:(0:Int) < j:=hc.1
  have h2:j < 1073741824:=hc.2
  exact floordiv_int (by omega) (by rw [Int.fdiv_eq_ediv_of_nonneg i (by omega)]; exact q) (.inl (PyProof.noPylong_small (by omega)))
theorem cV:OpR X (binaryOp .Mod) (rI (fun _ j => 0 < j) fun i j => .int (i % j)):=opI fun i j _ _ _ _ _ hc q => by
  have h1:(0:Int) < j:=hc
  exact mod_int' (by omega) (by rw [Int.fmod_eq_emod_of_nonneg i (by omega)]; exact q)
theorem fC:OpR X (binaryOp .Pow) (rI CPow fun i j => .int (i ^ j.toNat)):=opI fun _ _ _ _ _ _ _ hc q => pow_int_small hc.1 hc.2.1 hc.2.2 q
theorem unI {f:Value → Sem Value} {g:Int → Int}
    (rule:∀ (i:Int) (t:Tok) (s:Shared) (Q:Value → Shared → Prop) (E:Value → Shared → Prop),Q (.int (g i) s.toks) { s with toks:=s.toks + 1 } → wpAny (model X.prog X.w) X.A (f (.int i t)) Q E s) :
    UnR X f (rU fun i => .int (g i)):=by
  (try refine ⟨?_⟩); intro pins s σ H x v Q I rx h
  obtain ⟨i,rfl,q⟩:=h
  obtain ⟨t,rfl⟩:=rx
  exact rule i t s _ _ ⟨.int (g i),H,I.tok _,⟨_,rfl⟩,q⟩
theorem uX:UnR X (unaryOp .USub) (rU fun i => .int (-i)):=unI fun _ _ _ _ _ q => neg_int q
end
section
variable {X:Cx} {a b c:Expr} {ta tb tc:TE} {pos:Pos}
theorem qq {pins:List (Addr × Obj)} {σ:St} {H:Hp} {s:Shared} {Q:VK} {k k':Bool} (I:Inv X pins σ H s) (q:Q (.bl k) H) (e:k = k'):EP X pins σ Q (.bool k') s:=by
  subst e
  exact ⟨.bl k,H,I,rfl,q⟩
theorem lc:OpR X (compareOp .Lt) (rI0 fun i j => .bl (decide (i < j))):=opB0 fun _ _ _ _ _ _ _ q => lt_int q
theorem lD:OpR X (compareOp .LtE) (rI0 fun i j => .bl (decide (i ≤ j))):=opB0 fun _ _ _ _ _ _ _ q => le_int q
theorem fS:OpR X (compareOp .Gt) (rI0 fun i j => .bl (decide (j < i))):=opB0 fun _ _ _ _ _ _ _ q => gt_int q
theorem p6:OpR X (compareOp .GtE) (rI0 fun i j => .bl (decide (j ≤ i))):=opB0 fun _ _ _ _ _ _ _ q => ge_int q
theorem uN:OpR X (compareOp .Is) (fun x y H Q => y = .non ∧ Q (.bl (decide (x = .non))) H):=by
  (try refine ⟨?_⟩); intro pins s σ H x y v u Q I rx ry h
  obtain ⟨rfl,q⟩:=h
  cases ry
  refine is_none_gen (qq I q ?_)
  cases x <;> first
    | (cases rx; rfl)
    | (obtain ⟨t,rfl⟩:=rx; rfl)
theorem sW:OpR X (compareOp .IsNot) (fun x y H Q => y = .non ∧ Q (.bl (!decide (x = .non))) H):=by
  (try refine ⟨?_⟩); intro pins s σ H x y v u Q I rx ry h
  obtain ⟨rfl,q⟩:=h
  cases ry
  refine isnot_none_gen (qq I q ?_)
  cases x <;> first
    | (cases rx; rfl)
    | (obtain ⟨t,rfl⟩:=rx; rfl)
theorem aP (b:Expr) {op:CmpOp} (h:op ≠ .In:=by decide) (h2:op ≠ .NotIn:=by decide):behindInMarks op b = false:=by
  have e1:(op == CmpOp.In) = false:=by cases op <;> first | rfl | exact absurd rfl h
  have e2:(op == CmpOp.NotIn) = false:=by cases op <;> first | rfl | exact absurd rfl h2
  cases b <;> simp [behindInMarks,e1,e2]
theorem tS {op:CmpOp} {r:R2} (ho:OpR X (compareOp op) r) (ha:PE X a ta) (hb:PE X b tb) (hm:behindInMarks op b = false):PE X (.Compare a [op] [b] pos) (tOp r ta tb):=by
  (try refine ⟨?_⟩); intro pins s σ H Q I h
  exact wpAny_Compare1 (binT ha hb I h fun v u s2 x y H2 I2 rx ry q => ho pins s2 σ H2 x y v u Q I2 rx ry q) hm
def ux (t:TE):TT:=fun σ H Q => t σ H fun x H' => ∃ k,x = .bl k ∧ Q k H'
theorem tE {op:CmpOp} {r:R2} (ho:OpR X (compareOp op) r) (ha:PE X a ta) (hb:PE X b tb) (hm:behindInMarks op b = false):PT X (.Compare a [op] [b] pos) (ux (tOp r ta tb)):=by
  (try refine ⟨?_⟩); intro pins s σ H Q I h
  refine wpAny_isTrue_Compare1 (thn (ha pins s σ H _ I h) fun v s1 ⟨x,H1,I1,r1,q1⟩ => thn (hb pins s1 σ H1 _ I1 q1) fun u s2 ⟨y,H2,I2,r2,q2⟩ =>
    thn (ho pins s2 σ H2 x y v u _ I2 r1 r2 q2) fun c s3 ⟨z,H3,I3,r3,k,e,q3⟩ => ?_) hm
  subst e
  cases r3
  exact wpAny_truthy_bool ⟨H3,I3,q3⟩
def rN (r r':R2) (ta tb tc:TE):TE:=fun σ H Q => ta σ H fun x H1 => tb σ H1 fun y H2 => r x y H2 fun z H3 => ∃ k,z = .bl k ∧
  (if k = true then tc σ H3 fun w' H4 => r' y w' H4 Q else Q (.bl false) H3)
theorem qz {op op':CmpOp} {r r':R2} (ho:OpR X (compareOp op) r) (ho':OpR X (compareOp op') r') (ha:PE X a ta) (hb:PE X b tb) (hc:PE X c tc)
    (hm:lastMarks [op,op'] [b,c] = false:=by with_unfolding_all rfl):PE X (.Compare a [op,op'] [b,c] pos) (rN r r' ta tb tc):=by
  (try refine ⟨?_⟩); intro pins s σ H Q I h
  refine Compare_chain (thn (ha pins s σ H _ I h) fun v s1 ⟨x,H1,I1,r1,q1⟩ => chain_link (thn (hb pins s1 σ H1 _ I1 q1) fun u s2 ⟨y,H2,I2,r2,q2⟩ =>
    thn (ho pins s2 σ H2 x y v u _ I2 r1 r2 q2) fun d s3 ⟨z,H3,I3,r3,k,e,q3⟩ => ?_)) hm
  subst e
  cases r3
  refine wpAny_truthy_bool ?_
  cases k with
  | false => exact ite_ff ⟨.bl false,H3,I3,rfl,q3⟩
  | true => exact ite_tt (chain_last (thn (hc pins s3 σ H3 _ I3 q3) fun w' s4 ⟨z',H4,I4,r4,q4⟩ => ho' pins s4 σ H4 y z' u w' Q I4 r2 r4 q4))
def TruV (K:PySem.W.Frag) (x:V) (H:Hp) (k:Bool):Prop :=
  match x with
  | .non => k = false
  | .bl b => k = b
  | .int i => k = (i != 0)
  | .str y => y.length ≤ sizeLine ∧ k = ((y.length:Int) != 0)
  | .byt y => y.size ≤ sizeLine ∧ k = ((y.size:Int) != 0)
  | .ref p => (∃ xs,SqL K H p xs ∧ k = !xs.isEmpty) ∨ (∃ xs,SqT K H p xs ∧ k = !xs.isEmpty) ∨ ∃ kvs,H p = some (.dK kvs) ∧ k = !kvs.isEmpty
  | _ => False
theorem mY {κ:Type} {kvs:List (κ × V)} {vs:List (κ × Value)} (r:KV kvs vs):(!vs.isEmpty) = !kvs.isEmpty:=by
  cases r <;> rfl
theorem ir {xs:List V} {its:List Value} (r:aY xs its):(!its.toArray.isEmpty) = !xs.isEmpty:=by
  cases r <;> simp
theorem ft:(sizeLine:Nat) < 2 ^ 63:=by rw [sizeLine_eq]; decide
theorem xj:TruR X (fun x H Q => ∃ k,TruV X.K x H k ∧ Q k H):=by
  (try refine ⟨?_⟩); intro pins s σ H x v Q I rx h
  obtain ⟨k,e,q⟩:=h
  have hl:=ft
  have hs:sizeLine = 16777216:=sizeLine_eq
  cases x with
  | non =>
    cases rx
    have e':k = false:=e
    subst e'
    exact truthy_none ⟨H,I,q⟩
  | bl b =>
    cases rx
    have e':k = b:=e
    subst e'
    exact wpAny_truthy_bool ⟨H,I,q⟩
  | int i =>
    obtain ⟨t,rfl⟩:=rx
    have e':k = (i != 0):=e
    subst e'
    exact PySem.P.truthy_int ⟨H,I,q⟩
  | str y =>
    obtain ⟨t,rfl⟩:=rx
    obtain ⟨hy,e'⟩:y.length ≤ sizeLine ∧ k = ((y.length:Int) != 0):=e
    subst e'
    exact PySem.P.truthy_str (by omega) ⟨H,I.tok _,q⟩
  | byt y =>
    obtain ⟨t,rfl⟩:=rx
    obtain ⟨hy,e'⟩:y.size ≤ sizeLine ∧ k = ((y.size:Int) != 0):=e
    subst e'
    exact PySem.W.truthy_bytes (by omega) ⟨H,I.tok _,q⟩
  | ref p =>
    cases rx
    have e':(∃ xs,SqL X.K H p xs ∧ k = !xs.isEmpty) ∨ (∃ xs,SqT X.K H p xs ∧ k = !xs.isEmpty) ∨ ∃ kvs,H p = some (.dK kvs) ∧ k = !kvs.isEmpty:=e
    rcases e' with ⟨xs,hx,e'⟩ | ⟨xs,hx,e'⟩ | ⟨kvs,hx,e'⟩
    · subst e'
      obtain ⟨its,r,pl,hz⟩:=I.list hx
      have hlen:=r.length
      exact wpAny_truthy_list pl.isList (by simp only [List.size_toArray]; omega) ⟨H,I.tok _,by rw [ir r]; exact q⟩
    · subst e'
      obtain ⟨its,r,pl,hz⟩:=I.tuple hx
      have hlen:=r.length
      exact truthy_tuple pl (by simp only [List.size_toArray]; omega) ⟨H,I.tok _,by rw [ir r]; exact q⟩
    · subst e'
      obtain ⟨hz,hS,vs,r,m⟩:kvs.length ≤ sizeLine ∧ (p == sysModules) = false ∧ ∃ vs,KV kvs vs ∧ s.heap.DictOf (kv X.prog X.w) p vs:=I.hok p _ hx
      have hlen:kvs.length = vs.length:=Paired.length r
      exact wpAny_truthy_dict hS m (by omega) ⟨H,I.tok _,by rw [mY r]; exact q⟩
  | _ => exact (show False from e).elim
theorem rq (ha:PE X a ta) (he:∀ whole,isTrue a X.env whole = (do let v ← whole; standAt a.pos; holding [v] (truthy v))) :
    PT X a (fun σ H Q => ta σ H fun x H' => ∃ k,TruV X.K x H' k ∧ Q k H'):=by
  (try refine ⟨?_⟩); intro pins s σ H Q I h
  exact isTrue_plain (thn (ha pins s σ H _ I h) fun v s1 ⟨x,H1,I1,r1,q1⟩ => xj pins s1 σ H1 x v Q I1 r1 q1) (he _)
theorem eW {x:V} {us:List Value} (r:aY [x] us):∃ u,us = [u] ∧ bf x u:=by
  cases r with
  | cons r1 r2 => cases r2; exact ⟨_,rfl,r1⟩
theorem lN {x y:V} {us:List Value} (r:aY [x,y] us):∃ u w',us = [u,w'] ∧ bf x u ∧ bf y w':=by
  cases r with
  | cons r1 r2 =>
    cases r2 with
    | cons r3 r4 => cases r4; exact ⟨_,_,rfl,r1,r3⟩
theorem fg (hc:X.calm = true):cC X (.builtin "max") (fun xs H Q => ∃ i j,xs = [.int i,.int j] ∧ Q (.int (if j > i then j else i)) H):=by
  (try refine ⟨?_⟩); intro pins s σ H xs us Q I r h
  obtain ⟨i,j,rfl,q⟩:=h
  obtain ⟨u,w',rfl,⟨t,rfl⟩,⟨t',rfl⟩⟩:=lN r
  refine max_two_ints (I.ok.hd hc) fun h' tk k => ⟨_,H,I.kept k,?_,q⟩
  by_cases hj:j > i
  · rw [if_pos hj,if_pos hj]; exact ⟨_,rfl⟩
  · rw [if_neg hj,if_neg hj]; exact ⟨_,rfl⟩
theorem dN (hc:X.calm = true):cC X (.builtin "min") (fun xs H Q => ∃ i j,xs = [.int i,.int j] ∧ Q (.int (if j < i then j else i)) H):=by
  (try refine ⟨?_⟩); intro pins s σ H xs us Q I r h
  obtain ⟨i,j,rfl,q⟩:=h
  obtain ⟨u,w',rfl,⟨t,rfl⟩,⟨t',rfl⟩⟩:=lN r
  refine min_two_ints (I.ok.hd hc) fun h' tk k => ⟨_,H,I.kept k,?_,q⟩
  by_cases hj:j < i
  · rw [if_pos hj,if_pos hj]; exact ⟨_,rfl⟩
  · rw [if_neg hj,if_neg hj]; exact ⟨_,rfl⟩
theorem pk:cC X (.type "int") (fun xs H Q => (∃ i,xs = [.int i] ∧ Q (.int i) H) ∨ ∃ k,xs = [.bl k] ∧ Q (.int (if k then 1 else 0)) H):=by
  (try refine ⟨?_⟩); intro pins s σ H xs us Q I r h
  rcases h with ⟨i,rfl,q⟩ | ⟨k,rfl,q⟩
  · obtain ⟨u,rfl,t,rfl⟩:=eW r
    exact call_int_int ⟨.int i,H,I,⟨_,rfl⟩,q⟩
  · obtain ⟨u,rfl,r1⟩:=eW r
    cases r1
    exact call_int_bool ⟨.int (if k then 1 else 0),H,I.tok _,⟨_,rfl⟩,q⟩
end
structure ObjM (h:Heap) (x dx C:Addr) (mA:Str → Option Value):Prop where
  obj:h.get? x = some (PySem.W.instObj C dx)
  ns:h.Ns1 dx mA
  ne:dx ≠ x
theorem pN {h:Heap} {dx:Addr} {mA:Str → Option Value} (n:h.Ns1 dx mA):∃ od,h.get? dx = some od ∧ ∀ name,PySem.W.lookIn name od = some (mA name):=by
  obtain ⟨o,es,ep,ho,hd,hk,_,hm⟩:=n
  refine ⟨o,ho,fun name => ?_⟩
  have e:=hm name
  unfold nsFind findBy at e
  rw [← Array.find?_toList] at e
  unfold PySem.W.lookIn
  rw [hd]
  dsimp only
  split
  · rename_i y q
    rw [q] at e
    exact congrArg some e
  · rename_i q
    rw [q] at e
    have a:es.toList.any (·.refKey) = false:=by
      rw [List.any_eq_false]
      intro y hy
      obtain ⟨z,t,hkey⟩:=hk y (Array.mem_toList_iff.mp hy)
      simp [DictEntry.refKey,hkey]
    have a' : ¬ es.toList.any (·.refKey) = true:=by rw [a]; exact Bool.false_ne_true
    rw [if_neg a']
    exact congrArg some e
theorem ObjM.look {h:Heap} {x dx C:Addr} {mA:Str → Option Value} (I:ObjM h x dx C mA):∃ od,PySem.W.InstAt h x (PySem.W.instObj C dx) C (some od) ∧ ∀ name,PySem.W.lookIn name od = some (mA name) :=
  let ⟨od,ho,hl⟩:=pN I.ns
  ⟨od,⟨I.obj,rfl,rfl,ho⟩,hl⟩
section
variable {prog:Program} {w:World} {A:Around} {E:Value → Shared → Prop} {s:Shared} {K:PySem.W.Frag} {x dx C f:Addr} {mA:Str → Option Value} {name:Str} {v:Value}
end
section
variable {P:Program} {w:World} {H H':Hp} {h h':Heap} {a C dx:Addr} {fs fs':List (Str × V)}
theorem s8 (hok:HOk P w H h) (e:H a = some (.ins C dx fs)):∃ mA,ObjM h a dx C mA ∧ (∀ f,RelO (fs.lookup f) (mA f)) ∧ PySem.Within mA (fs.map (·.1)) ∧ fs.length ≤ 1000 ∧ H dx = some (.own a):=by
  obtain ⟨d,z,ne,ob,mA,n,r,q⟩:=(show b7 P w H h a (.ins C dx fs) from hok a _ e)
  exact ⟨mA,⟨ob,n,ne⟩,r,q,z,d⟩
end
structure Cls (K:PySem.W.Frag) (C:Addr):Prop where
  pg:PySem.W.plainGet K C Str.empty = true
  hd:PySem.W.hasDictIn K C = true
  po:PySem.W.plainOver K C = true
  sa:PySem.W.findIn K (.ref C) "__setattr__" = some (some (.builtin "object.__setattr__"))
theorem Cls.get {K:PySem.W.Frag} {C:Addr} (c:Cls K C) (f:Str):PySem.W.plainGet K C f = true:=c.pg
section
variable {X:Cx} {pins:List (Addr × Obj)} {σ:St} {H:Hp} {s:Shared} {a C dx:Addr} {fs:List (Str × V)} {f:Str} {v:V} {A:Around} {E:Value → Shared → Prop}
end
section
variable {X:Cx} {o e value:Expr} {f:Str} {pos pos' tpos:Pos} {ta tv:TE}
end
section
variable {X:Cx} {pins:List (Addr × Obj)} {σ:St} {H:Hp} {s:Shared} {A:Around} {E:Value → Shared → Prop} {Q:Value → Shared → Prop} {c:Value} {b:Bool}
inductive TyOf (K:PySem.W.Frag) (H:Hp):V → Value → Prop where
  | non:TyOf K H .non (.type "NoneType")
  | bl (x:Bool):TyOf K H (.bl x) (.type "bool")
  | int (i:Int):TyOf K H (.int i) (.type "int")
  | str (x:Str):TyOf K H (.str x) (.type "str")
  | flt (x:UInt64):TyOf K H (.flt x) (.type "float")
  | lst {a:Addr} {xs:List V} (e:H a = some (.lst xs)):TyOf K H (.ref a) (.type "list")
  | frz {a:Addr} {o:Obj} {xs:List V} (e:H a = some (.frz o (.lst xs))):TyOf K H (.ref a) (.type "list")
  | tup {a:Addr} {xs:List V} (e:H a = some (.tup xs)):TyOf K H (.ref a) (.type "tuple")
  | dK {a:Addr} {kvs:List (Key × V)} (e:H a = some (.dK kvs)):TyOf K H (.ref a) (.type "dict")
  | dT {a:Addr} {kvs:List (List Key × V)} (e:H a = some (.dT kvs)):TyOf K H (.ref a) (.type "dict")
  | ins {a C dx:Addr} {fs:List (Str × V)} (e:H a = some (.ins C dx fs)) (cl:Cls K C) (ha:PySem.W.findIn K (.ref C) "__class__" = some (some (.builtin "object.__class__")))
      (hn:PySem.W.specialIn K (.builtin "object.__class__") "__get__" = some (some (.builtin "getset_descriptor.__get__"))) (htk:PySem.W.takesIn K (.builtin "object.__class__") = some true)
      (hm:PySem.W.mroIn K C (.type "object") = some true):TyOf K H (.ref a) (.ref C)
theorem pE {x:V} {u t:Value} (I:Inv X pins σ H s) (rx:bf x u) (ty:TyOf X.K H x t) (e:PySem.W.kitOne X.K t c = some b) (h:∀ tk,Q (.bool b) { s with toks:=tk }) :
    wpAny (model X.prog X.w) A (call (.builtin "isinstance") [u,c]) Q E s:=by
  cases ty with
  | non => cases (show u = Value.none from rx); exact PySem.W.kia_one PySem.W.kitx_none I.kIn True.intro e (fun z => nomatch z) h
  | bl y => cases (show u = Value.bool y from rx); exact PySem.W.kia_one PySem.W.kitx_bool I.kIn True.intro e (fun z => nomatch z) h
  | int i => obtain ⟨t,q⟩:=(show ∃ t,u = Value.int i t from rx); cases q; exact PySem.W.kia_one PySem.W.kitx_int I.kIn True.intro e (fun z => nomatch z) h
  | str y => obtain ⟨t,q⟩:=(show ∃ t,u = Value.str y t from rx); cases q; exact PySem.W.kia_one PySem.W.kitx_str I.kIn True.intro e (fun z => nomatch z) h
  | flt y => obtain ⟨t,q⟩:=(show ∃ t,u = Value.float y t from rx); cases q; exact PySem.W.kia_one PySem.W.kitx_float I.kIn True.intro e (fun z => nomatch z) h
  | @lst a xs ea =>
    cases (show u = Value.ref a from rx)
    obtain ⟨_,_,n,_,h1⟩:=(show b7 X.prog X.w H s.heap a (.lst xs) from I.hok a _ ea)
    exact PySem.W.kia_one PySem.W.kitx_list I.kIn ⟨_,h1,rfl⟩ e (fun z => nomatch z) h
  | @frz a ob xs ea =>
    cases (show u = Value.ref a from rx)
    obtain ⟨_,_,_,n,_,h1⟩:=(show b7 X.prog X.w H s.heap a (.frz ob (.lst xs)) from I.hok a _ ea)
    exact PySem.W.kia_one PySem.W.kitx_list I.kIn ⟨_,h1,rfl⟩ e (fun z => nomatch z) h
  | @tup a xs ea =>
    cases (show u = Value.ref a from rx)
    obtain ⟨_,_,_,p⟩:=(show b7 X.prog X.w H s.heap a (.tup xs) from I.hok a _ ea)
    obtain ⟨o,h1,h2,_⟩:=p
    exact PySem.W.kia_one PySem.W.kitx_tuple I.kIn ⟨o,h1,h2⟩ e (fun z => nomatch z) h
  | @dK a kvs ea =>
    cases (show u = Value.ref a from rx)
    obtain ⟨_,_,vs,_,p⟩:=(show b7 X.prog X.w H s.heap a (.dK kvs) from I.hok a _ ea)
    obtain ⟨o,es,ep,h1,h2,_⟩:=p
    exact PySem.W.kia_one PySem.W.kitx_dict I.kIn ⟨o,h1,h2.1⟩ e (fun z => nomatch z) h
  | @dT a kvs ea =>
    cases (show u = Value.ref a from rx)
    obtain ⟨_,_,xs,_,o,es,ep,h1,h2,_⟩:=(show b7 X.prog X.w H s.heap a (.dT kvs) from I.hok a _ ea)
    exact PySem.W.kia_one PySem.W.kitx_dict I.kIn ⟨o,h1,h2.1⟩ e (fun z => nomatch z) h
  | @ins a C dx fs ea cl ha hn htk hm =>
    cases (show u = Value.ref a from rx)
    obtain ⟨mA,O,_⟩:=s8 I.hok ea
    obtain ⟨od,J,_⟩:=O.look
    exact PySem.W.kia_one (PySem.W.kitx_own (cl.get _) cl.hd ha hn htk hm) I.kIn J e (fun z => nomatch z) h
end
structure Room (k:Nat) (A:Around):Prop where
  hd:A.handled = none
  dp:A.depth + 3 * k + 5 < recursionLimit
  un:A.units + 16 * k + 200 < cLine
  gd:A.guards = some []
theorem Room.mono {j k:Nat} {A:Around} (r:Room k A) (h:j ≤ k):Room j A:=⟨r.hd,by have:=r.dp; omega,by have:=r.un; omega,r.gd⟩
theorem Room.deeper {k:Nat} {A:Around} (r:Room (k + 1) A) (env:Env):Room k (A.deeper env) :=
  ⟨r.hd,by have:=r.dp; show A.depth + 1 + 3 * k + 5 < _; omega,by have:=r.un; show A.units + 3 + 16 * k + 200 < _; omega,r.gd⟩
theorem Room.depth {k:Nat} {A:Around} (r:Room k A):A.depth < recursionLimit:=by have:=r.dp; omega
theorem Room.units {k:Nat} {A:Around} (r:Room k A):A.units + 64 < cLine:=by have:=r.un; omega
def tNil:TA:=fun _ H Q => Q [] H
def tCons (ta:TE) (tr:TA):TA:=fun σ H Q => ta σ H fun x H1 => tr σ H1 fun xs H2 => Q (x :: xs) H2
section
variable {X:Cx} {e:Expr} {es:List Expr} {te:TE} {t:TA} {pos:Pos}
theorem fw:PA X [] tNil:=⟨fun _ _ _ _ H Q I h => Calls.spliced_nil ⟨[],H,I,.nil,h⟩⟩
theorem cD (ha:PE X e te) (hr:PA X es t) (hs:starEach (e :: es) X.env = (false,eval e X.env) :: starEach es X.env:=by rfl):PA X (e :: es) (tCons te t):=by
  (try refine ⟨?_⟩); intro pos pins s σ H Q I h
  rw [hs]
  show wpAny _ _ (spliced ((false,eval e X.env) :: backTo pos (starEach es X.env))) _ _ s
  refine Calls.spliced_cons (thn (ha pins s σ H _ I h) fun u s1 ⟨x,H1,I1,r1,q1⟩ => ?_)
  exact thn (hr pos pins s1 σ H1 _ I1 q1) fun us s2 ⟨xs,H2,I2,r2,q2⟩ => ⟨x :: xs,H2,I2,.cons r1 r2,q2⟩
def tTup (t:TA):TE:=fun σ H Q => t σ H fun xs H1 => xs.length ≤ sizeLine ∧ ∀ p,H1 p = none → Q (.ref p) (upd H1 p (.tup xs))
def tLst (t:TA):TE:=fun σ H Q => t σ H fun xs H1 => xs.length ≤ sizeLine ∧ ∀ p,H1 p = none → Q (.ref p) (upd H1 p (.lst xs))
theorem qj {x1} (h:PA X es t):PE X (.Tuple es x1 pos) (tTup t):=by
  (try refine ⟨?_⟩); intro pins s σ H Q I hq
  refine wpAny_Tuple_spliced (thn (h pos pins s σ H _ I hq) fun us s1 ⟨xs,H1,I1,r,z,q⟩ => ⟨by rw [← r.length]; exact z,?_⟩)
  have hf:H1 s1.heap.objs.size = none:=I1.hok.fresh (Nat.le_refl _)
  refine ⟨.ref s1.heap.objs.size,upd H1 s1.heap.objs.size (.tup xs),I1.laid (t':=s1.toks) (fun b u e => Heap.get?_push_of_some _ e) (Nat.le_refl _) ?_,rfl,q _ hf⟩
  exact ⟨z,us,r,⟨_,Heap.get?_push_size _ rfl,rfl,_,rfl⟩⟩
theorem mM (h:PA X es t):PE X (.List es pos) (tLst t):=by
  (try refine ⟨?_⟩); intro pins s σ H Q I hq
  refine wpAny_List_spliced (thn (h pos pins s σ H _ I hq) fun us s1 ⟨xs,H1,I1,r,z,q⟩ => ⟨by rw [← r.length]; exact z,?_⟩)
  have hf:H1 s1.heap.objs.size = none:=I1.hok.fresh (Nat.le_refl _)
  refine ⟨.ref s1.heap.objs.size,upd H1 s1.heap.objs.size (.lst xs),I1.laid (t':=s1.toks) (fun b u e => Heap.get?_push_of_some _ e) (Nat.le_refl _) ?_,rfl,q _ hf⟩
  exact ⟨z,us,0,r,Heap.get?_push_size _ rfl⟩
end
abbrev Sp:=List V → Hp → VK → XK → Prop
abbrev CXT:=List Env → Hp → Shared → XK → Value → Shared → Prop
structure Env0 (P:Program) (w:World) (K:PySem.W.Frag) (mg:Str → Option Value) (base:Heap) (A:Around) (outer:List Env) (s:Shared) (H:Hp):Prop where
  frames:A.frames = some outer
  mod:Mod K mg base
  bs:∀ b o,base.get? b = some o → s.heap.get? b = some o ∧ H b = none
  bsz:base.objs.size ≤ s.heap.objs.size
  funs:s.heap.FunFrames base outer
  frf:∀ b ∈ frs outer,H b = none
  hok:HOk P w H s.heap
  bare:AllBare s.gens
def CE (outer:List Env) (P:Program) (w:World) (H:Hp) (s:Shared) (Q:VK) (u:Value) (s':Shared):Prop :=
  ∃ v H',s'.os = s.os ∧ AllBare s'.gens ∧ Un (frs outer) [] H H' s.heap s'.heap ∧ HOk P w H' s'.heap ∧ bf v u ∧ Q v H'
def CR (CX:CXT) (outer:List Env) (P:Program) (w:World) (H:Hp) (s:Shared) (Q:VK) (E:XK) (r:Result) (s':Shared):Prop :=
  match r with
  | .ok (.ret u) => CE outer P w H s Q u s'
  | .ok _ => False
  | .error e => CX outer H s E e s'
structure FnOk (P:Program) (w:World) (K:PySem.W.Frag) (mg:Str → Option Value) (base:Heap) (CX:CXT) (k:Nat) (f:Addr) (fd:FuncData) (ps:List Str) (sp:Sp):Prop where
  len:∀ vs H Q E,sp vs H Q E → vs.length = ps.length
  run:∀ (A:Around) (outer:List Env) (s:Shared) (H:Hp) (args:Args) (us:List Value) (vs:List V) (Q:VK) (E:XK),Room k A → Env0 P w K mg base A outer s H → BindsTo s fd args (ps.zip us) → aY vs us → sp vs H Q E →
    codeAny (model P w) A (.call (.ref f) args) (CR CX outer P w H s Q E) s
theorem FnOk.imp {P:Program} {w:World} {K:PySem.W.Frag} {mg:Str → Option Value} {base:Heap} {CX:CXT} {k:Nat} {f:Addr} {fd:FuncData} {ps:List Str} {sp sp':Sp} (F:FnOk P w K mg base CX k f fd ps sp)
    (h:∀ vs H Q E,sp' vs H Q E → sp vs H Q E):FnOk P w K mg base CX k f fd ps sp' :=
  ⟨fun vs H Q E q => F.len vs H Q E (h _ _ _ _ q),fun A outer s H args us vs Q E hr he hb hv hs => F.run A outer s H args us vs Q E hr he hb hv (h _ _ _ _ hs)⟩
section
variable {X:Cx} {pins:List (Addr × Obj)} {σ:St} {H:Hp} {s s':Shared}
theorem Inv.env0 (I:Inv X pins σ H s):Env0 X.prog X.w X.K X.mg X.base X.A X.stack s H :=
  ⟨I.ok.frames,I.ok.mod,I.bs,Nat.le_trans I.ok.bsz I.sz,I.stack,I.stkFree,I.hok,I.bare⟩
theorem Inv.after {Q:VK} {u:Value} (I:Inv X pins σ H s) (h:CE X.stack X.prog X.w H s Q u s'):EP X pins σ Q u s':=by
  obtain ⟨v,H',os,bare,un,hok,r,q⟩:=h
  obtain ⟨hh,g,d,t,os'⟩:=s'
  obtain rfl:os' = s.os:=os
  exact ⟨v,H',I.call (h':=hh) (g':=g) (d':=d) (t':=t) (ch:=[]) un hok bare (fun b z => absurd z (by simp)),r,q⟩
end
def tCall (sp:Sp) (dvs:List V) (E:XK) (t:TA):TE:=fun σ H Q => t σ H fun vs H1 => sp (vs ++ dvs) H1 Q E
def aM (K:PySem.W.Frag) (fd:FuncData) (ps:List Str) (ds:List Value):Prop :=
  ∀ (s:Shared) (us:List Value),K.In s.heap → (us ++ ds).length = ps.length → BindsTo s fd ⟨us,[]⟩ (ps.zip (us ++ ds))
theorem aM.all {K:PySem.W.Frag} {fd:FuncData} {ps:List Str} (h:∀ us:List Value,us.length = ps.length → bindArgs fd ⟨us,[]⟩ = pure (ps.zip us)):aM K fd ps []:=fun s us _ hl => by
  rw [List.append_nil] at hl ⊢
  exact .of_eq (h us hl)
def mD (CX:CXT) (X:Cx) (E:XK):Prop:=∀ (pins:List (Addr × Obj)) (σ:St) (H:Hp) (s:Shared) (e:Value) (s':Shared),Inv X pins σ H s → CX X.stack H s E e s' → X.xe e s'
section
variable {X:Cx} {CX:CXT} {k:Nat} {f C:Addr} {fd:FuncData} {ps:List Str} {sp:Sp} {dvs:List V} {ds:List Value} {E:XK} {x m:Str} {p pos apos:Pos} {e o:Expr} {es:List Expr} {ta:TE} {t:TA}
theorem vU {pins:List (Addr × Obj)} {σ:St} {H:Hp} {s:Shared} {Q:VK} {us:List Value} {vs:List V} (F:FnOk X.prog X.w X.K X.mg X.base CX k f fd ps sp) (hr:Room k X.A) (hb:aM X.K fd ps ds) (hd:aY dvs ds) (hx:mD CX X E)
    (I:Inv X pins σ H s) (r:aY vs us) (h:sp (vs ++ dvs) H Q E):wpAny (model X.prog X.w) X.A (call (.ref f) us) (EP X pins σ Q) X.xe s:=by
  have r2:aY (vs ++ dvs) (us ++ ds):=r.append hd
  have hl:(us ++ ds).length = ps.length:=by rw [← r2.length]; exact F.len _ _ _ _ h
  refine wpAny_call (codeAny_mono (F.run X.A X.stack s H ⟨us,[]⟩ (us ++ ds) (vs ++ dvs) Q E hr I.env0 (hb s us I.kIn hl) r2 h) fun r s' hq => ?_)
  cases r with
  | error e => exact hx pins σ H s e s' I hq
  | ok fl =>
    cases fl with
    | ret u => exact I.after hq
    | next => exact False.elim hq
    | brk => exact False.elim hq
    | cont => exact False.elim hq
theorem nL (F:FnOk X.prog X.w X.K X.mg X.base CX k f fd ps sp) (hr:Room k X.A) (hg:Gl X x) (hm:X.mg x = some (.ref f)) (hk:PySem.W.keepIn X.K (.ref f) = true) (hb:aM X.K fd ps ds) (hd:aY dvs ds) (hx:mD CX X E)
    (ha:PA X (e :: es) t) (hdb:(x == ("__debug__":Str)) = false:=by decide) (he:starEach (e :: es) X.env = (false,eval e X.env) :: starEach es X.env:=by rfl) (hpl:(backTo pos (starEach es X.env)).any (·.1) = false:=by rfl) :
    PE X (.Call (.Name x p) (e :: es) [] pos) (tCall sp dvs E t):=by
  (try refine ⟨?_⟩); intro pins s σ H Q I h
  refine wpAny_Call_Name_kw (nP I hg hm ?_ hdb)
  refine PySem.W.callWith_K (h₀:=X.base) I.ok.mod.kin hk (thn (ha pos pins s σ H _ I h) fun us s1 ⟨vs,H1,I1,r,q⟩ => ⟨I1.kIn,?_⟩) he hpl
  exact vU F hr hb hd hx I1 r q
end
section
variable {X:Cx} {CX:CXT} {k:Nat} {f C:Addr} {fd:FuncData} {ps ks:List Str} {sp:Sp} {E:XK} {x m:Str} {p pos apos kpos:Pos} {e o:Expr} {es:List Expr} {kws:List Keyword} {te ta:TE} {t tk:TA} {nm:Option Str}
variable {g:List Value → List Value → List Value} {gV:List V → List V → List V}
end
structure FnScope (N P:List Str) (sc:Scope):Prop where
  kind:sc.kind = .function
  co:sc.isCoroutine = false
  gen:sc.isGenerator = false
  nd:N.Nodup
  pre:N.take P.length = P
  par:∀ x ∈ P,sc.names.lookup x = some .local ∨ sc.names.lookup x = some .cell
  nofree:∀ y ∈ sc.names,y.2 ≠ .free
theorem iI {kindOf:Str → Option NameKind} {x:Str}:∀ {binds:List (Str × Value)} {m:Str → Option Value},(∀ v,(x,v) ∉ binds) → bindL kindOf binds m x = m x
  | [],_,_ => rfl
  | (n,v) :: r,m,h => by
    unfold bindL
    rw [iI fun w hw => h w (List.mem_cons_of_mem _ hw)]
    split
    · have:x ≠ n:=by rintro rfl; exact h v List.mem_cons_self
      simp [this]
    · rfl
theorem jy {kindOf:Str → Option NameKind} {x:Str}:∀ {binds:List (Str × Value)} {m:Str → Option Value},(∀ v,(x,v) ∉ binds) → bindC kindOf binds m x = m x
  | [],_,_ => rfl
  | (n,v) :: r,m,h => by
    unfold bindC
    rw [jy fun w hw => h w (List.mem_cons_of_mem _ hw)]
    split
    · rfl
    · have:x ≠ n:=by rintro rfl; exact h v List.mem_cons_self
      simp [this]
theorem jY {kindOf:Str → Option NameKind} {x:Str} {v:Value}:∀ {P:List Str} {vs:List Value} {i:Nat} {m:Str → Option Value},P.Nodup → P[i]? = some x → vs[i]? = some v → kindOf x = some .local →
    bindL kindOf (P.zip vs) m x = some v
  | [],_,_,_,_,h,_,_ => by simp at h
  | _ :: _,[],_,_,_,_,h,_ => by simp at h
  | p :: P,w :: vs,0,m,nd,h1,h2,hk => by
    simp at h1 h2; subst h1; subst h2
    show bindL kindOf ((p,w) :: P.zip vs) m p = _
    unfold bindL
    rw [iI fun v hv => (List.nodup_cons.mp nd).1 (List.of_mem_zip hv).1,if_pos hk]
    simp
  | p :: P,w :: vs,i + 1,m,nd,h1,h2,hk => by
    show bindL kindOf ((p,w) :: P.zip vs) m x = _
    unfold bindL
    exact jY (i:=i) (List.nodup_cons.mp nd).2 (by simpa using h1) (by simpa using h2) hk
theorem jH {kindOf:Str → Option NameKind} {x:Str} {v:Value}:∀ {P:List Str} {vs:List Value} {i:Nat} {m:Str → Option Value},P.Nodup → P[i]? = some x → vs[i]? = some v → kindOf x ≠ some .local →
    bindC kindOf (P.zip vs) m x = some v
  | [],_,_,_,_,h,_,_ => by simp at h
  | _ :: _,[],_,_,_,_,h,_ => by simp at h
  | p :: P,w :: vs,0,m,nd,h1,h2,hk => by
    simp at h1 h2; subst h1; subst h2
    show bindC kindOf ((p,w) :: P.zip vs) m p = _
    unfold bindC
    rw [jy fun v hv => (List.nodup_cons.mp nd).1 (List.of_mem_zip hv).1,if_neg hk]
    simp
  | p :: P,w :: vs,i + 1,m,nd,h1,h2,hk => by
    show bindC kindOf ((p,w) :: P.zip vs) m x = _
    unfold bindC
    exact jH (i:=i) (List.nodup_cons.mp nd).2 (by simpa using h1) (by simpa using h2) hk
def ev (N:List Str) (vs:List V):St:=vs.map some ++ List.replicate (N.length - vs.length) none
def mH (CX:CXT) (P:Program) (w:World) (K:PySem.W.Frag) (mg:Str → Option Value) (base:Heap) (N:List Str) (qual:Str) (scope:Scope) (f:Addr) (cd:Value) (A:Around) (outer:List Env) (s:Shared) (H:Hp) (E:XK):Cx where
  prog:=P
  w:=w
  K:=K
  mg:=mg
  base:=base
  A:=A.deeper (envOfC qual scope s.heap.objs.size f cd)
  N:=N
  s₀:=s
  H₀:=H
  env:=envOfC qual scope s.heap.objs.size f cd
  outer:=outer
  stack:=envOfC qual scope s.heap.objs.size f cd :: outer
  ex:=[]
  calm:=true
  fn:=fun _ => true
  pn:=[]
  xe:=fun e s' => wpAny (model P w) (A.deeper (envOfC qual scope s.heap.objs.size f cd)) (leaving (envOfC qual scope s.heap.objs.size f cd) e) (fun _ s'' => CX outer H s E e s'') (fun e' s'' => CX outer H s E e' s'') s'
theorem lf {sc:Scope} {n:Nat} {x:Str} (h:sc.names.lookup x = some .cell):∃ c,(cellsFrom n sc.names []).lookup x = some c:=by
  have q:=PySem.W.cellsFrom_some sc.names n [] (.inl h)
  exact Option.isSome_iff_exists.mp q
theorem oB {CX:CXT} {P:Program} {w:World} {K:PySem.W.Frag} {mg:Str → Option Value} {base:Heap} {N ps:List Str} {qual:Str} {scope:Scope} {f:Addr} {cd:Value} {A:Around} {outer:List Env} {s s1:Shared} {H:Hp} {E:XK} {us:List Value} {vs:List V}
    (S:FnScope N ps scope) (hd:A.handled = none) (e0:Env0 P w K mg base A outer s H) (hl:vs.length = ps.length) (r:aY vs us)
    (x:InCallC s s.heap.objs.size (bindL (envOfC qual scope s.heap.objs.size f cd).kindOf (ps.zip us) fun _ => none) (cellsFrom (s.heap.objs.size + 1) scope.names []) (bindC (envOfC qual scope s.heap.objs.size f cd).kindOf (ps.zip us) fun _ => none) s1) :
    Inv (mH CX P w K mg base N qual scope f cd A outer s H E) [] (ev N vs) H s1:=by
  have hpl:ps.length ≤ N.length:=by have:=congrArg List.length S.pre; rw [List.length_take] at this; omega
  obtain ⟨h1,tk,rfl,hk⟩:=x.done
  have noA:∀ b:Addr,b ∉ (mH CX P w K mg base N qual scope f cd A outer s H E).ex:=fun b z => absurd (show b ∈ ([]:List Addr) from z) (by simp)
  refine ⟨⟨e0.mod,S.kind,rfl,rfl,Nat.le_refl _,fun y z c h1 h2 => ?_,fun y hy => ?_,fun y c _ h => ?_,fun _ => hd,Around.frames_deeper e0.frames,.inr ⟨rfl,rfl⟩,fun b z => absurd z (noA b),e0.bs,e0.bsz,fun b _ _ => noA b,fun b z => absurd z (noA b),e0.funs,e0.frf⟩,
    rfl,e0.bare,Un.kept hk,⟨_,x.toInCall.ns,fun i y v h1 h2 h3 => ?_⟩,fun y c h => ⟨_,x.cell y c h⟩,e0.hok.fresh (Nat.le_refl _),fun y c h => ?_,fun p hp => absurd (show p ∈ ([]:List (Addr × Obj)) from hp) (by simp),e0.hok.kept hk,?_⟩
  · exact name_of_addr x.apart (PySem.mem_of_lookup h1) (PySem.mem_of_lookup h2)
  · have hy:scope.names.lookup y = some .cell ∨ scope.names.lookup y = some .free:=hy
    rcases hy with hy | hy
    · exact lf hy
    · exact absurd rfl (S.nofree _ (PySem.mem_of_lookup hy))
  · exact Nat.le_of_lt (x.above y c (PySem.mem_of_lookup h))
  · have hi:i < vs.length:=by
      unfold ev at h2
      by_cases hi:i < vs.length
      · exact hi
      · rw [List.getElem?_append_right (by simpa using hi)] at h2
        rw [List.getElem?_replicate] at h2
        split at h2 <;> cases h2
    have ha:vs[i]? = some v:=by
      unfold ev at h2
      rw [List.getElem?_append_left (by simpa using hi),List.getElem?_map] at h2
      cases e:vs[i]? with
      | none => rw [e] at h2; cases h2
      | some a => rw [e] at h2; cases h2; rfl
    obtain ⟨u,hu,rv⟩:=r.get ha
    have hp:ps[i]? = some y:=by
      rw [← S.pre,List.getElem?_take_of_lt (by omega)]; exact h1
    have ndP:ps.Nodup:=by rw [← S.pre]; exact S.nd.sublist (List.take_sublist _ _)
    refine ⟨u,rv,?_⟩
    rcases S.par y (List.mem_of_getElem? hp) with k | k
    · exact .inl ⟨k,jY ndP hp hu k⟩
    · obtain ⟨c,e⟩:=lf (n:=s.heap.objs.size + 1) k
      refine .inr ⟨.inl k,c,e,?_⟩
      have q:=x.cell y c e
      rw [jH ndP hp hu (by show scope.names.lookup y ≠ _; rw [k]; decide)] at q
      exact q
  · exact e0.hok.fresh (Nat.le_of_lt (x.above y c (PySem.mem_of_lookup h)))
  · unfold ev
    show _ = N.length
    rw [List.length_append,List.length_map,List.length_replicate]
    omega
theorem fn_of {CX:CXT} {P:Program} {w:World} {K:PySem.W.Frag} {mg:Str → Option Value} {base:Heap} {k:Nat} {f:Addr} {name qual:Str} {params:Arguments} {body:List Stmt} {scope:Scope} {dV kV doc pm cdv ct oc:Value} {an od:Option Addr}
    {osl:Array (Option Value)} {N ps:List Str} {sp:Sp} (lk:K.lookup f = some ⟨oc,od,.func (PySem.W.fnOf name qual params body scope dV kV doc pm an cdv ct),osl⟩) (hcd:PySem.W.codeIn K cdv qual = true) (S:FnScope N ps scope)
    (len:∀ vs H Q E,sp vs H Q E → vs.length = ps.length)
    (hbody:∀ (A:Around) (outer:List Env) (s:Shared) (H:Hp) (vs:List V) (Q:VK) (E:XK),Room k (A.deeper (envOfC qual scope s.heap.objs.size f cdv)) → sp vs H Q E →
      ∃ t,PSs (mH CX P w K mg base N qual scope f cdv A outer s H E) body t ∧ t { nx:=fun _ H' => Q .non H',rt:=Q } (ev N vs) H) :
    FnOk P w K mg base CX (k + 1) f (PySem.W.fnOf name qual params body scope dV kV doc pm an cdv ct) ps sp:=by
  refine ⟨len,fun A outer s H args us vs Q E hr e0 hb r hsp => ?_⟩
  have hl:=len _ _ _ _ hsp
  have KX:K.In s.heap:=e0.mod.kin.keeps fun b o e => (e0.bs b o e).1
  have lim:s.heap.NoLimit:=e0.mod.nolimit.keeps fun b o e => (e0.bs b o e).1
  have hkind:∀ y ∈ ps.zip us,scope.names.lookup y.1 = some .local ∨ (scope.names.lookup y.1 = some .cell ∧ ((cellsFrom (s.heap.objs.size + 1) scope.names []).lookup y.1).isSome = true):=fun ⟨n,v⟩ hy => by
    rcases S.par n (List.of_mem_zip hy).1 with q | q
    · exact .inl q
    · exact .inr ⟨q,PySem.W.cellsFrom_some _ _ _ (.inl q)⟩
  refine codeAny_call_function hr.depth (KX _ _ lk) rfl S.co S.gen rfl (PySem.W.codeRec_of KX hcd) (hb _ _ _ _ ?_)
  refine wpAny_newFunctionEnv_cells S.kind hkind fun env he s1 x => ?_
  subst he
  refine ⟨lim.keeps x.toInCall.keep,codeAny_func ?_⟩
  obtain ⟨t,ht,hq⟩:=hbody A outer s H vs Q E (hr.deeper _) hsp
  have I:Inv (mH CX P w K mg base N qual scope f cdv A outer s H E) [] (ev N vs) H s1:=oB S hr.hd e0 hl r x
  refine wpAny_mono (ht [] s1 (ev N vs) H _ I hq) (fun fl s' hs => ?_) fun e s' hs => hs
  have fin:∀ {σ':St} {H':Hp} {v:V} {u:Value},Inv (mH CX P w K mg base N qual scope f cdv A outer s H E) [] σ' H' s' → bf v u → Q v H' → CE outer P w H s Q u s' :=
    fun {σ' H' v u} J rv q => ⟨v,H',J.os,J.bare,J.base,J.hok,rv,q⟩
  cases fl with
  | ret u =>
    obtain ⟨v,σ',H',J,rv,q⟩:=hs
    exact fin J rv q
  | next =>
    obtain ⟨σ',H',J,q⟩:=hs
    exact fin (v:=V.non) (u:=Value.none) J rfl q
  | brk =>
    obtain ⟨_,_,_,q⟩:=hs
    exact False.elim q
  | cont =>
    obtain ⟨_,_,_,q⟩:=hs
    exact False.elim q
section
variable {X:Cx} {x:Str} {p pos:Pos} {e:Expr} {es:List Expr} {t:TA} {id T:String} {r:List V → Hp → VK → Prop}
def tCB (r:List V → Hp → VK → Prop) (t:TA):TE:=fun σ H Q => t σ H fun vs H1 => r vs H1 Q
theorem g8 (hc:cC X (.builtin id) r) (hg:Gl X x) (hm:X.mg x = none) (hv:bootBuiltins x = some (.builtin id)) (ha:PA X (e :: es) t) (hn:x ≠ "__name__":=by decide) (hdb:(x == ("__debug__":Str)) = false:=by decide)
    (he:starEach (e :: es) X.env = (false,eval e X.env) :: starEach es X.env:=by rfl) (hpl:(backTo pos (starEach es X.env)).any (·.1) = false:=by rfl):PE X (.Call (.Name x p) (e :: es) [] pos) (tCB r t):=by
  (try refine ⟨?_⟩); intro pins s σ H Q I h
  refine wpAny_Call_Name_kw (fq I hg hm hv ?_ hn hdb)
  exact PyProof.Rows.callWith_builtin1 (thn (ha pos pins s σ H _ I h) fun us s1 ⟨vs,H1,I1,r1,q1⟩ => hc pins s1 σ H1 vs us Q I1 r1 q1) he hpl
theorem jr (hc:cC X (.type T) r) (hg:Gl X x) (hm:X.mg x = none) (hv:bootBuiltins x = some (.type T)) (ha:PA X (e :: es) t) (hn:x ≠ "__name__":=by decide) (hdb:(x == ("__debug__":Str)) = false:=by decide)
    (he:starEach (e :: es) X.env = (false,eval e X.env) :: starEach es X.env:=by rfl) (hpl:(backTo pos (starEach es X.env)).any (·.1) = false:=by rfl):PE X (.Call (.Name x p) (e :: es) [] pos) (tCB r t):=by
  (try refine ⟨?_⟩); intro pins s σ H Q I h
  refine wpAny_Call_Name_kw (fq I hg hm hv ?_ hn hdb)
  exact PyProof.Rows.callWith_type1 (thn (ha pos pins s σ H _ I h) fun us s1 ⟨vs,H1,I1,r1,q1⟩ => hc pins s1 σ H1 vs us Q I1 r1 q1) he hpl
end
end L2
namespace HT
open PySem PyProof.Rows
section
open PySem.SeqAt
open PySem.AutoSeq1 (wpAny_loadPart')
open PySem.MeetsSeq PySem.MeetsSeq2 PySem.MeetsSeq3
end
section
variable {prog:Program} {w:World} {A:Around} {E:Value → Shared → Prop} {s:Shared}
def sIx (n d:Nat):Option Int → Nat
  | none => d
  | some v => if v < 0 then (v + (n:Int)).toNat else min v.toNat n
end
end HT
namespace L2
open PySem PySem.Spec PyProof.Rows
abbrev TO:=St → Hp → (Option Int → Hp → Prop) → Prop
structure PO (X:Cx) (e:Option Expr) (t:TO):Prop where
  go:∀ (pins:List (Addr × Obj)) (s:Shared) (σ:St) (H:Hp) (Q:Option Int → Hp → Prop),Inv X pins σ H s → t σ H Q →
    wpAny (model X.prog X.w) X.A (evalPart e X.env) (fun u s' => ∃ o H',Inv X pins σ H' s' ∧ IsPart u o ∧ Q o H') X.xe s
instance {X:Cx} {e:Option Expr} {t:TO}:CoeFun (PO X e t) fun _ => ∀ (pins:List (Addr × Obj)) (s:Shared) (σ:St) (H:Hp) (Q:Option Int → Hp → Prop),Inv X pins σ H s → t σ H Q →
    wpAny (model X.prog X.w) X.A (evalPart e X.env) (fun u s' => ∃ o H',Inv X pins σ H' s' ∧ IsPart u o ∧ Q o H') X.xe s:=⟨fun h => h.go⟩
def sx:TO:=fun _ H Q => Q none H
def tPart (t:TE):TO:=fun σ H Q => t σ H fun x H1 => ∃ i,x = .int i ∧ Q (some i) H1
theorem d7 {ns:List Int}:∀ {us:List Value},aY (ns.map V.int) us → IntsAre us ns:=by
  induction ns with
  | nil => intro us r; rw [List.map_nil] at r; cases r; exact .nil
  | cons n ns ih =>
    intro us r
    rw [List.map_cons] at r
    cases r with
    | cons r1 r2 =>
      obtain ⟨t,e⟩:=r1
      subst e
      exact .cons n t (ih r2)
section
variable {X:Cx} {e:Expr} {te:TE} {lo hi:Option Expr} {tl th:TO} {pos p2:Pos}
theorem tU:PO X none sx:=by
  (try refine ⟨?_⟩); intro pins s σ H Q I h
  rw [evalPart_none]
  exact wpAny_pure ⟨none,H,I,.none,h⟩
theorem tw (h:PE X e te):PO X (some e) (tPart te):=by
  (try refine ⟨?_⟩); intro pins s σ H Q I hw
  rw [evalPart_some]
  refine thn (h pins s σ H _ I hw) fun u s1 ⟨x,H1,I1,r1,q1⟩ => ?_
  obtain ⟨i,rfl,q⟩:=q1
  obtain ⟨t,rfl⟩:=r1
  exact ⟨some i,H1,I1,.int i t,q⟩
def SlR (X:Cx) (r:V → Option Int → Option Int → Hp → VK → Prop):Prop :=
  ∀ (pins:List (Addr × Obj)) (s:Shared) (σ:St) (H:Hp) (x:V) (v vl vu:Value) (lo hi:Option Int) (sl:Addr) (Q:VK),Inv X pins σ H s → bf x v → s.heap.IsSliceOf sl vl vu .none → IsPart vl lo → IsPart vu hi → r x lo hi H Q →
    ∃ T id,typeLookup (.type T) "__getitem__" = pure (some (.builtin id)) ∧ s.TypeIs v T ∧ wpAny (model X.prog X.w) X.A (getItem v (.ref sl)) (EP X pins σ Q) X.xe s
def tSl (r:V → Option Int → Option Int → Hp → VK → Prop) (te:TE) (tl th:TO):TE:=fun σ H Q => te σ H fun x H1 => tl σ H1 fun l H2 => th σ H2 fun u H3 => r x l u H3 Q
theorem pP {r:V → Option Int → Option Int → Hp → VK → Prop} (hr:SlR X r) (he:PE X e te) (hl:PO X lo tl) (hu:PO X hi th):PE X (.Subscript e (.Slice lo hi none p2) pos) (tSl r te tl th):=by
  (try refine ⟨?_⟩); intro pins s σ H Q I h
  refine Subscript_ (thn (he pins s σ H _ I h) fun v s1 ⟨x,H1,I1,r1,q1⟩ => ?_)
  refine wpAny_Slice (thn (hl pins s1 σ H1 _ I1 q1) fun vl s2 ⟨l,H2,I2,pl,q2⟩ => thn (hu pins s2 σ H2 _ I2 q2) fun vu s3 ⟨u,H3,I3,pu,q3⟩ => ?_)
  rw [evalPart_none]
  refine wpAny_pure ?_
  have I4:Inv X pins σ H3 { s3 with heap:=s3.heap.push { cls:=.type "slice",data:=.fields #[vl,vu,.none] } }:=I3.kept (t':=s3.toks) fun b ob q => Heap.get?_push_of_some _ q
  obtain ⟨T,id,hT,ht,hg⟩:=hr pins { s3 with heap:=s3.heap.push { cls:=.type "slice",data:=.fields #[vl,vu,.none] } } σ H3 x v vl vu l u s3.heap.objs.size Q I4 r1 (Heap.IsSliceOf.new ..) pl pu q3
  show wpAny (model X.prog X.w) X.A (subscriptTail e (.Slice lo hi none p2) v (.ref s3.heap.objs.size)) (EP X pins σ Q) X.xe { s3 with heap:=s3.heap.push { cls:=.type "slice",data:=.fields #[vl,vu,.none] } }
  exact tail_any (ops:=[.ref s3.heap.objs.size,v]) ht hT hg (by with_unfolding_all rfl)
def nq (xs:List V) (lo hi:Option Int):List V:=(xs.drop (HT.sIx xs.length 0 lo)).take (HT.sIx xs.length xs.length hi - HT.sIx xs.length 0 lo)
theorem lq (xs:List V) (lo hi:Option Int):(nq xs lo hi).length ≤ xs.length:=by
  unfold nq
  rw [List.length_take,List.length_drop]
  omega
end
def ixN (n:Nat) (i:Int):Option Nat:=if 0 ≤ i then (if i < n then some i.toNat else none) else if -(n:Int) ≤ i then some (i + n).toNat else none
def atI {α:Type} (xs:List α) (i:Int):Option α:=(ixN xs.length i).bind fun j => xs[j]?
theorem kJ {n:Nat} {i:Int} {j:Nat} (h:ixN n i = some j):seqIndex? i n = some j ∧ j < n ∧ -(n:Int) ≤ i ∧ i < n:=by
  unfold ixN at h
  by_cases h0 : 0 ≤ i
  · rw [if_pos h0] at h
    by_cases h1:i < n
    · rw [if_pos h1] at h
      have e:i.toNat = j:=Option.some.inj h
      exact ⟨by rw [seqIndex_of h0 h1,e],by omega,by omega,h1⟩
    · rw [if_neg h1] at h; cases h
  · rw [if_neg h0] at h
    by_cases h1 : -(n:Int) ≤ i
    · rw [if_pos h1] at h
      have e:(i + n).toNat = j:=Option.some.inj h
      exact ⟨by rw [seqIndex_neg (by omega) h1,e],by omega,h1,by omega⟩
    · rw [if_neg h1] at h; cases h
theorem f8 {α:Type} {xs:List α} {i:Int} {v : α} (h:atI xs i = some v):∃ j,seqIndex? i xs.length = some j ∧ xs[j]? = some v ∧ j < xs.length ∧ -(xs.length:Int) ≤ i ∧ i < xs.length:=by
  unfold atI at h
  cases e:ixN xs.length i with
  | none => rw [e] at h; cases h
  | some j =>
    rw [e] at h
    obtain ⟨h1,h2,h3,h4⟩:=kJ e
    exact ⟨j,h1,h,h2,h3,h4⟩
theorem fe {α:Type} {xs:List α} {j:Nat} {v : α} (h:xs[j]? = some v):atI xs (j:Int) = some v:=by
  have hj:j < xs.length:=(List.getElem?_eq_some_iff.mp h).1
  have e:ixN xs.length (j:Int) = some j:=by
    unfold ixN
    rw [if_pos (by omega),if_pos (by omega)]; simp
  unfold atI; rw [e]; exact h
def kD (b:Expr):Prop:=∀ o i,subscripted b false o i = operate [o,i] (getItem o i)
def IxR (X:Cx) (r:R2):Prop :=
  ∀ (value slice:Expr) (pins:List (Addr × Obj)) (s:Shared) (σ:St) (H:Hp) (x y:V) (v u:Value) (Q:VK),Inv X pins σ H s → bf x v → bf y u → r x y H Q →
    subscripted slice false v u = operate [v,u] (getItem v u) → wpAny (model X.prog X.w) X.A (subscriptTail value slice v u) (EP X pins σ Q) X.xe s
def MtR (X:Cx) (id:String) (r:V → List V → Hp → VK → Prop):Prop :=
  ∀ (pins:List (Addr × Obj)) (s:Shared) (σ:St) (H:Hp) (x:V) (xs:List V) (v:Value) (us:List Value) (Q:VK),Inv X pins σ H s → bf x v → aY xs us → r x xs H Q →
    wpAny (model X.prog X.w) X.A (call (.builtin id) (v :: us)) (EP X pins σ Q) X.xe s
section
variable {X:Cx} {a b:Expr} {ta tb:TE} {pos:Pos}
theorem IxR.or {r r':R2} (h:IxR X r) (h':IxR X r'):IxR X (fun x y H Q => r x y H Q ∨ r' x y H Q):=by
  intro value slice pins s σ H x y v u Q I rx ry q hs
  rcases q with q | q
  · exact h value slice pins s σ H x y v u Q I rx ry q hs
  · exact h' value slice pins s σ H x y v u Q I rx ry q hs
theorem t7 {r:R2} (hr:IxR X r) (ha:PE X a ta) (hb:PE X b tb) (hs:kD b):PE X (.Subscript a b pos) (tOp r ta tb):=by
  (try refine ⟨?_⟩); intro pins s σ H Q I h
  exact Subscript_ (binT ha hb I h fun v u s2 x y H2 I2 rx ry q => hr a b pins s2 σ H2 x y v u Q I2 rx ry q (hs _ _))
def rIxL (K:PySem.W.Frag):R2:=fun x y H Q => ∃ p xs i v,x = .ref p ∧ y = .int i ∧ SqL K H p xs ∧ atI xs i = some v ∧ Q v H
def rIxT (K:PySem.W.Frag):R2:=fun x y H Q => ∃ p xs i v,x = .ref p ∧ y = .int i ∧ SqT K H p xs ∧ atI xs i = some v ∧ Q v H
def rIxS:R2:=fun x y H Q => ∃ z i c,x = .str z ∧ y = .int i ∧ z.length ≤ sizeLine ∧ atI z.cps.toList i = some c ∧ Q (.str ⟨#[c]⟩) H
theorem sL:IxR X (rIxL X.K):=by
  intro value slice pins s σ H x y v u Q I rx ry h hs
  obtain ⟨p,xs,i,z,rfl,rfl,hq,he,q⟩:=h
  cases rx
  obtain ⟨t,rfl⟩:=ry
  obtain ⟨its,r,pl,hz⟩:=I.list hq
  obtain ⟨j,h1,h2,h3,h4,h5⟩:=f8 he
  obtain ⟨w,ew,rw'⟩:=r.get h2
  have hl:=r.length
  have hn:=ft
  have fin:EP X pins σ Q w s:=⟨z,H,I,rw',q⟩
  by_cases h0 : 0 ≤ i
  · have hj:i.toNat = j:=by
      rw [seqIndex_of h0 h5] at h1
      exact Option.some.inj h1
    exact item_listR pl.isList h0 (by omega) (by rw [hj]; simpa using ew) fin hs
  · have hj:(i + (its.toArray.size:Int)).toNat = j:=by
      rw [seqIndex_neg (by omega) h4] at h1
      rw [List.size_toArray,← hl]
      exact Option.some.inj h1
    exact subscriptTail_builtinR (x:=w) pl.isList.typeIs slot_list_getitem.lookup
      (wpAny_getItem_list_neg (Q:=fun r s' => r = w ∧ EP X pins σ Q r s') pl.isList (by omega) (by rw [List.size_toArray] <;> omega) (by omega) (by rw [hj]; simpa using ew) ⟨rfl,fin⟩) hs
theorem wz:IxR X (rIxT X.K):=by
  intro value slice pins s σ H x y v u Q I rx ry h hs
  obtain ⟨p,xs,i,z,rfl,rfl,hq,he,q⟩:=h
  cases rx
  obtain ⟨t,rfl⟩:=ry
  obtain ⟨its,r,pl,hz⟩:=I.tuple hq
  obtain ⟨j,h1,h2,h3,h4,h5⟩:=f8 he
  obtain ⟨w,ew,rw'⟩:=r.get h2
  have hl:=r.length
  have hn:=ft
  have fin:EP X pins σ Q w s:=⟨z,H,I,rw',q⟩
  exact subscriptTail_builtinR (x:=w) pl.typeIs slot_tuple_getitem.lookup
    (getItem_tuple (j:=j) (Q:=fun r s' => r = w ∧ EP X pins σ Q r s') pl (by omega) (by omega) (by rw [List.size_toArray,← hl]; exact h1) (by simpa using ew) ⟨rfl,fin⟩) hs
theorem vJ:IxR X rIxS:=by
  intro value slice pins s σ H x y v u Q I rx ry h hs
  obtain ⟨z,i,c,rfl,rfl,hz,he,q⟩:=h
  obtain ⟨t,rfl⟩:=rx
  obtain ⟨t',rfl⟩:=ry
  obtain ⟨j,h1,h2,h3,h4,h5⟩:=f8 he
  have hl:z.cps.toList.length = z.length:=by simp [Str.length]
  rw [hl] at h1 h4 h5
  have hn:=ft
  exact tail_any (typeIs_str s z t) slot_str_getitem.lookup (getItem_str (c:=c) (by
    have e1:decide (i < -(2 ^ 63:Int)) = false:=decide_eq_false (by omega)
    have e2:decide (i ≥ 2 ^ 63) = false:=decide_eq_false (by omega)
    rw [e1,e2,Bool.or_false]) (by rw [h1]; simpa using h2) ⟨.str ⟨#[c]⟩,H,I.tok _,⟨_,rfl⟩,q⟩) hs
def rIx (K:PySem.W.Frag):R2:=fun x y H Q => rIxL K x y H Q ∨ rIxT K x y H Q ∨ rIxS x y H Q
theorem ao:IxR X (rIx X.K):=sL.or (wz.or vJ)
theorem nj (its:List Value) (n j:Nat) (u:Value):Obj.mapSeq (·.setIfInBounds j u) { cls:=.type "list",data:=.seq its.toArray n } = { cls:=.type "list",data:=.seq (its.set j u).toArray n }:=by
  simp [Obj.mapSeq]
theorem Inv.lst {pins:List (Addr × Obj)} {σ:St} {H:Hp} {s:Shared} {p:Addr} {xs:List V} (I:Inv X pins σ H s) (h:H p = some (.lst xs)) :
    ∃ (its:List Value) (n:Nat),aY xs its ∧ s.heap.get? p = some { cls:=.type "list",data:=.seq its.toArray n } ∧ xs.length ≤ sizeLine:=by
  obtain ⟨z,its,n,r,e⟩:=I.hok p _ h
  exact ⟨its,n,r,e,z⟩
theorem Inv.lstUpd {pins:List (Addr × Obj)} {σ:St} {H:Hp} {s:Shared} {p:Addr} {xs ys:List V} {its its':List Value} {n n':Nat} {f:Obj → Obj} (I:Inv X pins σ H s) (h:H p = some (.lst xs))
    (ho:s.heap.get? p = some { cls:=.type "list",data:=.seq its.toArray n }) (hf:f { cls:=.type "list",data:=.seq its.toArray n } = { cls:=.type "list",data:=.seq its'.toArray n' }) (r:aY ys its') (hz:ys.length ≤ sizeLine) (t:Nat) :
    Inv X pins σ (upd H p (.lst ys)) { s with heap:=s.heap.update p f,toks:=t }:=by
  have e:(s.heap.update p f).get? p = some { cls:=.type "list",data:=.seq its'.toArray n' }:=by
    rw [Heap.get?_update_self f ho (by rw [hf] <;> rfl),hf]
  refine I.write (x:=p) (e:=p) (by rw [h]; trivial) (.inl rfl) (fun b u hb q => (Heap.get?_update_other _ _ (Ne.symm hb)).trans q) ⟨_,e⟩ ?_
  exact ⟨hz,its',n',r,e⟩
def rSetL:V → V → V → Hp → (Hp → Prop) → Prop:=fun o i v H Q => ∃ p xs k j,o = .ref p ∧ i = .int k ∧ H p = some (.lst xs) ∧ ixN xs.length k = some j ∧ Q (upd H p (.lst (xs.set j v)))
theorem ln:PSet X rSetL:=by
  (try refine ⟨?_⟩); intro pins s σ H o i v ov iv u Q I ro ri rv h
  obtain ⟨p,xs,k,j,rfl,rfl,hp,hj,q⟩:=h
  cases ro
  obtain ⟨t,rfl⟩:=ri
  obtain ⟨its,n,r,ho,hz⟩:=I.lst hp
  obtain ⟨h1,h2,h3,h4⟩:=kJ hj
  have hl:=r.length
  have hn:=ft
  have I':Inv X pins σ (upd H p (.lst (xs.set j v))) { s with heap:=s.heap.update p (Obj.mapSeq (·.setIfInBounds j u)) } :=
    I.lstUpd hp ho (nj its n j u) (r.set rv j) (by rw [List.length_set]; exact hz) s.toks
  by_cases h0 : 0 ≤ k
  · have hk:k.toNat = j:=by
      rw [seqIndex_of h0 h4] at h1
      exact Option.some.inj h1
    exact PySem.W.ki_setAt ho h0 (by omega) (by rw [List.size_toArray,← hl]; exact h4) (by rw [hk]; exact ⟨_,I',q⟩)
  · have hk:(k + (its.toArray.size:Int)).toNat = j:=by
      rw [seqIndex_neg (by omega) h3] at h1
      rw [List.size_toArray,← hl]
      exact Option.some.inj h1
    exact PySem.W.ki_setBack ho (by omega) (by rw [List.size_toArray,← hl]; exact h3) (by omega) (by rw [hk]; exact ⟨_,I',q⟩)
theorem kj (lo hi:Option Int) (n:Nat):(sliceBounds lo hi none n).1 = ((HT.sIx n 0 lo:Nat):Int) ∧ (sliceBounds lo hi none n).2.1 = ((HT.sIx n n hi:Nat):Int) ∧ (sliceBounds lo hi none n).2.2 = 1:=by
  refine ⟨?_,?_,rfl⟩
  · cases lo with
    | none => simp [sliceBounds,HT.sIx]
    | some i =>
      simp only [sliceBounds,HT.sIx,Option.getD_none,show (1:Int) > 0 by decide,if_true]
      by_cases h:i < 0
      · simp only [h,if_true] <;> omega
      · simp only [h,if_false] <;> omega
  · cases hi with
    | none => simp [sliceBounds,HT.sIx]
    | some i =>
      simp only [sliceBounds,HT.sIx,Option.getD_none,show (1:Int) > 0 by decide,if_true]
      by_cases h:i < 0
      · simp only [h,if_true] <;> omega
      · simp only [h,if_false] <;> omega
theorem iE (its:List Value) (lo hi:Option Int):slicePick its.toArray lo hi none = ((its.drop (HT.sIx its.length 0 lo)).take (HT.sIx its.length its.length hi - HT.sIx its.length 0 lo)).toArray:=by
  obtain ⟨h1,h2,h3⟩:=kj lo hi its.toArray.size
  unfold slicePick
  rw [h1,h2,h3]
  simp only [sliceRange_one,pick_run,List.size_toArray] <;> rfl
def rSlL (K:PySem.W.Frag):V → Option Int → Option Int → Hp → VK → Prop:=fun x lo hi H Q => ∃ a xs,x = .ref a ∧ SqL K H a xs ∧ ∀ p,H p = none → Q (.ref p) (upd H p (.lst (nq xs lo hi)))
theorem tz:SlR X (rSlL X.K):=by
  (try refine ⟨?_⟩); intro pins s σ H x v vl vu lo hi sl Q I rx hs pl pu h
  obtain ⟨a,xs,rfl,hx,q⟩:=h
  cases rx
  obtain ⟨its,r,ht,hz⟩:=I.list hx
  have hlen:=r.length
  refine ⟨"list",_,slot_list_getitem.lookup,ht.isList.typeIs,?_⟩
  refine wpAny_getItem_list_slice ht.isList hs pl pu .none (by simp) ?_ (by rw [List.size_toArray] <;> omega)
  rw [iE,← hlen]
  refine ⟨.ref s.heap.objs.size,_,I.laid (t':=s.toks) (o:=.lst (nq xs lo hi)) (fun b ob q => Heap.get?_push_of_some _ q) (Nat.le_refl _) ?_,rfl,q _ (I.hok.fresh (Nat.le_refl _))⟩
  exact ⟨Nat.le_trans (lq xs lo hi) hz,_,0,(r.drop (HT.sIx xs.length 0 lo)).take (HT.sIx xs.length xs.length hi - HT.sIx xs.length 0 lo),Heap.get?_push_size _ rfl⟩
def fi:V → Bool
  | .non => true
  | .bl _ => true
  | .int _ => true
  | .str _ => true
  | _ => false
def eqV:V → V → Bool
  | .non,.non => true
  | .bl a,.bl b => a == b
  | .bl a,.int b => (if a then 1 else 0) == b
  | .int a,.bl b => a == (if b then 1 else 0)
  | .int a,.int b => a == b
  | .str a,.str b => a == b
  | _,_ => false
theorem xn {A:Around} {s:Shared} {y x:V} {u v:Value} (ry:bf y u) (rx:bf x v) (fy:fi y = true) (fx:fi x = true):SeqAt.EqAt A s u v (eqV y x):=by
  cases y with
  | non =>
    cases ry
    cases x with
    | non => cases rx; exact SeqAt.EqAt.same _
    | bl b => cases rx; exact SeqAt.EqAt.none_bool b
    | int b => obtain ⟨t,rfl⟩:=rx; exact SeqAt.EqAt.none_int b t
    | str b => obtain ⟨t,rfl⟩:=rx; exact SeqAt.EqAt.none_str b t
    | _ => exact absurd (show false = true from fx) Bool.false_ne_true
  | bl a =>
    cases ry
    cases x with
    | non => cases rx; exact SeqAt.EqAt.bool_none a
    | bl b => cases rx; exact SeqAt.EqAt.bool_bool a b
    | int b => obtain ⟨t,rfl⟩:=rx; exact SeqAt.EqAt.bool_int a b t
    | str b => obtain ⟨t,rfl⟩:=rx; exact SeqAt.EqAt.bool_str a b t
    | _ => exact absurd (show false = true from fx) Bool.false_ne_true
  | int a =>
    obtain ⟨t',rfl⟩:=ry
    cases x with
    | non => cases rx; exact SeqAt.EqAt.int_none a t'
    | bl b => cases rx; exact SeqAt.EqAt.int_bool a t' b
    | int b => obtain ⟨t,rfl⟩:=rx; exact SeqAt.EqAt.int_int a t' b t
    | str b => obtain ⟨t,rfl⟩:=rx; exact SeqAt.EqAt.int_str a t' b t
    | _ => exact absurd (show false = true from fx) Bool.false_ne_true
  | str a =>
    obtain ⟨t',rfl⟩:=ry
    cases x with
    | non => cases rx; exact SeqAt.EqAt.str_none a t'
    | bl b => cases rx; exact SeqAt.EqAt.str_bool a t' b
    | int b => obtain ⟨t,rfl⟩:=rx; exact SeqAt.EqAt.str_int a t' b t
    | str b => obtain ⟨t,rfl⟩:=rx; exact SeqAt.EqAt.str_str a t' b t
    | _ => exact absurd (show false = true from fx) Bool.false_ne_true
  | _ => exact absurd (show false = true from fy) Bool.false_ne_true
def eqU (x:V) (u:Value):Bool:=match u with
  | .none => eqV .non x
  | .bool b => eqV (.bl b) x
  | .int i _ => eqV (.int i) x
  | .str z _ => eqV (.str z) x
  | _ => false
theorem rT {x y:V} {u:Value} (r:bf y u) (f:fi y = true):eqU x u = eqV y x:=by
  cases y with
  | non => cases r; rfl
  | bl b => cases r; rfl
  | int i => obtain ⟨t,rfl⟩:=r; rfl
  | str z => obtain ⟨t,rfl⟩:=r; rfl
  | _ => exact absurd (show false = true from f) Bool.false_ne_true
theorem f9 {x:V}:∀ {xs:List V} {us:List Value},aY xs us → xs.all fi = true → us.any (eqU x) = xs.any fun y => eqV y x
  | _,_,.nil,_ => rfl
  | y :: xs,u :: us,.cons r t,f => by
    rw [List.all_cons,Bool.and_eq_true] at f
    rw [List.any_cons,List.any_cons,rT r f.1,f9 t f.2]
theorem eK {A:Around} {s:Shared} {x:V} {v:Value} (rx:bf x v) (fx:fi x = true):∀ {xs:List V} {us:List Value},aY xs us → xs.all fi = true → ∀ u ∈ us,SeqAt.EqAt A s u v (eqU x u)
  | _,_,.nil,_ => fun u hu => by cases hu
  | y :: xs,u :: us,.cons r t,f => fun u' hu => by
    rw [List.all_cons,Bool.and_eq_true] at f
    rcases List.mem_cons.mp hu with rfl | hu
    · rw [rT r f.1]; exact xn r rx f.1 fx
    · exact eK rx fx t f.2 u' hu
def inV (x:V) (xs:List V):Bool:=xs.any fun y => eqV y x
def rIn (K:PySem.W.Frag) (neg:Bool):R2:=fun x y H Q => ∃ p xs,y = .ref p ∧ (SqL K H p xs ∨ SqT K H p xs) ∧ fi x = true ∧ xs.all fi = true ∧ Q (.bl (if neg then !inV x xs else inV x xs)) H
theorem oT:OpR X (compareOp .In) (rIn X.K false):=by
  (try refine ⟨?_⟩); intro pins s σ H x y v u Q I rx ry h
  obtain ⟨p,xs,rfl,hq,fx,fs,q⟩:=h
  cases ry
  rcases hq with hq | hq
  · obtain ⟨its,r,pl,hz⟩:=I.list hq
    refine SeqAt.in_listAt (eqU x) pl.isList (fun w hw => eK rx fx r fs w (by simpa using hw)) ⟨.bl _,H,I,rfl,?_⟩
    rw [show its.toArray.any (eqU x) = its.any (eqU x) by simp,f9 r fs]
    exact q
  · obtain ⟨its,r,pl,hz⟩:=I.tuple hq
    refine SeqAt.in_tupleAt (eqU x) pl (fun w hw => eK rx fx r fs w (by simpa using hw)) ⟨.bl _,H,I,rfl,?_⟩
    rw [show its.toArray.any (eqU x) = its.any (eqU x) by simp,f9 r fs]
    exact q
theorem da:OpR X (compareOp .NotIn) (rIn X.K true):=by
  (try refine ⟨?_⟩); intro pins s σ H x y v u Q I rx ry h
  obtain ⟨p,xs,rfl,hq,fx,fs,q⟩:=h
  cases ry
  rcases hq with hq | hq
  · obtain ⟨its,r,pl,hz⟩:=I.list hq
    refine SeqAt.notIn_listAt (eqU x) pl.isList (fun w hw => eK rx fx r fs w (by simpa using hw)) ⟨.bl _,H,I,rfl,?_⟩
    rw [show its.toArray.any (eqU x) = its.any (eqU x) by simp,f9 r fs]
    exact q
  · obtain ⟨its,r,pl,hz⟩:=I.tuple hq
    refine SeqAt.notIn_tupleAt (eqU x) pl (fun w hw => eK rx fx r fs w (by simpa using hw)) ⟨.bl _,H,I,rfl,?_⟩
    rw [show its.toArray.any (eqU x) = its.any (eqU x) by simp,f9 r fs]
    exact q
theorem aD:cC X (.builtin "len") (fun xs H Q => ∃ p ys,xs = [.ref p] ∧ (SqL X.K H p ys ∨ SqT X.K H p ys) ∧ Q (.int ys.length) H):=by
  (try refine ⟨?_⟩); intro pins s σ H xs us Q I r h
  obtain ⟨p,ys,rfl,hq,q⟩:=h
  obtain ⟨u,rfl,rx⟩:=eW r
  cases rx
  have hn:=ft
  rcases hq with hq | hq
  · obtain ⟨its,r',pl,hz⟩:=I.list hq
    have hlen:=r'.length
    exact Calls.call_len_list pl.isList (by simp only [List.size_toArray] <;> omega) ⟨.int ys.length,H,I.tok _,⟨s.toks + 1,by rw [List.size_toArray,hlen]⟩,q⟩
  · obtain ⟨its,r',pl,hz⟩:=I.tuple hq
    have hlen:=r'.length
    exact len_tuple pl (by simp only [List.size_toArray] <;> omega) ⟨.int ys.length,H,I.tok _,⟨s.toks + 1,by rw [List.size_toArray,hlen]⟩,q⟩
theorem fF:cC X (.type "list") (fun xs H Q => ∃ p ys,xs = [.ref p] ∧ (SqL X.K H p ys ∨ SqT X.K H p ys) ∧ ∀ l,H l = none → Q (.ref l) (upd H l (.lst ys))):=by
  (try refine ⟨?_⟩); intro pins s σ H xs us Q I r h
  obtain ⟨p,ys,rfl,hq,q⟩:=h
  obtain ⟨u,rfl,rx⟩:=eW r
  cases rx
  have fin:∀ (its:List Value),aY ys its → ys.length ≤ sizeLine → ∀ (h':Heap) (c':Nat),(∀ b o',s.heap.get? b = some o' → h'.get? b = some o') →
      h'.get? s.heap.objs.size = some { cls:=.type "list",dict:=none,data:=.seq its.toArray c',slots:=#[] } → EP X pins σ Q (.ref s.heap.objs.size) { s with heap:=h' }:=fun its r' hz h' c' kp e =>
    ⟨.ref s.heap.objs.size,_,I.laid (t':=s.toks) kp (Nat.le_refl _) (show b7 X.prog X.w _ h' _ (.lst ys) from ⟨hz,its,c',r',e⟩),rfl,q _ (I.hok.fresh (Nat.le_refl _))⟩
  rcases hq with hq | hq
  · obtain ⟨its,r',pl,hz⟩:=I.list hq
    have hlen:=r'.length
    obtain ⟨o,ho,hc,n,hd⟩:=pl.isList
    exact call_list_seq p (.inl rfl) ho hc hd (fun h' c' kp e => fin its r' hz h' c' kp e) (by simp only [List.size_toArray] <;> omega)
  · obtain ⟨its,r',pl,hz⟩:=I.tuple hq
    have hlen:=r'.length
    obtain ⟨o,ho,hc,n,hd⟩:=pl
    exact call_list_seq p (.inr rfl) ho hc hd (fun h' c' kp e => fin its r' hz h' c' kp e) (by simp only [List.size_toArray] <;> omega)
def tyV (K:PySem.W.Frag) (T:String) (x:V) (H:Hp):Prop:=match x with
  | .str _ => T = "str"
  | .int _ => T = "int"
  | .ref p => (T = "list" ∧ ∃ xs,SqL K H p xs) ∨ (T = "tuple" ∧ ∃ o,K.lookup p = some o ∧ o.cls = .type "tuple" ∧ o.dict = none) ∨
      (T = "dict" ∧ ((∃ kvs,H p = some (.dK kvs)) ∨ ∃ kvs,H p = some (.dT kvs))) ∨ (T = "set" ∧ ∃ S n,H p = some (.set S n))
  | _ => False
theorem uS {pins:List (Addr × Obj)} {σ:St} {H:Hp} {s:Shared} {T:String} {x:V} {v:Value} (I:Inv X pins σ H s) (r:bf x v) (ty:tyV X.K T x H) :
    s.TypeIs v T ∧ ∀ a,v = .ref a → ∃ ob,s.heap.get? a = some ob ∧ ob.dict = none:=by
  cases x with
  | str z =>
    obtain ⟨t,rfl⟩:=r
    cases (show T = "str" from ty)
    exact ⟨typeIs_str s z t,fun _ e => nomatch e⟩
  | int i =>
    obtain ⟨t,rfl⟩:=r
    cases (show T = "int" from ty)
    exact ⟨typeIs_int s i t,fun _ e => nomatch e⟩
  | ref p =>
    cases r
    rcases ty with ⟨rfl,xs,hq⟩ | ⟨rfl,o,hk,hc,hd⟩ | ⟨rfl,hk⟩ | ⟨rfl,S,n,hk⟩
    · obtain ⟨its,_,pl,_⟩:=I.list hq
      refine ⟨pl.isList.typeIs,fun a e => ?_⟩
      cases e
      obtain ⟨o,n,e,c,hd,_⟩:=pl
      exact ⟨o,e,hd⟩
    · refine ⟨⟨o,I.kIn p o hk,hc⟩,fun a e => ?_⟩
      cases e
      exact ⟨o,I.kIn _ o hk,hd⟩
    · have z:∃ o,s.heap.get? p = some o ∧ o.ExactDict:=by
        rcases hk with ⟨kvs,hk⟩ | ⟨kvs,hk⟩
        · obtain ⟨_,_,_,_,o,_,_,e,ex,_⟩:=I.hok p _ hk
          exact ⟨o,e,ex⟩
        · obtain ⟨_,_,_,_,o,_,_,e,ex,_⟩:=I.hok p _ hk
          exact ⟨o,e,ex⟩
      obtain ⟨o,e,ex⟩:=z
      refine ⟨⟨o,e,ex.1⟩,fun a e2 => ?_⟩
      cases e2
      exact ⟨o,e,ex.2.1⟩
    · obtain ⟨o,_,_,_,e,ex,_⟩:=I.hok p _ hk
      refine ⟨⟨o,e,ex.1⟩,fun a e2 => ?_⟩
      cases e2
      exact ⟨o,e,ex.2.1⟩
  | _ => exact False.elim ty
def tBM (K:PySem.W.Frag) (T:String) (r:V → List V → Hp → VK → Prop) (to:TE) (t:TA):TE:=fun σ H Q => to σ H fun x H1 => tyV K T x H1 ∧ t σ H1 fun xs H2 => r x xs H2 Q
variable {o e:Expr} {es:List Expr} {to:TE} {t:TA} {name:Str} {apos cpos:Pos} {T id:String} {r:V → List V → Hp → VK → Prop}
theorem rD (pa:PlainAttrs T) (slot:Slot T name id) (hty:typeOf (.builtin id) = pure (.type "method_descriptor")) (hm:MtR X id r) (ho:PE X o to) (ha:PA X (e :: es) t)
    (hbase:attributeBase o name X.env (eval o X.env) = eval o X.env:=by rfl)
    (hfew:((backTo cpos (starEach (e :: es) X.env)).all (fun x => !x.1) && (backToKw cpos (keywordEach [] X.env)).all (fun x => x.1.isSome)
      && decide ((e :: es).length + ([]:List Keyword).length + (if ([]:List Keyword).isEmpty then 0 else 1) < 30)) = true:=by rfl)
    (hline:(apos.endLine == cpos.line) = true:=by rfl) (hs:starEach (e :: es) X.env = (false,eval e X.env) :: starEach es X.env:=by rfl) (hplain:(backTo cpos (starEach es X.env)).any (·.1) = false:=by rfl) :
    PE X (.Call (.Attribute o name apos) (e :: es) [] cpos) (tBM X.K T r to t):=by
  (try refine ⟨?_⟩); intro pins s σ H Q I h
  refine wpAny_Call_method_late hbase hfew hline rfl (thn (ho pins s σ H _ I h) fun v s1 ⟨x,H1,I1,r1,ty,q1⟩ => ?_)
  obtain ⟨h1,h2⟩:=uS I1 r1 ty
  refine ⟨T,id,pa,slot,hty,h1,h2,?_⟩
  have hA:=ha cpos pins s1 σ H1 _ I1 q1
  rw [hs] at hA ⊢
  refine Calls.callWith_builtin (by show (false || (backTo cpos (starEach es X.env)).any (·.1)) = false; rw [hplain] <;> rfl) (Calls.evalArgs_plain ?_)
  exact thn hA fun us s2 ⟨vs,H2,I2,r2,q2⟩ => hm pins s2 σ H2 x vs v us Q I2 r1 r2 q2
/- xs.append(e),list.index on a module's tuple .. are MtR facts of 06m -/
end
def MtM (X:Cx) (id:String) (r:V → List V → Hp → VK → Prop):Prop :=
  ∀ (pins:List (Addr × Obj)) (s:Shared) (σ:St) (H:Hp) (x:V) (xs:List V) (v:Value) (us:List Value) (Q:VK),Inv X pins σ H s → bf x v → aY xs us → r x xs H Q →
    wpAny (model X.prog X.w) X.A (call (.builtin id) (v :: us)) (EP X pins σ Q) X.xe s
theorem aY.one:∀ {x:V} {us:List Value},aY [x] us → ∃ u,us = [u] ∧ bf x u:=fun h => by
  cases h with
  | cons r q => cases q; exact ⟨_,rfl,r⟩
theorem aY.two:∀ {x y:V} {us:List Value},aY [x,y] us → ∃ u v,us = [u,v] ∧ bf x u ∧ bf y v:=fun h => by
  cases h with
  | cons r q => obtain ⟨v,rfl,q2⟩:=aY.one q; exact ⟨_,_,rfl,r,q2⟩
theorem aY.rep {xs:List V} {us:List Value} (h:aY xs us):∀ k:Nat,aY (List.replicate k xs).flatten (List.replicate k us).flatten
  | 0 => .nil
  | k + 1 => by
    rw [List.replicate_succ,List.replicate_succ,List.flatten_cons,List.flatten_cons]
    exact aY.append h (aY.rep h k)
theorem jP (its:List Value):∀ (k:Nat) (acc:List Value),
    List.foldl (fun x1 x2 => x1 ++ x2) acc.toArray (List.replicate k its.toArray) = (acc ++ (List.replicate k its).flatten).toArray
  | 0,acc => by simp
  | k + 1,acc => by
    have e:acc.toArray ++ its.toArray = (acc ++ its).toArray:=by simp
    have e2:(acc ++ its) ++ (List.replicate k its).flatten = acc ++ (List.replicate (k + 1) its).flatten:=by
      rw [List.replicate_succ,List.flatten_cons,List.append_assoc]
    rw [← e2,← jP its k (acc ++ its),← e,List.replicate_succ,List.foldl_cons]
section
variable {X:Cx} {pins:List (Addr × Obj)} {σ:St} {H:Hp} {s:Shared} {l b:Addr} {xs ys zs:List V}
theorem Inv.lset {its its':List Value} {n:Nat} {f:Array Value → Array Value} {t':Nat} (I:Inv X pins σ H s) (hH:H l = some (.lst xs))
    (e:s.heap.get? l = some { cls:=.type "list",data:=.seq its.toArray n }) (hf:f its.toArray = its'.toArray) (hv:aY ys its') (hz:ys.length ≤ sizeLine) :
    Inv X pins σ (upd H l (.lst ys)) { s with heap:=s.heap.update l (Obj.mapSeq f),toks:=t' }:=by
  have q:=PySem.IsL.update e f
  rw [hf] at q
  refine I.write (x:=l) (e:=l) (by rw [hH]; exact trivial) (.inl rfl) (fun b' u hb hu => (Heap.get?_update_other s.heap (Obj.mapSeq f) (Ne.symm hb)).trans hu) ⟨_,q⟩ ?_
  exact ⟨hz,its',_,hv,q⟩
theorem Inv.lnew {its:List Value} {t':Nat} (I:Inv X pins σ H s) (hv:aY ys its) (hz:ys.length ≤ sizeLine) :
    Inv X pins σ (upd H s.heap.objs.size (.lst ys)) { s with heap:=s.heap.push { cls:=.type "list",data:=.seq its.toArray },toks:=t' } :=
  I.laid (fun _ _ q => Heap.get?_push_of_some _ q) (Nat.le_refl _) ⟨hz,its,0,hv,Heap.get?_push_size _ rfl⟩
theorem Inv.fresh (I:Inv X pins σ H s):H s.heap.objs.size = none:=I.hok.fresh (Nat.le_refl _)
theorem Inv.lstM (I:Inv X pins σ H s) (hH:H l = some (.lst xs)):xs.length ≤ sizeLine ∧ ∃ (its:List Value) (n:Nat),aY xs its ∧ xs.length = its.length ∧ s.heap.get? l = some { cls:=.type "list",data:=.seq its.toArray n }:=by
  obtain ⟨z,its,n,r,e⟩:=I.hok l _ hH
  exact ⟨z,its,n,r,r.length,e⟩
theorem lC {n:Nat} (h:n ≤ sizeLine):Builtin.List.listTooLong n = false:=by
  unfold Builtin.List.listTooLong
  exact decide_eq_false (by omega)
end
section
variable {X:Cx}
def tL:V → List V → Hp → VK → Prop:=fun x vs H Q => ∃ l xs y,x = .ref l ∧ vs = [y] ∧ H l = some (.lst xs) ∧ xs.length < sizeLine ∧ Q .non (upd H l (.lst (xs ++ [y])))
theorem jb:MtM X "list.append" tL:=by
  (try refine ⟨?_⟩); intro pins s σ H x vs v us Q I rx rv h
  obtain ⟨l,xs,y,rfl,rfl,hH,hz,q⟩:=h
  cases rx
  obtain ⟨u,rfl,ru⟩:=rv.one
  obtain ⟨z,its,n,r,hl,e⟩:=I.lstM hH
  refine call_meets F.slot_list_append ⟨_,e,rfl⟩ F.entry_list_append (F.args_list_append_2 _ _) (PySem.list_append l its.toArray n u (by rw [List.size_toArray]; omega)) ⟨e,?_⟩
  refine ⟨.non,_,I.lset (its':=its ++ [u]) hH e (by simp) (r.append (.cons ru .nil)) ?_,rfl,q⟩
  rw [List.length_append,List.length_singleton]
  omega
def sw:V → List V → Hp → VK → Prop:=fun x vs H Q => ∃ l b xs zs,x = .ref l ∧ vs = [.ref b] ∧ H l = some (.lst xs) ∧ H b = some (.lst zs) ∧ xs.length + zs.length ≤ sizeLine ∧ Q .non (upd H l (.lst (xs ++ zs)))
theorem xu:MtM X "list.extend" sw:=by
  (try refine ⟨?_⟩); intro pins s σ H x vs v us Q I rx rv h
  obtain ⟨l,b,xs,zs,rfl,rfl,hH,hB,hz,q⟩:=h
  cases rx
  obtain ⟨u,rfl,ru⟩:=rv.one
  cases ru
  obtain ⟨z,its,n,r,hl,e⟩:=I.lstM hH
  obtain ⟨z2,its2,n2,r2,hl2,e2⟩:=I.lstM hB
  have hsz:its.toArray.size + its2.toArray.size ≤ sizeLine:=by rw [List.size_toArray,List.size_toArray]; omega
  have hlong : ¬ (!its.toArray.isEmpty && Builtin.List.listTooLong (its.toArray.size + its2.toArray.size)) = true:=by
    rw [lC hsz,Bool.and_false]
    exact Bool.false_ne_true
  refine call_meets F.slot_list_extend ⟨_,e,rfl⟩ F.entry_list_extend (F.args_list_extend_2 _ _)
    (AutoSeq1.list_extend_list_list_0 l its.toArray n b its2.toArray n2 hlong (by rw [List.size_toArray]; omega) (by omega)) ⟨e,e2,?_⟩
  refine ⟨.non,_,I.lset (its':=its ++ its2) hH e (by simp) (r.append r2) ?_,rfl,q⟩
  rw [List.length_append]
  omega
def rCat:R2:=fun x y H Q => ∃ l b xs zs,x = .ref l ∧ y = .ref b ∧ H l = some (.lst xs) ∧ H b = some (.lst zs) ∧ xs.length + zs.length ≤ sizeLine ∧ ∀ p,H p = none → Q (.ref p) (upd H p (.lst (xs ++ zs)))
theorem mR:OpR X (binaryOp .Add) rCat:=by
  (try refine ⟨?_⟩); intro pins s σ H x y v u Q I rx ry h
  obtain ⟨l,b,xs,zs,rfl,rfl,hH,hB,hz,q⟩:=h
  cases rx
  cases ry
  obtain ⟨z,its,n,r,hl,e⟩:=I.lstM hH
  obtain ⟨z2,its2,n2,r2,hl2,e2⟩:=I.lstM hB
  refine PySem.P.add_list e e2 ?_ (by rw [List.size_toArray,List.size_toArray]; omega)
  have ea:its.toArray ++ its2.toArray = (its ++ its2).toArray:=by simp
  rw [ea]
  exact ⟨.ref _,_,I.lnew (t':=s.toks) (r.append r2) (by rw [List.length_append]; omega),rfl,q _ I.fresh⟩
def rRep:R2:=fun x y H Q => ∃ l k xs,x = .ref l ∧ y = .int k ∧ H l = some (.lst xs) ∧ -(2 ^ 63) ≤ k ∧ k < 2 ^ 63 ∧ xs.length * k.toNat ≤ sizeLine ∧
  ∀ p,H p = none → Q (.ref p) (upd H p (.lst (List.replicate k.toNat xs).flatten))
theorem tT {α:Type} (xs:List α) (k:Nat):(List.replicate k xs).flatten.length = k * xs.length:=by
  induction k with
  | zero => simp
  | succ k ih => rw [List.replicate_succ,List.flatten_cons,List.length_append,ih,Nat.succ_mul,Nat.add_comm]
theorem lU:OpR X (binaryOp .Mult) rRep:=by
  (try refine ⟨?_⟩); intro pins s σ H x y v u Q I rx ry h
  obtain ⟨l,k,xs,rfl,rfl,hH,h1,h2,hz,q⟩:=h
  cases rx
  obtain ⟨t,rfl⟩:=ry
  obtain ⟨z,its,n,r,hl,e⟩:=I.lstM hH
  have hlen:its.toArray.size * k.toNat ≤ sizeLine:=by rw [List.size_toArray,← hl]; exact hz
  have hcap : ¬ its.toArray.size * k.toNat > (2 ^ 63 - 1) / 8:=by
    have:(sizeLine:Nat) ≤ (2 ^ 63 - 1) / 8:=by decide
    omega
  have hfit : ¬ (!Builtin.List.listFitsIndex k) = true:=by
    rw [fitsIndex_both h1 h2]
    exact Bool.false_ne_true
  have hlong : ¬ Builtin.List.listTooLong (its.toArray.size * k.toNat) = true:=by
    rw [lC hlen]
    exact Bool.false_ne_true
  have hnew:List.foldl (fun x1 x2 => x1 ++ x2) #[] (List.replicate (if its.toArray.isEmpty = true then 0 else k.toNat) its.toArray) = (List.replicate k.toNat its).flatten.toArray:=by
    have f0:∀ m:Nat,List.foldl (fun x1 x2 => x1 ++ x2) #[] (List.replicate m its.toArray) = (List.replicate m its).flatten.toArray:=fun m => by
      have:=jP its m []
      rw [List.nil_append] at this
      exact this
    rw [f0]
    cases its with
    | nil => simp
    | cons a r' => rw [if_neg (by simp)]
  refine wpAny_binaryOp_repeat_ref (T:="list") (U:="int") (by decide) ⟨_,e,rfl⟩ (fun s' => typeIs_int s' k t) noFill_list_mul F.fills_int_mul F.slot_int_rmul repeat_list F.slot_int_index.lookup
    (call_meets F.slot_int_rmul (typeIs_int s k t) F.entry_int_rmul (F.args_int_rmul_2 _ _) (int___rmul___int_list k t l its.toArray n)
      ⟨e,rfl,⟨_,e,rfl⟩,call_meets F.slot_list_mul ⟨_,e,rfl⟩ F.entry_list_mul (F.args_list_mul_2 _ _) (AutoListH.list___mul___list_int_3 l its.toArray n k t hfit hcap hlong) ⟨e,?_⟩⟩)
  rw [hnew]
  exact ⟨.ref _,_,I.lnew (t':=s.toks) (r.rep k.toNat) (by rw [tT,Nat.mul_comm]; exact hz),rfl,q _ I.fresh⟩
end
section
variable {prog:Program} {w:World} {A:Around} {E:Value → Shared → Prop} {s:Shared}
end
section
variable {X:Cx}
end
end L2
namespace Att
open PySem PySem.W PySem.Calls PyProof.Rows
theorem gE {P:Params} {h:Heap}:∀ (ns:List Int) (vs:List Value),WellAll P h vs (ns.map WData.int) → IntsAre vs ns:=by
  intro ns
  induction ns with
  | nil =>
    intro vs w
    rw [List.map_nil] at w
    cases w
    exact .nil
  | cons n ns ih =>
    intro vs w
    rw [List.map_cons] at w
    cases w with
    | cons a b =>
      cases a
      exact .cons _ _ (ih _ b)
theorem oG {l:OpenLaw} {n:Nat} (hn:l.most = some n) {P:Params} {h:Heap} {args:List WData} {vals:List Value}
    (hpre:l.row.toRowW.claim.pre args = true) (hwl:WellAll P h vals args) :
    ∃ a vs ns,vals = [Value.ref a] ∧ args = [WData.list (ns.map WData.int)] ∧ h.get? a = some { cls:=.type "list",data:=.seq vs.toArray } ∧ IntsAre vs ns ∧ ns.length ≤ n:=by
  have hsh:WShape.hasAll [] args [.list .int] = true:=(pre_splitW hpre).1
  have hc:l.pre.holds [] { args:=args } = true:=(pre_splitW hpre).2
  obtain ⟨d,r,rfl,h1,h2⟩:=hasAllW_cons hsh
  obtain rfl:=hasAllW_nil h2
  obtain ⟨xs,rfl,h3⟩:=hasW_list h1
  obtain ⟨ns,rfl⟩:=items_int h3
  have hlen:ns.length ≤ n:=by
    unfold OpenLaw.pre at hc
    have h4:(WTm.not (.lt (.lit (.int (n:Int))) (.len (.arg 0)))).holds [] { args:=[.list (ns.map .int)] } = true:=by
      have h4:=(holds_andW hc).1
      rw [hn] at h4
      exact h4
    have h5:=condW_of h4 (w_not (w_lt w_lit (w_len_list (w_arg rfl))))
    rw [List.length_map] at h5
    refine Nat.le_of_not_lt fun q => ?_
    have q':(n:Int) < ((ns.length:Nat):Int):=by omega
    first
      | (rw [decide_eq_true q'] at h5; exact absurd h5 (by decide))
      | (simp at h5; omega)
  cases hwl with
  | cons w1 w2 =>
    cases w2
    cases w1 with
    | list ho hall => exact ⟨_,_,ns,rfl,rfl,ho,gE ns _ hall,hlen⟩
theorem pf (l:OpenLaw) (args:List WData):l.row.toRowW.claim.post args (.bool true) args = true :=
  postW_of (r:=l.row.toRowW) (X:=(true == true))
    (show WShape.has [] (.bool true) .bool = true by first | rfl | decide | simp [WShape.has,WShape.arms,WShape.armsAll])
    (show (WTm.eq .res (.lit (.bool true))).value [] { args:=args,res:=some (.bool true),after:=args } = some (.bool (true == true)) from w_eq_bool (w_res rfl) w_lit) rfl
theorem attach_call {l:OpenLaw} {n:Nat} {q:Program} {loose:List Str} {XP:(Str → Option Value) → Heap → Prop} {YP:World → Heap → Prop} {d:DefRec}
    (hn:l.most = some n) (hdf:d.params.defaults = [])
    (call:∀ (w:World) (s₀ s₁:Shared) (mg mb:Str → Option Value) (fa:Addr) (o:Obj) (pm cd doc:Value) (a:Addr) (vs:List Value) (ns:List Int),
      Ground q loose [] XP w s₀ mg mb s₁.heap → YP w s₁.heap →
      s₁.heap.get? fa = some o → o.data = .func (docDef d.name d.params d.body d.scope pm cd doc) → s₁.heap.CodeRec cd d.name → mg d.name = some (.ref fa) →
      s₁.heap.get? a = some { cls:=.type "list",data:=.seq vs.toArray } → IntsAre vs ns → ns.length ≤ n → s₁.gens = #[] →
      codeAny (model l.prog w) callerA (.call (.ref fa) ⟨[.ref a],[]⟩) (fun r s' => r = .ok (.ret (.bool true)) ∧ OldK s₁.heap s'.heap ∧ s'.os = s₁.os ∧ AllBare s'.gens) s₁) :
    WalkO q loose XP YP l.row.toRowW d [] (fun f vs => PySem.call f vs):=by
  intro w s₀ s₁ mg mb G Y fa o pm cd doc dV kV ho hd hcd hD hmg hg args vals as hpre hlay hrd hwl hlo
  obtain rfl:dV = .none:=Dflts.none hD hdf
  obtain rfl:kV = .none:=Dflts.noKw hD
  obtain ⟨a,vs,ns,rfl,rfl,hobj,hints,hlen⟩:=oG hn hpre hwl
  refine enter_call (codeAny_mono (call w s₀ s₁ mg mb fa o pm cd doc a vs ns G Y ho (fd_plain hd) hcd hmg hobj hints hlen hg) fun r s' hq => ?_)
  obtain ⟨rfl,h2,h3,h4⟩:=hq
  exact ⟨.inl ⟨.bool true,.bool true,[],rfl,fun _ => rfl,.bool true,pf l _,fun _ => ⟨List.Pairwise.nil,fun _ hm => (nomatch hm)⟩⟩,h2,h3,h4⟩
section
variable {prog:Program} {w:World} {A:Around} {E:Value → Shared → Prop} {s:Shared} {K:Frag}
end
end Att
namespace L2
open PySem PySem.Spec PyProof.Rows
theorem gv:∀ {vs:List Value} {ns:List Int},IntsAre vs ns → aY (ns.map V.int) vs
  | _,_,.nil => .nil
  | _,_,.cons n t h => .cons ⟨t,rfl⟩ (gv h)
def Only (H:Hp):Prop:=∀ b,H b = none ∨ ∃ o xs,H b = some (.frz o (.lst xs))
theorem rP {P:Program} {w:World} {K:PySem.W.Frag} {mg mb:Str → Option Value} {CX:CXT} {k:Nat} {fa a:Addr} {fd:FuncData} {x:Str} {sp:Sp} {s₁:Shared} {vs:List Value} {ns:List Int}
    (KX:K.In s₁.heap) (hns:s₁.heap.Ns mainGlobals mg) (hb:s₁.heap.Ns builtinsNs mb) (hbb:∀ x:Str,x ≠ "__name__" → mb x = bootBuiltins x) (hlim:s₁.heap.NoLimit) (hg:s₁.gens = #[])
    (ha:s₁.heap.get? a = some { cls:=.type "list",data:=.seq vs.toArray }) (hi:IntsAre vs ns) (hl:ns.length ≤ sizeLine) (hr:Room k callerA)
    (F:∀ base:Heap,K.In base → base.Ns mainGlobals mg → FnOk P w K mg base CX k fa fd [x] sp) (hbind:∀ (s:Shared) (u:Value),BindsTo s fd ⟨[u],[]⟩ [(x,u)])
    (hsp:∀ H:Hp,Only H → SqL K H a (ns.map V.int) → sp [.ref a] H (fun v _ => v = .bl true) fun _ _ _ => False)
    (hCX:∀ H e s',CX [] H s₁ (fun _ _ _ => False) e s' → False) :
    codeAny (model P w) callerA (.call (.ref fa) ⟨[.ref a],[]⟩) (fun r s' => r = .ok (.ret (.bool true)) ∧ OldK s₁.heap s'.heap ∧ s'.os = s₁.os ∧ AllBare s'.gens) s₁:=by
  have rv:=gv hi
  have lenV:=hi.length
  -- from an abstract heap in which nothing but the script may be tracked
  have core:∀ H:Hp,Only H → SqL K H a (ns.map V.int) → HOk P w H s₁.heap → (∀ b,H b ≠ none → b = a) → (H a ≠ none → K.lookup a = none) →
      codeAny (model P w) callerA (.call (.ref fa) ⟨[.ref a],[]⟩) (fun r s' => r = .ok (.ret (.bool true)) ∧ OldK s₁.heap s'.heap ∧ s'.os = s₁.os ∧ AllBare s'.gens) s₁:=by
    intro H hO hS hok hA hK
    have base_of:∀ {b:Addr} {o:Obj},s₁.heap.get? b = some o → H b = none → (km s₁.heap H).get? b = some o:=fun e n => pZ e n
    have noA:∀ {b:Addr} {o:Obj} {es:Array DictEntry} {ep:Nat},s₁.heap.get? b = some o → o.data = .dict es ep → H b = none:=fun {b o es ep} e d => by
      cases q:H b with
      | none => rfl
      | some u =>
        have e':b = a:=hA b (by rw [q]; simp)
        subst e'
        rw [ha] at e; cases e
        have d':Data.seq vs.toArray _ = Data.dict es ep:=d
        cases d'
    have nsK:∀ {b:Addr} {m:Str → Option Value},s₁.heap.Ns b m → (km s₁.heap H).Ns b m:=fun {b m} ⟨o,es,ep,e,d,r⟩ => ⟨o,es,ep,base_of e (noA e d),d,r⟩
    have hKb:K.In (km s₁.heap H):=fun b o e => base_of (KX b o e) (by
      cases q:H b with
      | none => rfl
      | some u =>
        have e':b = a:=hA b (by rw [q]; simp)
        subst e'
        rw [hK (by rw [q]; simp)] at e; cases e)
    have hM:Mod K mg (km s₁.heap H):=⟨hKb,nsK hns,⟨mb,nsK hb,hbb⟩,let ⟨mc,h1,h2⟩:=hlim; ⟨mc,nsK h1,h2⟩⟩
    have e0:Env0 P w K mg (km s₁.heap H) callerA [] s₁ H:=⟨rfl,hM,fun b o e => tD e,Nat.le_of_eq (oS _ _),trivial,fun b hb => absurd (show b ∈ ([]:List Addr) from hb) (by simp),hok,.of_eq hg⟩
    refine codeAny_mono ((F _ hKb (nsK hns)).run callerA [] s₁ H ⟨[.ref a],[]⟩ [.ref a] [.ref a] _ _ hr e0 (hbind s₁ (.ref a)) (.cons rfl .nil) (hsp H hO hS)) fun r s' h => ?_
    cases r with
    | error e => exact (hCX H e s' h).elim
    | ok fl =>
      cases fl with
      | next => exact False.elim h
      | brk => exact False.elim h
      | cont => exact False.elim h
      | ret u =>
        obtain ⟨v,H',os,bare,un,hok',r',q⟩:=h
        have q':v = .bl true:=q
        subst q'
        obtain rfl:u = Value.bool true:=r'
        refine ⟨rfl,OldK.of_keep fun b o e => ?_,os,bare⟩
        cases q:H b with
        | none => exact un.keep b o e q (by intro z; exact absurd (show b ∈ ([]:List Addr) from z) (by simp)) (by simp)
        | some u =>
          rcases hO b with z | ⟨ob,xs,z⟩
          · rw [q] at z; cases z
          · have z2:=un.frzs b ob _ z
            obtain ⟨e1,_⟩:=hok b _ z
            obtain ⟨e2,_⟩:=hok' b _ z2
            rw [e] at e1; cases e1
            exact e2
  cases hk:K.lookup a with
  | some o =>
    -- the script is one of the module's own objects
    have e:=KX a o hk
    rw [ha] at e
    cases e
    refine core (fun _ => none) (fun _ => .inl rfl) (.inr ⟨_,vs.toArray,_,hk,rfl,rfl,rfl,by rw [List.size_toArray,lenV]; exact hl,by simpa using rv⟩) (fun b u z => by have z':(none:Option HO) = some u:=z; cases z') (fun b z => absurd rfl z) fun z => absurd rfl z
  | none =>
    refine core (fun b => if b = a then some (.frz { cls:=.type "list",data:=.seq vs.toArray } (.lst (ns.map V.int))) else none) (fun b => ?_) (.inl (.inr ⟨{ cls:=.type "list",data:=.seq vs.toArray },if_pos rfl⟩)) (fun b u z => ?_) (fun b z => ?_) fun _ => hk
    · by_cases hb:b = a
      · exact .inr ⟨_,_,if_pos hb⟩
      · exact .inl (if_neg hb)
    · by_cases hb:b = a
      · have z':=(if_pos hb).symm.trans z
        cases z'
        subst hb
        exact ⟨ha,by rw [List.length_map]; exact hl,vs,_,rv,ha⟩
      · have z':=(if_neg hb).symm.trans z
        cases z'
    · by_cases hb:b = a
      · exact hb
      · exact absurd (if_neg hb) z
theorem tp {l:PySem.W.OpenLaw} {n k:Nat} {q:Program} {loose:List Str} {XP:(Str → Option Value) → Heap → Prop} {YP:World → Heap → Prop} {d:DefRec} {K:Params → PySem.W.Frag} {CX:World → CXT} {sp:World → Sp} {x:Str}
    (hn:l.most = some n) (hn2:n ≤ sizeLine) (hdf:d.params.defaults = []) (hr:Room k callerA)
    (hY:∀ (w:World) (h:Heap),YP w h → (K w.params).In h)
    (F:∀ (w:World) (mg:Str → Option Value) (fa:Addr) (h:Heap),(K w.params).In h → h.Ns mainGlobals mg → mg d.name = some (.ref fa) →
      ∃ fd:FuncData,(∀ (s:Shared) (u:Value),BindsTo s fd ⟨[u],[]⟩ [(x,u)]) ∧
        ∀ base:Heap,(K w.params).In base → base.Ns mainGlobals mg → FnOk l.prog w (K w.params) mg base (CX w) k fa fd [x] (sp w))
    (hsp:∀ (w:World) (H:Hp) (a:Addr) (ns:List Int),ns.length ≤ n → Only H → SqL (K w.params) H a (ns.map V.int) → sp w [.ref a] H (fun v _ => v = .bl true) fun _ _ _ => False)
    (hCX:∀ (w:World) (H:Hp) (s:Shared) (e:Value) (s':Shared),CX w [] H s (fun _ _ _ => False) e s' → False) :
    PySem.W.WalkO q loose XP YP l.row.toRowW d [] (fun f vs => PySem.call f vs):=by
  refine Att.attach_call hn hdf fun w s₀ s₁ mg mb fa o pm cd doc a vs ns G Y ho hd hcd hmg hobj hints hlen hg => ?_
  have KX:=hY w _ Y
  obtain ⟨fd,hb,hF⟩:=F w mg fa _ KX G.T.g hmg
  exact rP KX G.T.g G.T.b G.T.builtins G.T.nolimit hg hobj hints (Nat.le_trans hlen hn2) hr hF hb (fun H hO hS => hsp w H a ns hlen hO hS) fun H e s' => hCX w H s₁ e s'
end L2
/- THE LAST THEOREM (shape; LID,My.* are yours):
   My.Adr: a structure of the addresses that your layer names (classes,functions); My.Txt K t: a structure (Prop) of the equations over K;
   My.txt_mk : {K} {implicit addresses ..} (e1:nsIn K mainGlobals "law" = some (some (.ref f))) (e2:K.lookup f = some ⟨oc,od,.func (fnOf "law" "law" params body scope dV kV doc pm an cdv ct),sl⟩) (e3:codeIn K cdv "law" = true) ..:∃ t,My.Txt K t
(the tactic k_is has no namespace: write k_is) -/
namespace L2
open PySem PySem.Spec PyProof.Rows
def au (s:Stmt):Arguments:=match s with
  | .FunctionDef _ a _ _ _ _ _ _ _ _ => a
  | _ => { posonlyargs:=[],args:=[],vararg:=none,kwonlyargs:=[],kw_defaults:=[],kwarg:=none,defaults:=[] }
def ar (s:Stmt):List Stmt:=match s with
  | .FunctionDef _ _ b _ _ _ _ _ _ _ => b
  | _ => []
def af (s:Stmt):Scope:=match s with
  | .FunctionDef _ _ _ _ _ _ sc _ _ _ => sc
  | _ => { kind:=.function,names:=[],isGenerator:=false,isCoroutine:=false }
abbrev CX0:CXT:=fun _ _ _ _ _ _ => False
abbrev E0:XK:=fun _ _ _ => False
theorem ur {X:Cx}:mD CX0 X E0:=fun _ _ _ _ _ _ _ h => h.elim
structure Fun (K:PySem.W.Frag) (x qual:Str) (st:Stmt) (f:Addr) (fd:FuncData):Prop where
  ex:∃ (oc:Value) (od:Option Addr) (kV doc pm:Value) (an:Option Addr) (cdv ct:Value) (osl:Array (Option Value)),
    fd = PySem.W.fnOf x qual (au st) (ar st) (af st) .none kV doc pm an cdv ct ∧ K.lookup f = some ⟨oc,od,.func fd,osl⟩ ∧ PySem.W.codeIn K cdv qual = true
  kp:PySem.W.keepIn K (.ref f) = true
section
variable {P:Program} {w:World} {K:PySem.W.Frag} {mg:Str → Option Value} {base:Heap}
theorem Fun.ok {x qual:Str} {st:Stmt} {f:Addr} {fd:FuncData} {N ps:List Str} {k:Nat} {sp:Sp} (F:Fun K x qual st f fd) (S:FnScope N ps (af st)) (len:∀ vs H Q E,sp vs H Q E → vs.length = ps.length)
    (hbody:∀ (cdv:Value) (A:Around) (outer:List Env) (s:Shared) (H:Hp) (vs:List V) (Q:VK) (E:XK),Room k (A.deeper (envOfC qual (af st) s.heap.objs.size f cdv)) → sp vs H Q E →
      ∃ t,PSs (mH CX0 P w K mg base N qual (af st) f cdv A outer s H E).nox (ar st) t ∧ t { nx:=fun _ H' => Q .non H',rt:=Q } (ev N vs) H):FnOk P w K mg base CX0 (k + 1) f fd ps sp:=by
  obtain ⟨oc,od,kV,doc,pm,an,cdv,ct,osl,rfl,lk,hcd⟩:=F.ex
  refine fn_of lk hcd S len fun A outer s H vs Q E hr hsp => ?_
  obtain ⟨t,h,q⟩:=hbody cdv A outer s H vs Q E hr hsp
  exact ⟨t,h.nox,q⟩
theorem Fun.binds {x qual:Str} {st:Stmt} {f:Addr} {fd:FuncData} {ps:List Str} (F:Fun K x qual st f fd)
    (h:∀ (kV doc pm:Value) (an:Option Addr) (cdv ct:Value) (us:List Value),us.length = ps.length → bindArgs (PySem.W.fnOf x qual (au st) (ar st) (af st) .none kV doc pm an cdv ct) ⟨us,[]⟩ = pure (ps.zip us)):aM K fd ps []:=by
  obtain ⟨oc,od,kV,doc,pm,an,cdv,ct,osl,rfl,lk,hcd⟩:=F.ex
  exact .all (h kV doc pm an cdv ct)
theorem aI {x qual:Str} {st:Stmt} {f:Addr} {oc:Value} {od an:Option Addr} {osl:Array (Option Value)} {kV doc pm cdv ct:Value} (l:K.lookup f = some ⟨oc,od,.func (PySem.W.fnOf x qual (au st) (ar st) (af st) .none kV doc pm an cdv ct),osl⟩)
    (c:PySem.W.codeIn K cdv qual = true) (k:PySem.W.keepIn K (.ref f) = true):Fun K x qual st f (PySem.W.fnOf x qual (au st) (ar st) (af st) .none kV doc pm an cdv ct):=⟨⟨oc,od,kV,doc,pm,an,cdv,ct,osl,rfl,l,c⟩,k⟩
end
theorem cL {n:Nat} (h:n ≤ 1000):n < sizeLine:=Nat.lt_of_le_of_lt h (by decide)
section
variable {X:Cx}
end
theorem bU {c A B:Prop} [Decidable c] (h1:c → A) (h2 : ¬ c → B):if c then A else B:=by
  by_cases h:c
  · rw [if_pos h]
    exact h1 h
  · rw [if_neg h]
    exact h2 h
def aR (H H':Hp):Prop:=∀ b o,H b = some o → H' b = some o
theorem aR.refl (H:Hp):aR H H:=fun _ _ h => h
theorem aR.trans {H H1 H2:Hp} (a:aR H H1) (b:aR H1 H2):aR H H2:=fun c o h => b c o (a c o h)
inductive D where
  | non | bl (b:Bool) | int (i:Int) | str (x:Str) | tup (ds:List D) | lst (ds:List D) | dct | dic (ks:List Key) (ds:List D) | scr (φ:Addr → Prop) (ns:List Int) | ext (φ:Hp → Addr → Prop)
mutual
def Rep (H:Hp):D → V → Prop
  | .non,v => v = .non
  | .bl b,v => v = .bl b
  | .int i,v => v = .int i
  | .str x,v => v = .str x
  | .tup ds,v => ∃ a xs,v = .ref a ∧ H a = some (.tup xs) ∧ Reps H ds xs
  | .lst ds,v => ∃ a xs,v = .ref a ∧ H a = some (.lst xs) ∧ Reps H ds xs
  | .dct,v => ∃ a kvs,v = .ref a ∧ H a = some (.dK kvs)
  | .dic ks ds,v => ∃ a xs,v = .ref a ∧ H a = some (.dK (ks.zip xs)) ∧ ks.length = ds.length ∧ Reps H ds xs
  | .scr φ ns,v => ∃ a,v = .ref a ∧ ((∃ o,H a = some (.frz o (.lst (ns.map V.int)))) ∨ φ a)
  | .ext φ,v => ∃ a H0,v = .ref a ∧ aR H0 H ∧ φ H0 a
def Reps (H:Hp):List D → List V → Prop
  | [],xs => xs = []
  | d :: ds,xs => ∃ v vs,xs = v :: vs ∧ Rep H d v ∧ Reps H ds vs
end
theorem Reps.length {H:Hp}:∀ {ds:List D} {xs:List V},Reps H ds xs → xs.length = ds.length
  | [],xs,h => by rw [Reps] at h; subst h; rfl
  | d :: ds,xs,h => by
    rw [Reps] at h
    obtain ⟨v,vs,rfl,_,h2⟩:=h
    have:=Reps.length h2
    simp [this]
mutual
theorem Rep.mono {H H':Hp} (e:aR H H'):∀ (d:D) (v:V),Rep H d v → Rep H' d v
  | .non,v,h => by rw [Rep] at *; exact h
  | .bl b,v,h => by rw [Rep] at *; exact h
  | .int i,v,h => by rw [Rep] at *; exact h
  | .str x,v,h => by rw [Rep] at *; exact h
  | .tup ds,v,h => by
    rw [Rep] at *
    obtain ⟨a,xs,h1,h2,h3⟩:=h
    exact ⟨a,xs,h1,e _ _ h2,Reps.mono e ds xs h3⟩
  | .lst ds,v,h => by
    rw [Rep] at *
    obtain ⟨a,xs,h1,h2,h3⟩:=h
    exact ⟨a,xs,h1,e _ _ h2,Reps.mono e ds xs h3⟩
  | .dct,v,h => by
    rw [Rep] at *
    obtain ⟨a,kvs,h1,h2⟩:=h
    exact ⟨a,kvs,h1,e _ _ h2⟩
  | .dic ks ds,v,h => by
    rw [Rep] at *
    obtain ⟨a,xs,h1,h2,h3,h4⟩:=h
    exact ⟨a,xs,h1,e _ _ h2,h3,Reps.mono e ds xs h4⟩
  | .scr φ ns,v,h => by
    rw [Rep] at *
    obtain ⟨a,h1,h2⟩:=h
    refine ⟨a,h1,?_⟩
    rcases h2 with ⟨o,h2⟩ | h2
    · exact .inl ⟨o,e _ _ h2⟩
    · exact .inr h2
  | .ext φ,v,h => by
    rw [Rep] at *
    obtain ⟨a,H0,h1,h2,h3⟩:=h
    exact ⟨a,H0,h1,fun b o q => e _ _ (h2 b o q),h3⟩
theorem Reps.mono {H H':Hp} (e:aR H H'):∀ (ds:List D) (xs:List V),Reps H ds xs → Reps H' ds xs
  | [],xs,h => by rw [Reps] at *; exact h
  | d :: ds,xs,h => by
    rw [Reps] at *
    obtain ⟨v,vs,h1,h2,h3⟩:=h
    exact ⟨v,vs,h1,Rep.mono e d v h2,Reps.mono e ds vs h3⟩
end
def D.ty:D → String
  | .non => "NoneType" | .bl _ => "bool" | .int _ => "int" | .str _ => "str" | .tup _ => "tuple" | .lst _ => "list" | .dct => "dict" | .dic _ _ => "dict" | .scr _ _ => "list" | .ext _ => "object"
def D.isS:D → Bool
  | .scr _ _ => true
  | .ext _ => true
  | _ => false
theorem Rep.ty {K:PySem.W.Frag} {H:Hp} {d:D} {v:V} (h:Rep H d v) (hs:d.isS = false):TyOf K H v (.type d.ty):=by
  cases d with
  | non => rw [Rep] at h; subst h; exact .non
  | bl b => rw [Rep] at h; subst h; exact .bl b
  | int i => rw [Rep] at h; subst h; exact .int i
  | str x => rw [Rep] at h; subst h; exact .str x
  | tup ds => rw [Rep] at h; obtain ⟨a,xs,rfl,h2,_⟩:=h; exact .tup h2
  | lst ds => rw [Rep] at h; obtain ⟨a,xs,rfl,h2,_⟩:=h; exact .lst h2
  | dct => rw [Rep] at h; obtain ⟨a,kvs,rfl,h2⟩:=h; exact .dK h2
  | dic ks ds => rw [Rep] at h; obtain ⟨a,xs,rfl,h2,_⟩:=h; exact .dK h2
  | scr φ ns => cases hs
  | ext φ => cases hs
theorem fZ {H:Hp}:∀ {ds:List D} {xs:List V} {r:Nat},Reps H ds xs → r < ds.length → ∃ v d,xs[r]? = some v ∧ ds[r]? = some d ∧ Rep H d v
  | [],_,_,_,h => absurd h (Nat.not_lt_zero _)
  | d :: ds,xs,0,h,_ => by obtain ⟨v,vs,rfl,h1,_⟩:=h; exact ⟨v,d,rfl,rfl,h1⟩
  | d :: ds,xs,r + 1,h,hl => by
    obtain ⟨v,vs,rfl,_,h2⟩:=h
    obtain ⟨v',d',e1,e2,e3⟩:=fZ (r:=r) h2 (by simpa using hl)
    exact ⟨v',d',by simpa using e1,by simpa using e2,e3⟩
theorem kN {H:Hp} {a:Addr} {xs:List V} {ds:List D} (h:H a = some (.tup xs)) (r:Reps H ds xs):Rep H (.tup ds) (.ref a):=by rw [Rep]; exact ⟨a,xs,rfl,h,r⟩
theorem gK {H:Hp} {a:Addr} {xs:List V} {ds:List D} (h:H a = some (.lst xs)) (r:Reps H ds xs):Rep H (.lst ds) (.ref a):=by rw [Rep]; exact ⟨a,xs,rfl,h,r⟩
theorem bS {H:Hp}:Reps H [] []:=by rw [Reps]
theorem bG {H:Hp} {d:D} {v:V} {ds:List D} {vs:List V} (h:Rep H d v) (r:Reps H ds vs):Reps H (d :: ds) (v :: vs):=by rw [Reps]; exact ⟨v,vs,rfl,h,r⟩
theorem bq {H:Hp} (i:Int):Rep H (.int i) (.int i):=by rw [Rep]
theorem cm {H:Hp} (i:Bool):Rep H (.bl i) (.bl i):=by rw [Rep]
theorem nF {H:Hp}:Rep H .non .non:=by rw [Rep]
theorem ql {H:Hp} {p:Addr} (h:H p = none) (o:HO):aR H (upd H p o):=fun b u q => by rw [ax (av q h)]; exact q
section
variable {X:Cx}
def o3 (d:D) (T:String):Option Bool:=if d.isS = true then none else if (Value.type d.ty == Value.type T) = true then some true else if PySem.W.kitMeta T = true then (fastBuiltinMro d.ty).map (·.contains (.type T)) else none
theorem rJ (K:PySem.W.Frag) (d:D) (T:String) (hs:d.isS = false):PySem.W.kitOne K (.type d.ty) (.type T) = o3 d T:=by
  unfold o3; rw [hs,if_neg (by decide)]; rfl
def rIsI:List V → Hp → VK → Prop:=fun xs H Q => ∃ x T d b,xs = [x,.ty T] ∧ Rep H d x ∧ o3 d T = some b ∧ Q (.bl b) H
theorem lO:cC X (.builtin "isinstance") rIsI:=by
  intro pins s σ H xs us Q I r h
  obtain ⟨x,T,d,b,rfl,hd,e,q⟩:=h
  obtain ⟨u,w',rfl,ru,rw'⟩:=lN r
  cases (show w' = Value.type T from rw')
  have hs:d.isS = false:=by
    cases z:d.isS with
    | false => rfl
    | true => unfold o3 at e; rw [z,if_pos rfl] at e; cases e
  rw [← rJ X.K d T hs] at e
  exact pE I ru (hd.ty hs) e fun tk => ⟨.bl b,H,I.tok tk,rfl,q⟩
def Sm (i:Int):Prop:=i.natAbs < 2 ^ 8000
theorem Sm.log {i:Int} (h:Sm i):i.natAbs.log2 < 8000:=by
  by_cases h0:i.natAbs = 0
  · rw [h0]; decide
  · exact (Nat.log2_lt h0).mpr h
theorem Sm.bits {i:Int} (h:Sm i):Builtin.Int.intBits i ≤ 8000:=by
  unfold Builtin.Int.intBits
  split
  · exact Nat.zero_le _
  · have:=h.log; omega
theorem Sm.mul {i j:Int} (h:Sm i) (h':Sm j):IntMulOk i j:=by
  have a:=h.bits
  have b:=h'.bits
  unfold IntMulOk Builtin.Int.intTooBig
  have e : ¬ ((Builtin.Int.intBits i:Int) + (Builtin.Int.intBits j:Int) > (bitsLine:Int)):=by
    have:bitsLine = 134217728:=by decide
    omega
  rw [decide_eq_false e]
  simp
def CMulB (i j:Int):Prop:=Sm i ∧ Sm j
def CDivB (i j:Int):Prop:=0 < j ∧ Sm j
theorem b4:OpR X (binaryOp .Mult) (rI CMulB fun i j => .int (i * j)):=opI fun _ _ _ _ _ _ _ hc q => mul_int q (hc.1.mul hc.2)
theorem de:OpR X (binaryOp .FloorDiv) (rI CDivB fun i j => .int (i / j)):=opI fun i j _ _ _ _ _ hc q => by
  refine floordiv_int (Int.ne_of_gt hc.1) ?_ (.inl (PyProof.noPylong_of_log2 (Nat.lt_of_lt_of_le hc.2.log (by decide))))
  rw [Int.fdiv_eq_ediv_of_nonneg _ (Int.le_of_lt hc.1)]
  exact q
end
theorem bB:bootBuiltins "len" = some (.builtin "len"):=by decide +kernel
theorem gc:bootBuiltins "max" = some (.builtin "max"):=by decide +kernel
theorem gw:bootBuiltins "min" = some (.builtin "min"):=by decide +kernel
theorem bc:bootBuiltins "isinstance" = some (.builtin "isinstance"):=by decide +kernel
theorem qI:bootBuiltins "sum" = some (.builtin "sum"):=by decide +kernel
theorem gr:bootBuiltins "sorted" = some (.builtin "sorted"):=by decide +kernel
theorem xq:bootBuiltins "any" = some (.builtin "any"):=by decide +kernel
theorem rh:bootBuiltins "int" = some (.type "int"):=by decide +kernel
theorem sT:bootBuiltins "bool" = some (.type "bool"):=by decide +kernel
theorem fW:bootBuiltins "tuple" = some (.type "tuple"):=by decide +kernel
theorem d3:bootBuiltins "list" = some (.type "list"):=by decide +kernel
theorem kM:bootBuiltins "enumerate" = some (.type "enumerate"):=by decide +kernel
theorem vF:bootBuiltins "zip" = some (.type "zip"):=by decide +kernel
def ce (n b:Int):Int:=if b = 0 then n else (Int.gcd n b:Int)
theorem iU {n b:Int} (h : 0 < b):ce b (n % b) = ce n b:=by
  unfold ce
  have e:Int.gcd n b = Int.gcd b (n % b):=by
    rw [Int.emod_def,Int.gcd_sub_mul_left_right,Int.gcd_comm]
  rw [if_neg (show ¬ b = 0 by omega)]
  split
  · rename_i h0
    rw [e,h0,Int.gcd_zero_right]
    omega
  · rw [e]
theorem e7 {n b:Int} (h : 0 < b) : 0 < ce n b:=by
  unfold ce
  rw [if_neg (by omega)]
  have : 0 < Int.gcd n b:=Int.gcd_pos_of_ne_zero_right _ (by omega)
  omega
theorem ky {n b:Int} (h : 0 < b):ce n b ≤ b:=by
  unfold ce
  rw [if_neg (by omega)]
  exact Int.le_of_dvd h (Int.gcd_dvd_right ..)
theorem sF {n b:Int} (h : 0 < b):ce n b ∣ n:=by
  unfold ce
  rw [if_neg (by omega)]
  exact Int.gcd_dvd_left ..
theorem sC {n b:Int} (h : 0 < b):ce n b ∣ b:=by
  unfold ce
  rw [if_neg (by omega)]
  exact Int.gcd_dvd_right ..
section
variable {X:Cx} {pins:List (Addr × Obj)} {σ:St} {H:Hp} {s:Shared} {pos:Pos}
end
end L2
namespace L2
open PySem
theorem cr {i:Int} {n:Nat} (h:i.natAbs ≤ n) (hn:n < 2 ^ 8000):Sm i:=Nat.lt_of_le_of_lt h hn
end L2
namespace L2
open PySem PySem.Spec PyProof.Rows
def CL (env:Env):List (Str × Addr) → Prop
  | [] => True
  | p :: r => env.cells.lookup p.1 = some p.2 ∧ CL env r
theorem CL.get {env:Env}:∀ {cl:List (Str × Addr)},CL env cl → ∀ {x:Str} {c:Addr},cl.lookup x = some c → env.cells.lookup x = some c
  | [],_,x,c,h => by simp at h
  | (y,d) :: r,h,x,c,e => by
    rw [List.lookup_cons] at e
    cases hx:x == y with
    | true =>
      rw [hx] at e
      have e1:x = y:=by simpa using hx
      have e2:d = c:=Option.some.inj e
      subst e1 e2
      exact h.1
    | false =>
      rw [hx] at e
      exact CL.get h.2 e
theorem eF {env:Env}:∀ {names:List (Str × NameKind)} {x:Str} {k:NameKind},
    (names.map fun (n,k) => if (k == NameKind.free && env.scope.kind == .function && env.kindOf n == some .cell) then (n,NameKind.cell) else (n,k)).lookup x = some k →
    ∃ k',names.lookup x = some k' ∧ (k' = k ∨ (k' = .free ∧ k = .cell))
  | [],x,k,h => by simp at h
  | (n,kn) :: r,x,k,h => by
    have ih:=@eF env r x k
    by_cases hc:(kn == NameKind.free && env.scope.kind == .function && env.kindOf n == some .cell) = true
    · have h':List.lookup x ((n,NameKind.cell) :: (r.map fun (n,k) => if (k == NameKind.free && env.scope.kind == .function && env.kindOf n == some .cell) then (n,NameKind.cell) else (n,k))) = some k:=by
        rw [List.map_cons] at h
        simp only [hc,if_true] at h
        exact h
      rw [List.lookup_cons] at h' ⊢
      cases hx:x == n with
      | true =>
        rw [hx] at h'
        have:kn = .free:=by
          simp only [Bool.and_eq_true,beq_iff_eq] at hc
          exact hc.1.1
        exact ⟨kn,rfl,.inr ⟨this,(Option.some.inj h').symm⟩⟩
      | false => rw [hx] at h'; exact ih h'
    · have h':List.lookup x ((n,kn) :: (r.map fun (n,k) => if (k == NameKind.free && env.scope.kind == .function && env.kindOf n == some .cell) then (n,NameKind.cell) else (n,k))) = some k:=by
        rw [List.map_cons] at h
        simp only [hc] at h
        exact h
      rw [List.lookup_cons] at h' ⊢
      cases hx:x == n with
      | true => rw [hx] at h'; exact ⟨kn,rfl,.inl (Option.some.inj h')⟩
      | false => rw [hx] at h'; exact ih h'
def bT (X:Cx) (scope:Scope) (cl:List (Str × Addr)) (N:List Str) (C:Addr) (s₀:Shared) (H₀:Hp) (ex:List Addr):Cx where
  prog:=X.prog
  w:=X.w
  K:=X.K
  mg:=X.mg
  base:=X.base
  A:=X.A
  N:=N
  s₀:=s₀
  H₀:=H₀
  env:=compEnvC scope cl C X.env
  outer:=X.stack
  stack:=X.stack
  ex:=ex
  fn:=fun _ => false
  calm:=X.calm
  pn:=[]
  xe:=fun _ _ => False
def okJ (X:Cx) (scope:Scope) (j:Nat):Bool:=match X.N[j]? with
  | some x => (match X.env.scope.names.lookup x with | some .cell => true | _ => false) && (match scope.names.lookup x with | some .free => true | _ => false)
  | none => false
def ca (own:List Str) (js:List Nat) (σ:St):St:=own.map (fun _ => none) ++ js.map fun j => (σ[j]?).getD none
def dl (X:Cx) (own:List Str) (js:List Nat):List Str:=own ++ js.map fun j => (X.N[j]?).getD (Str.ofString "")
structure CompOk (X:Cx) (scope:Scope) (cl:List (Str × Addr)) (own:List Str) (js:List Nat):Prop where
  clos:closureFor scope X.env = pure cl
  kind:scope.kind = .function
  names:∀ x ∈ scope.names,x.2 = .local → scope.names.lookup x.1 = some .local
  ncell:(scope.names.all fun y => match y.2 with | .cell => false | _ => true) = true
  has:(scope.names.all fun y => match y.2 with | .free => (cl.lookup y.1).isSome | _ => true) = true
  cells:CL X.env cl
  js:js.all (okJ X scope) = true
theorem CompOk.nc {X:Cx} {scope:Scope} {cl:List (Str × Addr)} {own:List Str} {js:List Nat} (c:CompOk X scope cl own js):∀ y ∈ scope.names,y.2 ≠ .cell:=fun y hy e => by
  have:=List.all_eq_true.mp c.ncell y hy
  rw [e] at this
  cases this
theorem CompOk.fr {X:Cx} {scope:Scope} {cl:List (Str × Addr)} {own:List Str} {js:List Nat} (c:CompOk X scope cl own js) {x:Str} (h:scope.names.lookup x = some .free):∃ d,cl.lookup x = some d:=by
  have:=List.all_eq_true.mp c.has (x,.free) (PySem.mem_of_lookup h)
  exact Option.isSome_iff_exists.mp this
section
variable {X:Cx} {pins:List (Addr × Obj)} {σ:St} {H:Hp} {s:Shared} {scope:Scope} {cl:List (Str × Addr)} {own:List Str} {js:List Nat}
theorem l7 {h1:Heap} {C:Addr} {fp:List Addr} {t':Nat} (c:CompOk X scope cl own js) (I:Inv X pins σ H s) (hf:∀ b ∈ fp,kY X pins H b) (hlt:∀ b ∈ fp,b < s.heap.objs.size)
    (hC:s.heap.objs.size ≤ C) (hk:∀ b o,s.heap.get? b = some o → h1.get? b = some o) (hn:h1.Ns C fun _ => none) :
    Inv (bT X scope cl (dl X own js) C s H fp) [] (ca own js σ) H { s with heap:=h1,toks:=t' }:=by
  have kindOfY:∀ x k,(bT X scope cl (dl X own js) C s H fp).env.kindOf x = some k → ∃ k',scope.names.lookup x = some k' ∧ (k' = k ∨ (k' = .free ∧ k = .cell)):=fun x k e => eF (env:=X.env) (names:=scope.names) e
  refine ⟨⟨I.ok.mod,c.kind,I.ok.glob,I.ok.blt,hC,fun x y d h1 h2 => I.ok.inj x y d (c.cells.get h1) (c.cells.get h2),fun x hx => ?_,fun x d h => (by cases h),I.ok.hd,I.ok.frames,.inl rfl,fun b hb => ⟨?_,fun x d e => (hf b hb).2.2.2.2.1 x d (c.cells.get e)⟩,
    fun b o e => I.bs b o e,Nat.le_trans I.ok.bsz I.sz,fun b o e hb => ?_,fun b hb z => ?_,I.stack,I.stkFree⟩,rfl,I.bare,Un.kept hk,⟨_,hn,fun i x v e1 e2 e3 => ?_⟩,fun x d e => ?_,I.hok.fresh hC,fun x d e => I.freeC x d (c.cells.get e),fun p hp => (by cases hp),I.hok.kept hk,?_⟩
  · rcases hx with hx | hx
    · obtain ⟨k',e1,e2⟩:=kindOfY x _ hx
      rcases e2 with e2 | ⟨e2,_⟩
      · exact absurd e2 (c.nc _ (PySem.mem_of_lookup e1))
      · subst e2; exact c.fr e1
    · obtain ⟨k',e1,e2⟩:=kindOfY x _ hx
      rcases e2 with e2 | ⟨_,e2⟩
      · subst e2; exact c.fr e1
      · cases e2
  · exact Nat.ne_of_lt (Nat.lt_of_lt_of_le (hlt b hb) hC)
  · rcases (hf b hb).2.2.2.1 with z | z
    · exact I.ok.noex b o e z
    · exact absurd (Nat.lt_of_lt_of_le (Heap.lt_size e) (Nat.le_trans I.ok.bsz z)) (Nat.lt_irrefl _)
  · rcases List.mem_cons.mp (I.stkSub b z) with q | q
    · exact (hf b hb).2.1 q
    · exact (hf b hb).2.2.1 q
  · -- a name taken from the frame
    have e1:(dl X own js)[i]? = some x:=e1
    unfold dl at e1
    unfold ca at e2
    by_cases hi:i < own.length
    · rw [List.getElem?_append_left (by simpa using hi),List.getElem?_map,List.getElem?_eq_getElem hi] at e2
      cases e2
    · rw [List.getElem?_append_right (by simpa using Nat.not_lt.mp hi),List.getElem?_map,List.length_map] at e2
      rw [List.getElem?_append_right (Nat.not_lt.mp hi),List.getElem?_map] at e1
      cases ej:js[i - own.length]? with
      | none => rw [ej] at e2; cases e2
      | some j =>
        rw [ej] at e1 e2
        have hj:=List.all_eq_true.mp c.js j (List.mem_of_getElem? ej)
        unfold okJ at hj
        have e1':(X.N[j]?).getD (Str.ofString "") = x:=Option.some.inj e1
        have e2':(σ[j]?).getD none = some v:=Option.some.inj e2
        cases en:X.N[j]? with
        | none => rw [en] at hj; cases hj
        | some y =>
          rw [en] at hj e1'
          have e1'':y = x:=e1'
          subst e1''
          have hv : σ[j]? = some (some v):=by
            cases es : σ[j]? with
            | none => rw [es] at e2'; cases e2'
            | some ov => rw [es] at e2'; rw [show ov = some v from e2']
          dsimp only at hj
          rw [Bool.and_eq_true] at hj
          have k1:X.env.scope.names.lookup y = some .cell:=by
            have:=hj.1
            split at this
            · assumption
            · cases this
          have k2:scope.names.lookup y = some .free:=by
            have:=hj.2
            split at this
            · assumption
            · cases this
          obtain ⟨m,_,hl⟩:=I.loc
          obtain ⟨u,ru,l⟩:=hl j y v en hv (.inr (.inl k1))
          refine ⟨u,ru,?_⟩
          rcases l with ⟨l,_⟩ | ⟨_,d,ed,z⟩
          · rw [show X.env.kindOf y = some .cell from k1] at l; cases l
          · obtain ⟨d',ed'⟩:=c.fr k2
            have:=c.cells.get ed'
            rw [ed] at this
            cases this
            obtain ⟨o,ho,hd⟩:=z
            refine .inr ⟨?_,d,ed',⟨o,hk _ _ ho,hd⟩⟩
            have e3:(bT X scope cl (dl X own js) C s H fp).env.scope.names.lookup y = some .local ∨ (bT X scope cl (dl X own js) C s H fp).env.scope.names.lookup y = some .cell ∨ (bT X scope cl (dl X own js) C s H fp).env.scope.names.lookup y = some .free:=e3
            rcases e3 with e3 | e3 | e3
            · obtain ⟨k',q1,q2⟩:=kindOfY y _ e3
              rw [k2] at q1
              cases q1
              rcases q2 with q2 | ⟨_,q2⟩ <;> cases q2
            · exact .inl e3
            · exact .inr e3
  · obtain ⟨v,o,ho,hd⟩:=I.cell x d (c.cells.get e)
    exact ⟨v,o,hk _ _ ho,hd⟩
  · show (ca own js σ).length = (dl X own js).length
    unfold ca dl
    simp
structure PIf (X:Cx) (ifs:List Expr) (t:TT):Prop where
  go:∀ (pins:List (Addr × Obj)) (s:Shared) (σ:St) (H:Hp) (Q:Bool → Hp → Prop),Inv X pins σ H s → t σ H Q →
    wpAny (model X.prog X.w) X.A (forIn ifs true fun c r => if r = true then do let ok ← isTrue c X.env (eval c X.env); pure (ForInStep.yield ok) else pure (ForInStep.yield r)) (TP X pins σ Q) X.xe s
def tYes:TT:=fun _ H Q => Q true H
theorem sN:PIf X [] tYes:=⟨fun pins s σ H Q I h => wpAny_tests_nil ⟨H,I,h⟩⟩
theorem sS {c:Expr} {t:TT} (h:PT X c t):PIf X [c] t:=⟨fun pins s σ H Q I q => wpAny_tests_one (h.go pins s σ H Q I q)⟩
theorem fh {prog:Program} {w:World} {A:Around} {R:Result → Shared → Prop} {s:Shared} {elt target iter:Expr} {ifs:List Expr} {scope:Scope} {pos:Pos} {it acc:Value} {env:Env} (I:Nat → Shared → Prop)
    (turn:∀ n s,I n s → wpAny (model prog w) A (pyNext it) (fun r s₁ => match r with
      | none => R (.ok .next) s₁
      | some v => wpAny (model prog w) A (letOwnedTupleGo target it v) (fun _ s₁ => wpAny (model prog w) A (assign target env v) (fun _ s₂ =>
          wpAny (model prog w) A (forIn ifs true fun c r => if r = true then do let ok ← isTrue c env (eval c env); pure (ForInStep.yield ok) else pure (ForInStep.yield r)) (fun ok s₃ =>
            if ok = true then wpAny (model prog w) A (eval elt env) (fun x s₄ =>
              wpAny (model prog w) A (call (.builtin "list.append") [acc,x]) (fun _ s₅ => ∃ m,m < n ∧ I m s₅) (fun _ _ => False) s₄) (fun _ _ => False) s₃
            else ∃ m,m < n ∧ I m s₃) (fun _ _ => False) s₂) (fun _ _ => False) s₁) (fun _ _ => False) s₁) (fun _ _ => False) s)
    (n:Nat) (h:I n s) :
    codeAny (model prog w) A (.compLoop (.ListComp elt [⟨target,iter,ifs,0⟩] scope pos) 0 it acc env) R s:=by
  refine codeAny_loop rfl I (fun n s hI => ?_) n h
  show wpAny _ A ((compTurn (.ListComp elt [⟨target,iter,ifs,0⟩] scope pos) 0 it acc env).onRaise (fun x => do noteFrame x env; theTreesLotGoes x)) _ _ s
  refine wpAny_noted ?_
  rw [compTurn_list]
  refine wpAny_bind (wpAny_standAt (wpAny_bind (wpAny_mono (turn n s hI) (fun r s₁ h₁ => ?_) fun _ _ h' => h'.elim)))
  cases r with
  | none => exact wpAny_pure h₁
  | some v =>
    refine wpAny_bind (wpAny_mono h₁ (fun _ s₁ h₁ => ?_) fun _ _ h' => h'.elim)
    refine wpAny_bind (wpAny_mono h₁ (fun _ s₂ h₂ => wpAny_bind (wpAny_mono h₂ (fun ok s₃ h₃ => ?_) fun _ _ h' => h'.elim)) fun _ _ h' => h'.elim)
    cases ok with
    | false => exact wpAny_pure ⟨rfl,h₃⟩
    | true =>
      exact wpAny_bind (wpAny_bind (wpAny_mono h₃ (fun x s₄ h₄ => wpAny_bind (wpAny_mono h₄ (fun _ s₅ h₅ => wpAny_pure (wpAny_pure ⟨rfl,h₅⟩)) fun _ _ h' => h'.elim)) fun _ _ h' => h'.elim))
def kept:St → St → Prop
  | [],[] => True
  | none :: r,_ :: r' => kept r r'
  | some v :: r,y :: r' => y = some v ∧ kept r r'
  | [],_ :: _ => False
  | _ :: _,[] => False
theorem fT:∀ {a b:St},kept a b → a.length = b.length
  | [],[],_ => rfl
  | none :: r,_ :: r',h => congrArg (· + 1) (fT (a:=r) (b:=r') h)
  | some v :: r,y :: r',h => congrArg (· + 1) (fT (a:=r) (b:=r') h.2)
  | [],_ :: _,h => False.elim h
  | none :: _,[],h => False.elim h
  | some _ :: _,[],h => False.elim h
theorem eL:∀ {a b:St},kept a b → ∀ (i:Nat) (v:V),a[i]? = some (some v) → b[i]? = some (some v)
  | [],[],_,i,v,e => by simp at e
  | none :: r,_ :: r',h,0,v,e => by simp at e
  | none :: r,_ :: r',h,i + 1,v,e => by simpa using eL (a:=r) (b:=r') h i v (by simpa using e)
  | some w :: r,y :: r',h,0,v,e => by simp at e; subst e; simp [h.1]
  | some w :: r,y :: r',h,i + 1,v,e => by simpa using eL (a:=r) (b:=r') h.2 i v (by simpa using e)
  | [],_ :: _,h,_,_,_ => False.elim h
  | none :: _,[],h,_,_,_ => False.elim h
  | some _ :: _,[],h,_,_,_ => False.elim h
def nV (J:It) (g:TG) (tt:TT) (te:TE) (σ0:St) (H:Hp) (Z:List V → Hp → Prop):Prop :=
  ∃ W:Nat → Nat → List V → Hp → Prop,(∃ m,W 0 m [] H) ∧ ∀ i m acc H,W i m acc H →
    (J.stop i H ∧ acc.length ≤ sizeLine ∧ Z acc H) ∨ (J.go i H ∧ acc.length < sizeLine ∧ ∃ N:List V → Hp → Prop,(∀ acc' H',N acc' H' → ∃ m',m' < m ∧ W (i + 1) m' acc' H') ∧
      ∀ x H',J.yld i H x H' → g x σ0 H' fun σ2 H2 => kept σ0 σ2 ∧ tt σ2 H2 fun b H3 => if b = true then te σ2 H3 fun v H4 => N (acc ++ [v]) H4 else N acc H3)
theorem HOk.adopt {P:Program} {w:World} {H:Hp} {h:Heap} {a:Addr} {o:HO} (x:HOk P w H h) (hn:H a = none) (new:b7 P w (upd H a o) h a o):HOk P w (upd H a o) h:=fun b u e => by
  by_cases hb:b = a
  · subst hb; rw [aW] at e; cases e; exact new
  · rw [ax hb] at e
    exact (x b u e).stay (fun c v _ q => q) (fun c q => by rw [ax (av q hn)]; exact q) fun c xs q => by rw [ax (av q hn)]; exact q
theorem iK {elt tg iter:Expr} {ifs:List Expr} {pos:Pos} {J:It} {fp:List Addr} {it:Addr} {tn:Nat → Heap → Prop} {g:TG} {tt:TT} {te:TE} {Z:List V → Hp → Prop} {E:Value → Shared → Prop}
    {RR:Value → Addr → Result → Shared → Prop} (c:CompOk X scope cl own js) (hc:X.calm = true) (I:Inv X pins σ H s) (T:Turn X.prog X.w X.K tg J fp it tn) (t0:tn 0 s.heap) (hf:∀ b ∈ fp,kY X pins H b)
    (inner:∀ (C:Addr) (s₀:Shared) (H₀:Hp) (ex:List Addr),PG (bT X scope cl (dl X own js) C s₀ H₀ ex) tg g ∧ PIf (bT X scope cl (dl X own js) C s₀ H₀ ex) ifs tt ∧ PE (bT X scope cl (dl X own js) C s₀ H₀ ex) elt te)
    (hW:nV J g tt te (ca own js σ) H Z)
    (hRR:∀ (D C:Addr) (s':Shared) (acc:List V) (H':Hp),(∃ m,s'.heap.Ns C m) → H' D = none → Z acc H' → s.heap.objs.size ≤ C → C ≠ X.env.locals → (upd H' D (.lst acc)) C = none → (∀ h',Heap.SameBut C s'.heap h' → Inv X pins σ (upd H' D (.lst acc)) { s' with heap:=h' }) → RR (.ref D) C (.ok .next) s') :
    wpAny (model X.prog X.w) X.A (newList []) (fun acc s₃ => wpAny (model X.prog X.w) X.A (newFunctionEnv scope X.env.globals cl [] X.env.qual none .none (some X.env)) (fun cenv s₄ =>
      codeAny (model X.prog X.w) X.A (.compStart (.ListComp elt [⟨tg,iter,ifs,0⟩] scope pos) 0 (.ref it) acc { cenv with scope:=relabel scope X.env }) (RR acc cenv.locals) s₄) E s₃) E s:=by
  refine wpAny_newObj_type (wpAny_newFunctionEnv c.nc (by intro y hy; simp at hy) (fun h₁ hns₁ hsb₁ => ?_) c.kind)
  dsimp only at hns₁ hsb₁ ⊢
  generalize hH2:s.heap.push { cls:=.type "list",dict:=none,data:=.seq ([]:List Value).toArray } = H2 at hns₁ hsb₁ ⊢
  have hCs:H2.objs.size = s.heap.objs.size + 1:=by rw [← hH2,Heap.size_push]
  have hns₁:h₁.Ns H2.objs.size (fun _ => none):=hns₁
  have hCle:s.heap.objs.size ≤ H2.objs.size:=by rw [hCs]; exact Nat.le_succ _
  have hDC:s.heap.objs.size ≠ H2.objs.size:=by rw [hCs]; exact Nat.ne_of_lt (Nat.lt_succ_self _)
  have below:∀ b,b < s.heap.objs.size → b ≠ H2.objs.size ∧ b ≠ s.heap.objs.size:=fun b hb => ⟨by rw [hCs]; exact Nat.ne_of_lt (Nat.lt_succ_of_lt hb),Nat.ne_of_lt hb⟩
  have old:∀ b o,s.heap.get? b = some o → h₁.get? b = some o:=fun b o e => hsb₁.extBut b o (below b (Heap.lt_size e)).1 (Heap.get?_push_of_some _ (hH2 ▸ Heap.get?_push_of_some _ e))
  have hD1:h₁.get? s.heap.objs.size = some { cls:=.type "list",data:=.seq ([]:List Value).toArray }:=hsb₁.extBut _ _ hDC (Heap.get?_push_of_some _ (hH2 ▸ Heap.get?_push_size _ rfl))
  have hlt:∀ b ∈ fp,b < s.heap.objs.size:=fun b hb => by
    obtain ⟨o,e,_⟩:=T.obj 0 _ t0 b hb
    exact Heap.lt_size e
  have hCL:H2.objs.size ≠ X.env.locals:=fun z => absurd (Nat.lt_of_lt_of_le I.lt (by rw [← z]; exact hCle)) (Nat.lt_irrefl _)
  have hDfs:s.heap.objs.size ∉ frs X.stack:=fun z => by
    rcases List.mem_cons.mp (I.stkSub _ z) with q | q
    · exact absurd I.lt (by rw [← q]; exact Nat.lt_irrefl _)
    · exact I.nofs (Nat.le_refl _) q
  have hfs:∀ b ∈ fp,b ∉ frs X.stack:=fun b hb z => by
    rcases List.mem_cons.mp (I.stkSub b z) with q | q
    · exact (hf b hb).2.1 q
    · exact (hf b hb).2.2.1 q
  have hDcell:∀ x d,cl.lookup x = some d → d ≠ s.heap.objs.size:=fun x d e => by
    obtain ⟨v,q⟩:=I.cell x d (c.cells.get e)
    exact Nat.ne_of_lt q.lt
  have fresh:H s.heap.objs.size = none:=I.hok.fresh (Nat.le_refl _)
  obtain ⟨W,⟨m0,w0⟩,turn⟩:=hW
  have loop:∀ s₃:Shared,s₃ = { s with heap:=h₁,toks:=s.toks + ([]:List (Str × Value)).length } →
      codeAny (model X.prog X.w) X.A (.compLoop (.ListComp elt [⟨tg,iter,ifs,0⟩] scope pos) 0 (.ref it) (.ref s.heap.objs.size) (compEnvC scope cl H2.objs.size X.env)) (RR (.ref s.heap.objs.size) H2.objs.size) s₃:=by
    rintro s₃ rfl
    have I0:=l7 (t':=s.toks + ([]:List (Str × Value)).length) c I hf hlt hCle old hns₁
    obtain ⟨hg,hi,he⟩:=inner H2.objs.size s H fp
    generalize hY:bT X scope cl (dl X own js) H2.objs.size s H fp = Y at I0 hg hi he
    have Yp:Y.prog = X.prog:=by rw [← hY]; rfl
    have Yw:Y.w = X.w:=by rw [← hY]; rfl
    have YK:Y.K = X.K:=by rw [← hY]; rfl
    have YA:Y.A = X.A:=by rw [← hY]; rfl
    have Ye:Y.env = compEnvC scope cl H2.objs.size X.env:=by rw [← hY]; rfl
    have Yl:Y.env.locals = H2.objs.size:=by rw [← hY]; rfl
    have Yc:Y.env.cells = cl:=by rw [← hY]; rfl
    have Yf:Y.fs = frs X.stack:=by rw [← hY]; rfl
    have Yx:Y.ex = fp:=by rw [← hY]; rfl
    have Ys:Y.s₀ = s:=by rw [← hY]; rfl
    have YH:Y.H₀ = H:=by rw [← hY]; rfl
    have Yn:Y.pn = []:=by rw [← hY]; rfl
    have Yo:Y.calm = true:=by rw [← hY]; exact hc
    have YE:Y.xe = fun _ _ => False:=by rw [← hY]; rfl
    have fpY:∀ {H':Hp} (pn:List (Addr × Obj)),(∀ b ∈ fp,H' b = none) → (∀ b ∈ fp,∀ p ∈ pn,p.1 ≠ b) → ∀ b ∈ fp,kY Y pn H' b:=fun pn hn hp b hb =>
      ⟨hn b hb,by rw [Yl]; exact (below b (hlt b hb)).1,by rw [Yf]; exact hfs b hb,.inl (by rw [Yx]; exact hb),fun x d e => (hf b hb).2.2.2.2.1 x d (c.cells.get (by rw [← Yc]; exact e)),fun p hp' => hp b hb p (by rw [Yn] at hp'; exact hp')⟩
    refine fh (fun n s' => ∃ i acc its k H',Inv Y [] (ca own js σ) H' s' ∧ tn i s'.heap ∧ (∀ b ∈ fp,H' b = none) ∧ W i n acc H' ∧ H' s.heap.objs.size = none ∧ s'.heap.get? s.heap.objs.size = some { cls:=.type "list",data:=.seq (its:List Value).toArray k } ∧ aY acc its) ?_ m0
      ⟨0,[],[],0,H,I0,T.keep 0 _ _ t0 (fun b hb o e => old b o e),fun b hb => (hf b hb).1,w0,fresh,hD1,.nil⟩
    rintro n s' ⟨i,acc,its,k,H',I',tn',fr',w',hD',oD',hv'⟩
    have hpinD:∀ b ∈ fp,∀ p ∈ [(s.heap.objs.size,({ cls:=.type "list",data:=.seq its.toArray k }:Obj))],p.1 ≠ b:=fun b hb p hp => by
      rw [List.mem_singleton] at hp
      subst hp
      exact fun z => (below b (hlt b hb)).2 z.symm
    have ID:Inv Y [(s.heap.objs.size,({ cls:=.type "list",data:=.seq its.toArray k }:Obj))] (ca own js σ) H' s':=I'.pins_of fun p hp => by
      rw [List.mem_singleton] at hp
      subst hp
      exact ⟨oD',hD',by rw [Yl]; exact hDC,by rw [Yf]; exact hDfs,fun v z => by cases z⟩
    rcases turn i n acc H' w' with ⟨stop,hlen,hz⟩ | ⟨go,hlen,N,hN,step⟩
    · have hd:=T.done Y Yp Yw YK Yo i _ s' (ca own js σ) H' (fun _ _ => False) ID (fpY _ fr' hpinD) tn' stop
      rw [YA] at hd
      refine thn hd fun r s1 ⟨hr,I1⟩ => ?_
      subst hr
      obtain ⟨oD1,_⟩:=I1.pin _ (List.mem_append_right _ (List.mem_singleton.mpr rfl))
      have hC0:H' H2.objs.size = none:=by have:=I1.free; rw [Yl] at this; exact this
      have B1:Un (frs X.stack) fp H H' s.heap s1.heap:=by have:=I1.base; rw [Yf,Yx,YH,Ys] at this; exact this
      refine hRR s.heap.objs.size H2.objs.size s1 acc H' (by obtain ⟨m,hn,_⟩:=I1.loc; rw [Yl] at hn; exact ⟨m,hn⟩) hD' hz hCle hCL (by rw [ax (Ne.symm hDC)]; exact hC0) fun h' hsb => ?_
      have at':∀ b o,b ≠ H2.objs.size → s1.heap.get? b = some o → h'.get? b = some o:=fun b o hb e => by rw [hsb.2 b hb]; exact e
      refine I.call' (s':={ s1 with heap:=h' }) (ch:=fp) (by have:=I1.os; rw [Ys] at this; exact this) ⟨fun b o q nn hb hx => ?_,fun b o q nn hb hx => ?_,fun b o q nn hx => ?_,fun b o q hx => ?_,fun b xs q => ?_,fun b o u q => ?_,fun b ps q => ?_⟩ ?_ I1.bare fun b hb => ⟨(hf b hb).2.2.2.1,(hf b hb).2.1,(hf b hb).2.2.2.2.1,(hf b hb).2.2.2.2.2⟩
      · exact at' b o (below b (Heap.lt_size q)).1 (B1.keep b o q nn hb hx)
      · obtain ⟨sl,e⟩:=B1.slot b o q nn hb hx
        exact ⟨sl,at' b _ (below b (Heap.lt_size q)).1 e⟩
      · rw [ax (below b (Heap.lt_size q)).2]; exact B1.free b o q nn hx
      · obtain ⟨o',e⟩:=B1.there b o q hx
        exact ⟨o',at' b _ (below b (Heap.lt_size q)).1 e⟩
      · have q':=B1.tups b xs q
        rw [ax (av q' hD')]; exact q'
      · have q':=B1.frzs b o u q
        rw [ax (av q' hD')]; exact q'
      · obtain ⟨more,q'⟩:=B1.tbls b ps q
        exact ⟨more,by rw [ax (av q' hD')]; exact q'⟩
      · have hok1:HOk X.prog X.w H' h':=fun a o e => by
          have hok:=I1.hok
          rw [Yp,Yw] at hok
          refine (hok a o e).stay (fun b u hb q => at' b u ?_ q) (fun _ q => q) fun _ _ q => q
          rcases hb with rfl | hb
          · exact av e hC0
          · exact av hb hC0
        exact hok1.adopt hD' ⟨hlen,its,k,hv',at' _ _ hDC oD1⟩
    · have hd:=T.item Y Yp Yw YK Yo i _ s' (ca own js σ) H' (fun _ _ => False) ID (fpY _ fr' hpinD) tn' go
      rw [YA] at hd
      refine thn hd fun r s1 ⟨u,hr,h4⟩ => ?_
      subst hr
      have h4:=h4
      refine thn h4 fun _ s2 ⟨x,H5,I5,r5,y5,tn5,fr5⟩ => ?_
      have I5':=I5.pinned (fpY _ fr5 hpinD) (T.obj _ _ tn5)
      have hg':=hg.go _ s2 _ H5 x u _ I5' r5 (step x H5 y5)
      rw [Yp,Yw,YA,Ye,YE] at hg'
      refine thn hg' fun _ s3 ⟨σ6,H6,I6,kp6,q6⟩ => ?_
      have hi':=hi.go _ s3 σ6 H6 _ I6 q6
      rw [Yp,Yw,YA,Ye,YE] at hi'
      refine thn hi' fun ok s4 ⟨H7,I7,q7⟩ => ?_
      cases ok with
      | false =>
        rw [if_neg Bool.false_ne_true] at q7 ⊢
        obtain ⟨m',hm,w7⟩:=hN _ _ q7
        obtain ⟨oD7,hD7,_⟩:=I7.pin _ (List.mem_append_right _ (List.mem_append_left _ (List.mem_singleton.mpr rfl)))
        refine ⟨m',hm,i + 1,acc,its,k,H7,(I7.pins_of (pins':=[]) fun p hp => (by cases hp)).weak (fT kp6) (eL kp6),T.keep _ _ _ tn5 fun b hb o e => (I7.pin (b,o) (List.mem_append_right _ (List.mem_append_right _ (cI hb e)))).1,fun b hb => ?_,w7,hD7,oD7,hv'⟩
        obtain ⟨o,e,_⟩:=T.obj _ _ tn5 b hb
        exact (I7.pin (b,o) (List.mem_append_right _ (List.mem_append_right _ (cI hb e)))).2.1
      | true =>
        rw [if_pos rfl] at q7 ⊢
        have he':=he.go _ s4 σ6 H7 _ I7 q7
        rw [Yp,Yw,YA,Ye,YE] at he'
        refine thn he' fun v s5 ⟨xv,H8,I8,r8,n8⟩ => ?_
        obtain ⟨m',hm,w8⟩:=hN _ _ n8
        obtain ⟨oD8,hD8,_⟩:=I8.pin _ (List.mem_append_right _ (List.mem_append_left _ (List.mem_singleton.mpr rfl)))
        have hsz:its.toArray.size < sizeLine:=by rw [List.size_toArray,← hv'.length]; exact hlen
        refine call_meets F.slot_list_append ⟨_,oD8,rfl⟩ F.entry_list_append (F.args_list_append_2 _ _) (PySem.list_append s.heap.objs.size its.toArray k v (Nat.le_of_lt hsz)) ⟨oD8,?_⟩
        have q:=PySem.IsL.update oD8 (fun a => a.push v)
        have J8:Inv Y (iA fp s2.heap) σ6 H8 s5:=I8.pins_of fun p hp => I8.pin p (List.mem_append_right _ (List.mem_append_right _ hp))
        have ne8:∀ b,b ∈ fp → b ≠ s.heap.objs.size:=fun b hb => (below b (hlt b hb)).2
        have J9:=J8.turned (t':=s5.toks) (h':=s5.heap.update s.heap.objs.size (Obj.mapSeq fun a => a.push v)) (it:=s.heap.objs.size) (fun b o hb e => (Heap.get?_update_other s5.heap _ (Ne.symm hb)).trans e) hD8 (by rw [Yl]; exact hDC) (.inr (by rw [Ys]; exact Nat.le_refl _)) (fun x d e => hDcell x d (by rw [← Yc]; exact e))
          (fun p hp => by
            rw [Yn,List.nil_append] at hp
            obtain ⟨hb,_⟩:=jk hp
            exact ne8 _ hb)
        have keep9:∀ b o,b ∈ fp → s2.heap.get? b = some o → (s5.heap.update s.heap.objs.size (Obj.mapSeq fun a => a.push v)).get? b = some o:=fun b o hb e => (J9.pin (b,o) (List.mem_append_right _ (cI hb e))).1
        refine ⟨m',hm,i + 1,acc ++ [xv],its ++ [v],(if ((its ++ [v]).toArray.size == its.toArray.size) = true then k else k + 1),H8,(J9.pins_of (pins':=[]) fun p hp => (by cases hp)).weak (fT kp6) (eL kp6),T.keep _ _ _ tn5 fun b hb o e => keep9 b o hb e,fun b hb => ?_,w8,hD8,?_,hv'.append (.cons r8 .nil)⟩
        · obtain ⟨o,e,_⟩:=T.obj _ _ tn5 b hb
          exact (J9.pin (b,o) (List.mem_append_right _ (cI hb e))).2.1
        · have q':=q
          simp only [List.push_toArray] at q'
          exact q'
  exact codeAny_compStart_list (loop _ rfl) (T.self _ 0 _ _ _ (T.keep 0 _ _ t0 (fun b hb o e => old b o e)) (loop _ rfl))
def lE (wi:TI) (g:TG) (tt:TT) (te:TE) (own:List Str) (js:List Nat):TE:=fun σ H Q => wi σ H fun J H1 => nV J g tt te (ca own js σ) H1 fun acc H2 => ∀ p,H2 p = none → Q (.ref p) (upd H2 p (.lst acc))
theorem kw {elt tg iter:Expr} {ifs:List Expr} {pos:Pos} {wi:TI} {g:TG} {tt:TT} {te:TE} (own:List Str) (js:List Nat) (c:CompOk X scope cl own js) (hc:X.calm = true) (hi:PI X tg iter wi)
    (inner:∀ (C:Addr) (s₀:Shared) (H₀:Hp) (ex:List Addr),PG (bT X scope cl (dl X own js) C s₀ H₀ ex) tg g ∧ PIf (bT X scope cl (dl X own js) C s₀ H₀ ex) ifs tt ∧ PE (bT X scope cl (dl X own js) C s₀ H₀ ex) elt te)
    (hs:∀ x,foldedSetIterable iter X.env x = pure x:=by intro _; rfl):PE X (.ListComp elt [⟨tg,iter,ifs,0⟩] scope pos) (lE wi g tt te own js):=by
  refine ⟨fun pins s σ H Q I h => ?_⟩
  rw [eval_ListComp]
  refine wpAny_comprehension_free (use:=none) rfl hs c.clos c.kind c.names (thn (hi.go pins s σ H _ I h) fun v s1 h1 => thn h1 fun itv s2 h2 => ?_)
  obtain ⟨it,fp,tn,J,H2,e,I2,T,st2,f2,hW⟩:=h2
  subst e
  refine iK (RR:=fun acc C => compPost (model X.prog X.w) X.A X.xe none (EP X pins σ Q) acc C) c hc I2 T st2 f2 inner hW ?_
  intro D C s' acc H' hn hD hz hDC hCL hUC hI
  exact ⟨hn.choose,hn.choose_spec,fun h' hsb => ⟨.ref D,_,hI h' hsb,rfl,hz D hD⟩⟩
theorem lX {elt tg iter:Expr} {ifs:List Expr} {pos spos py:Pos} {wi:TI} {g:TG} {tt:TT} {te:TE} {i:Nat} {y:Str} (own:List Str) (js:List Nat) (c:CompOk X scope cl own js) (hc:X.calm = true) (hN:X.N.Nodup) (hy:X.N[i]? = some y) (hx:Loc X.env.scope y) (hi:PI X tg iter wi)
    (inner:∀ (C:Addr) (s₀:Shared) (H₀:Hp) (ex:List Addr),PG (bT X scope cl (dl X own js) C s₀ H₀ ex) tg g ∧ PIf (bT X scope cl (dl X own js) C s₀ H₀ ex) ifs tt ∧ PE (bT X scope cl (dl X own js) C s₀ H₀ ex) elt te)
    (hsw:swapsWith (.ListComp elt [⟨tg,iter,ifs,0⟩] scope pos) (some (.Name y py)) spos.line X.env = pure true:=by rfl)
    (hs:∀ x,foldedSetIterable iter X.env x = pure x:=by intro _; rfl) (hf:X.fn y = true ∨ X.env.scope.names.lookup y = some .local:=by first | exact .inl rfl | exact .inr rfl | assumption) :
    PS X (.Assign [.Name y py] (.ListComp elt [⟨tg,iter,ifs,0⟩] scope pos) spos) (p8 (lE wi g tt te own js) (g6 i)):=by
  refine ⟨fun pins s σ H D I h => ?_⟩
  rw [exec_Assign_Name_used _ _ _ _ hsw]
  refine wpAny_bind (wpAny_standAt (wpAny_bind ?_))
  show wpAny _ X.A (do let _ ← comprehension (.ListComp elt [⟨tg,iter,ifs,0⟩] scope pos) scope X.env _ (newList []) false (eval iter X.env) (some (assign (.Name y py) X.env))) _ _ s
  refine wpAny_bind (wpAny_mono (wpAny_comprehension_free (use:=some (assign (.Name y py) X.env)) (Q:=fun _ s' => SP X pins D .next s') rfl hs c.clos c.kind c.names
    (thn (hi.go pins s σ H _ I h) fun v s1 h1 => thn h1 fun itv s2 h2 => ?_)) (fun _ s' hq => wpAny_pure (wpAny_pure hq)) fun _ _ e => e)
  obtain ⟨it,fp,tn,J,H2,e,I2,T,st2,f2,hW⟩:=h2
  subst e
  refine iK (RR:=fun acc C => compPost (model X.prog X.w) X.A X.xe (some (assign (.Name y py) X.env)) (fun _ s' => SP X pins D .next s') acc C) c hc I2 T st2 f2 inner hW ?_
  intro D' C s' acc H' hn hD hz hDC hCL hUC hI
  show wpAny _ X.A (assign (.Name y py) X.env (.ref D')) _ _ _
  have I9:=hI s'.heap (Heap.SameBut.refl _ _)
  obtain ⟨m,hm⟩:=hn
  refine wpAny_assign_Name (jD (v:=.ref D') I9 hN hy hx rfl (fun s'' I'' ⟨a,sb,ha⟩ => ?_) hf)
  have aC:C ≠ a:=by
    rcases ha with ha | ha
    · rw [ha]; exact hCL
    · intro z
      subst z
      obtain ⟨v,q⟩:=I2.cell y C ha
      exact absurd (Nat.lt_of_lt_of_le q.lt hDC) (Nat.lt_irrefl _)
  refine ⟨m,hm.sameBut sb aC,fun h' hsb => ?_⟩
  refine ⟨σ.set i (some (.ref D')),upd H' D' (.lst acc),I''.turned (t':=s''.toks) (it:=C) (fun b o hb e => by rw [hsb.2 b hb]; exact e) ?_ hCL (.inr (Nat.le_trans I2.sz hDC)) (fun x d e z => ?_) (fun p hp z => ?_),hz D' hD⟩
  · exact hUC
  · obtain ⟨v,q⟩:=I2.cell x d e
    rw [z] at q
    exact absurd (Nat.lt_of_lt_of_le q.lt hDC) (Nat.lt_irrefl _)
  · have q:=Heap.lt_size (I2.pin p hp).1
    rw [z] at q
    exact absurd (Nat.lt_of_lt_of_le q hDC) (Nat.lt_irrefl _)
end
def Ite (a:Addr):It :=
  ⟨fun i H => ∃ xs x,H a = some (.lst xs) ∧ xs[i]? = some x,fun i H v H' => ∃ p x,H p = none ∧ v = .ref p ∧ H' = upd H p (.tup [.int i,x]) ∧ ∀ xs,H a = some (.lst xs) → xs[i]? = some x,fun i H => ∃ xs,H a = some (.lst xs) ∧ xs.length ≤ i⟩
theorem oD {P:Program} {w:World} {K:PySem.W.Frag} {es:List Expr} {k:Nat} {pos:Pos} (a e it:Addr) (hne:e ≠ it) :
    Turn P w K (.Tuple es k pos) (Ite a) [e,it] e (fun i h => (∃ old,IsEnum h e it i old) ∧ h.IsListIter it a i) where
  mem:=by simp
  obj:=fun i h st b hb => by
    rw [List.mem_cons,List.mem_singleton] at hb
    rcases hb with rfl | rfl
    · obtain ⟨⟨old,q⟩,_⟩:=st
      exact ⟨_,q,fun v z => by cases z⟩
    · obtain ⟨_,o,q,c,d⟩:=st
      exact ⟨o,q,fun v z => by rw [d] at z; cases z⟩
  keep:=fun i h h' st kp => ⟨by obtain ⟨old,q⟩:=st.1; exact ⟨old,kp e (by simp) _ q⟩,st.2.at fun o q => kp it (by simp) o q⟩
  item:=by
    intro X hP hw hK hc i pins s σ H E I hf st hg
    subst hP hw hK
    obtain ⟨xs,x,hq,hx⟩:=hg
    obtain ⟨⟨old,he⟩,hit⟩:=st
    obtain ⟨its,rv,p,hz⟩:=I.list (SqL.of hq)
    obtain ⟨u,hu,ru⟩:=rv.get hx
    obtain ⟨f0,f1,f2,f3,f4,f5⟩:=hf e (by simp)
    obtain ⟨g0,g1,g2,g3,g4,g5⟩:=hf it (by simp)
    refine wpAny_pyNext_enum_item he hit p.isList (x:=u) (by simpa using hu) hne fun h' eo it' ht hsz hk => ?_
    refine ⟨.ref s.heap.objs.size,rfl,?_⟩
    refine wpAny_letOwnedTupleGo_enum eo fun h2 he2 hs2 => ?_
    have fr:H s.heap.objs.size = none:=I.hok.fresh (Nat.le_refl _)
    have ne2:∀ b,b < s.heap.objs.size → b ≠ s.heap.objs.size:=fun b hb => Nat.ne_of_lt hb
    have ee:e < s.heap.objs.size:=Heap.lt_size he
    have k2:∀ b o,b ≠ e → b ≠ it → s.heap.get? b = some o → h2.get? b = some o:=fun b o h1 h2' q => (hs2.2 b h1).trans (hk b o h1 h2' q)
    have ht2:h2.get? s.heap.objs.size = some { cls:=.type "tuple",data:=.seq #[.int i s.toks,u] }:=(hs2.2 _ (Nat.ne_of_gt ee)).trans ht
    have trk:∀ b v,H b = some v → b ≠ e ∧ b ≠ it:=fun b v q => ⟨av q f0,av q g0⟩
    have hok0:HOk X.prog X.w H h2:=fun b o q => (I.hok b o q).stay (fun c v hc q' => by
      rcases hc with rfl | hc
      · exact k2 c v (trk c _ q).1 (trk c _ q).2 q'
      · exact k2 c v (trk c _ hc).1 (trk c _ hc).2 q') (fun _ z => z) fun _ _ z => z
    have I1:Inv X pins σ (upd H s.heap.objs.size (.tup [.int i,x])) { s with heap:=h2,toks:=s.toks + 1 }:=by
      refine I.step (g':=s.gens) (d':=s.drawn) (ch:=[e,it]) (fun b hb => ?_) (fun b o _ _ hc q _ => k2 b o (fun z => hc (by simp [z])) (fun z => hc (by simp [z])) q) (fun b o _ _ hc q _ => ⟨o.slots,k2 b o (fun z => hc (by simp [z])) (fun z => hc (by simp [z])) q⟩)
        (fun b o _ q n => by rw [ax (ne2 b (Heap.lt_size q))]; exact n) (fun b o hc q => ⟨o,k2 b o (fun z => hc (by simp [z])) (fun z => hc (by simp [z])) q⟩) (fun b ys q => by rw [ax (av q fr)]; exact q) (fun b o v q => by rw [ax (av q fr)]; exact q)
        (fun b ps q => ⟨#[],by rw [ax (av q fr),q]; simp⟩) (fun m hm => ?_) ?_ I.bare
      · rw [List.mem_cons,List.mem_singleton] at hb
        rcases hb with rfl | rfl
        · exact ⟨f3,f1,f4,f5⟩
        · exact ⟨g3,g1,g4,g5⟩
      · obtain ⟨o,es',ep,ho,r⟩:=hm
        exact ⟨o,es',ep,k2 _ o (Ne.symm f1) (Ne.symm g1) ho,r⟩
      · exact hok0.adopt fr ⟨by show 2 ≤ sizeLine; decide,[.int i s.toks,u],.cons ⟨_,rfl⟩ (.cons ru .nil),⟨_,ht2,rfl,_,rfl⟩⟩
    refine ⟨.ref s.heap.objs.size,_,I1,rfl,⟨_,x,fr,rfl,rfl,fun ys hy => by rw [hq] at hy; cases hy; exact hx⟩,⟨⟨_,by simpa using he2⟩,it'.extBut hs2.extBut (Ne.symm hne)⟩,fun b hb => ?_⟩
    have:H b = none:=(hf b hb).1
    have hb':b < s.heap.objs.size:=by
      rw [List.mem_cons,List.mem_singleton] at hb
      rcases hb with rfl | rfl
      · exact ee
      · obtain ⟨o,q,_⟩:=hit; exact Heap.lt_size q
    rw [ax (ne2 b hb')]
    exact this
  done:=by
    intro X hP hw hK hc i pins s σ H E I hf st hg
    subst hP hw hK
    obtain ⟨xs,hq,hx⟩:=hg
    obtain ⟨⟨old,he⟩,hit⟩:=st
    obtain ⟨its,rv,p,hz⟩:=I.list (SqL.of hq)
    obtain ⟨g0,g1,g2,g3,g4,g5⟩:=hf it (by simp)
    have hl:=rv.length
    exact wpAny_pyNext_enum_end (I.ok.hd hc) he hit p.isList (by simp; omega) fun h' eb => ⟨rfl,I.turned (t':=s.toks) (fun b o hb e => eb b o hb e) g0 g1 g3 g4 g5⟩
  self:=fun _ _ _ _ _ st h => by
    obtain ⟨⟨old,he⟩,_⟩:=st
    exact wpAny_pyIter_enum he h
section
variable {X:Cx} {es:List Expr} {k:Nat} {tpos:Pos}
def iEnum (ta:TA):TI:=fun σ H R => ta σ H fun vs H1 => ∃ a,vs = [.ref a] ∧ (∃ xs,H1 a = some (.lst xs)) ∧ R (Ite a) H1
theorem tW {l:Expr} {ta:TA} {p pos:Pos} (hg:Gl X "enumerate") (hm:X.mg "enumerate" = none) (ha:PA X [l] ta) (hs:starEach [l] X.env = [(false,eval l X.env)]:=by rfl):PI X (.Tuple es k tpos) (.Call (.Name "enumerate" p) [l] [] pos) (iEnum ta):=by
  refine ⟨fun pins s σ H R I h => ?_⟩
  refine wpAny_Call_Name_kw (fq I hg hm kM ?_)
  refine PyProof.Rows.callWith_type1 (thn (ha pos pins s σ H _ I h) fun us s1 ⟨vs,H1,I1,r1,a,e,⟨xs,hx⟩,q⟩ => ?_) hs rfl
  subst e
  obtain ⟨u,rfl,ru⟩:=eW r1
  cases ru
  obtain ⟨_,its,n,rv,ho⟩:=(show b7 X.prog X.w H1 s1.heap a (.lst xs) from I1.hok a _ hx)
  refine call_enumerate_1 ho fun h' he hit hsz hk => ?_
  have I2:Inv X pins σ H1 { s1 with heap:=h' }:=I1.kept (t':=s1.toks) hk
  refine wpAny_pyIter_enum he ⟨s1.heap.objs.size + 1,[s1.heap.objs.size + 1,s1.heap.objs.size],_,Ite a,H1,rfl,I2,oD a (s1.heap.objs.size + 1) s1.heap.objs.size (Nat.succ_ne_self _),⟨⟨_,he⟩,hit⟩,fun b hb => ?_,q⟩
  have hb':s1.heap.objs.size ≤ b:=by
    rw [List.mem_cons,List.mem_singleton] at hb
    rcases hb with rfl | rfl <;> omega
  have z:=I1.fpOk (H':=H1) hb' (I1.hok.fresh hb')
  exact z
end
mutual
def toP:D → PyData
  | .non => .none
  | .bl b => .bool b
  | .int i => .int i
  | .str x => .str x
  | .tup ds => .tuple (toPs ds)
  | .lst ds => .list (toPs ds)
  | .dct => .dict []
  | .dic _ _ => .dict []
  | .scr _ _ => .dict []
  | .ext _ => .dict []
def toPs:List D → List PyData
  | [] => []
  | d :: ds => toP d :: toPs ds
end
mutual
theorem dP {X:Cx} {pins:List (Addr × Obj)} {σ:St} {H:Hp} {s:Shared} (I:Inv X pins σ H s):∀ (d:D) (v:V) (u:Value),Rep H d v → bf v u → (toP d).canLay0 = true → ∃ as,Reads s.heap u (toP d) as
  | .non,v,u,h,r,_ => by rw [Rep] at h; subst h; cases r; rw [toP]; exact ⟨_,.none⟩
  | .bl b,v,u,h,r,_ => by rw [Rep] at h; subst h; cases r; rw [toP]; exact ⟨_,.bool b⟩
  | .int i,v,u,h,r,_ => by rw [Rep] at h; subst h; obtain ⟨t,rfl⟩:=r; rw [toP]; exact ⟨_,.int i t⟩
  | .str x,v,u,h,r,_ => by rw [Rep] at h; subst h; obtain ⟨t,rfl⟩:=r; rw [toP]; exact ⟨_,.str x t⟩
  | .tup ds,v,u,h,r,c => by
    rw [Rep] at h
    obtain ⟨a,xs,rfl,ha,hx⟩:=h
    cases r
    rw [toP] at c ⊢
    obtain ⟨_,its,rv,o,e1,e2,n,e3⟩:=(show b7 X.prog X.w H s.heap a (.tup xs) from I.hok a _ ha)
    obtain ⟨as,q⟩:=reps_reads I ds xs its hx rv (by rw [PyData.canLay0] at c; exact c)
    exact ⟨_,reads_tuple_at e1 e2 e3 (by simpa using q)⟩
  | .lst ds,v,u,h,r,c => by
    rw [Rep] at h
    obtain ⟨a,xs,rfl,ha,hx⟩:=h
    cases r
    rw [toP] at c ⊢
    obtain ⟨_,its,n,rv,e1⟩:=(show b7 X.prog X.w H s.heap a (.lst xs) from I.hok a _ ha)
    obtain ⟨as,q⟩:=reps_reads I ds xs its hx rv (by rw [PyData.canLay0] at c; exact c)
    exact ⟨_,reads_list_at e1 rfl rfl (by simpa using q)⟩
  | .dct,v,u,h,r,c => by rw [toP,PyData.canLay0] at c; cases c
  | .dic _ _,v,u,h,r,c => by rw [toP,PyData.canLay0] at c; cases c
  | .scr _ _,v,u,h,r,c => by rw [toP,PyData.canLay0] at c; cases c
  | .ext _,v,u,h,r,c => by rw [toP,PyData.canLay0] at c; cases c
theorem reps_reads {X:Cx} {pins:List (Addr × Obj)} {σ:St} {H:Hp} {s:Shared} (I:Inv X pins σ H s):∀ (ds:List D) (vs:List V) (us:List Value),Reps H ds vs → aY vs us → PyData.canLayAll0 (toPs ds) = true → ∃ as,ReadsAll s.heap us (toPs ds) as
  | [],vs,us,h,r,_ => by rw [Reps] at h; subst h; cases r; rw [toPs]; exact ⟨_,.nil⟩
  | d :: ds,vs,us,h,r,c => by
    rw [Reps] at h
    obtain ⟨v,vs',rfl,h1,h2⟩:=h
    rw [toPs] at c ⊢
    rw [PyData.canLayAll0,Bool.and_eq_true] at c
    cases r with
    | cons r1 r2 =>
      obtain ⟨as,q1⟩:=dP I d v _ h1 r1 c.1
      obtain ⟨bs,q2⟩:=reps_reads I ds vs' _ h2 r2 c.2
      exact ⟨_,.cons q1 q2⟩
end
section
variable {X:Cx}
def rEqD:R2:=fun x y H Q => ∃ d e,Rep H d x ∧ Rep H e y ∧ SeqAt.shaped (toP d) = true ∧ SeqAt.shaped (toP e) = true ∧ Q (.bl (PyData.eqv (toP d) (toP e))) H
def rNeD:R2:=fun x y H Q => ∃ d e,Rep H d x ∧ Rep H e y ∧ SeqAt.shaped (toP d) = true ∧ SeqAt.shaped (toP e) = true ∧ Q (.bl (!PyData.eqv (toP d) (toP e))) H
theorem cT (hu:X.A.units + 64 < cLine):OpR X (compareOp .Eq) rEqD:=by
  intro pins s σ H x y v u Q I rx ry h
  obtain ⟨d,e,h1,h2,c1,c2,q⟩:=h
  obtain ⟨as,r1⟩:=dP I d x v h1 rx (SeqAt.canLay_of_shaped c1)
  obtain ⟨bs,r2⟩:=dP I e y u h2 ry (SeqAt.canLay_of_shaped c2)
  exact eq_dataH r1 r2 c1 c2 hu ⟨.bl _,H,I,rfl,q⟩
theorem cK (hu:X.A.units + 64 < cLine):OpR X (compareOp .NotEq) rNeD:=by
  intro pins s σ H x y v u Q I rx ry h
  obtain ⟨d,e,h1,h2,c1,c2,q⟩:=h
  obtain ⟨as,r1⟩:=dP I d x v h1 rx (SeqAt.canLay_of_shaped c1)
  obtain ⟨bs,r2⟩:=dP I e y u h2 ry (SeqAt.canLay_of_shaped c2)
  exact ne_dataH r1 r2 c1 c2 hu ⟨.bl _,H,I,rfl,q⟩
end
def ap (ns:List Int):D:=.lst (ns.map .int)
theorem gz (ns:List Int):toPs (ns.map .int) = ns.map .int:=by
  induction ns with
  | nil => rw [List.map_nil,toPs]; rfl
  | cons n r ih => rw [List.map_cons,toPs,ih,toP]; rfl
theorem qu (ns:List Int):PyData.canLayAll0 (ns.map .int) = true ∧ PyData.depthAll (ns.map .int) ≤ 1:=by
  induction ns with
  | nil => simp [PyData.canLayAll0,PyData.depthAll]
  | cons n r ih => simp only [List.map_cons,PyData.canLayAll0,PyData.canLay0,PyData.depthAll,PyData.depth,ih.1,Bool.and_self,true_and]; have:=ih.2; omega
theorem rM (ns ms:List Int):PyData.eqvAll (ns.map .int) (ms.map .int) = decide (ns = ms):=by
  induction ns generalizing ms with
  | nil => cases ms <;> simp [PyData.eqvAll]
  | cons n r ih =>
    cases ms with
    | nil => simp [PyData.eqvAll]
    | cons m q =>
      rw [List.map_cons,List.map_cons,PyData.eqvAll,PyData.eqv,ih]
      by_cases h:n = m
      · subst h; simp
      · simp [h]
theorem lm (ns:List Int):SeqAt.shaped (toP (ap ns)) = true:=by
  have h:=qu ns
  unfold SeqAt.shaped ap
  rw [toP,gz,PyData.canLay0,PyData.depth,h.1,Bool.true_and]
  exact decide_eq_true (by have:=h.2; omega)
theorem rB (ns ms:List Int):PyData.eqv (toP (ap ns)) (toP (ap ms)) = decide (ns = ms):=by
  unfold ap
  rw [toP,toP,gz,gz,PyData.eqv,rM]
theorem gt {H:Hp}:∀ ns:List Int,Reps H (ns.map .int) (ns.map V.int)
  | [] => bS
  | n :: r => bG (bq n) (gt r)
def aN (ns ms:List Int):D:=.tup [ap ns,ap ms]
section
variable {X:Cx}
end
abbrev DSt:=List (Option D)
abbrev Own:=Addr → Option (Nat × List Nat)
mutual
def Sep (G H:Hp) (O:Own) (i:Nat):D → List Nat → V → Prop
  | .non,_,v => v = .non
  | .bl b,_,v => v = .bl b
  | .int n,_,v => v = .int n
  | .str x,_,v => v = .str x
  | .tup ds,π,v => ∃ a xs,v = .ref a ∧ G a = some (.tup xs) ∧ Seps G H O i ds 0 π xs
  | .lst ds,π,v => ∃ a xs,v = .ref a ∧ O a = some (i,π) ∧ H a = some (.lst xs) ∧ Seps G H O i ds 0 π xs
  | .dct,_,_ => False
  | .dic ks ds,π,v => ∃ a xs,v = .ref a ∧ O a = some (i,π) ∧ H a = some (.dK (ks.zip xs)) ∧ ks.length = ds.length ∧ Seps G H O i ds 0 π xs
  | .scr _ _,_,_ => False
  | .ext _,_,_ => False
def Seps (G H:Hp) (O:Own) (i:Nat):List D → Nat → List Nat → List V → Prop
  | [],_,_,xs => xs = []
  | d :: ds,k,π,xs => ∃ v vs,xs = v :: vs ∧ Sep G H O i d (k :: π) v ∧ Seps G H O i ds (k + 1) π vs
end
def cY (G G':Hp):Prop:=∀ a xs,G a = some (.tup xs) → G' a = some (.tup xs)
theorem aR.ts {G G':Hp} (h:aR G G'):cY G G':=fun a xs e => h a _ e
mutual
theorem Sep.map {G H G' H':Hp} {O O':Own} {i i':Nat} {f:List Nat → List Nat} (hG:cY G G') (hf:∀ k π,f (k :: π) = k :: f π) :
    ∀ (d:D) (π:List Nat) (v:V),(∀ a τ,O a = some (i,τ ++ π) → O' a = some (i',f (τ ++ π)) ∧ H' a = H a) → Sep G H O i d π v → Sep G' H' O' i' d (f π) v
  | .non,_,_,_,h => by rw [Sep] at *; exact h
  | .bl b,_,_,_,h => by rw [Sep] at *; exact h
  | .int n,_,_,_,h => by rw [Sep] at *; exact h
  | .str x,_,_,_,h => by rw [Sep] at *; exact h
  | .tup ds,π,v,hO,h => by
    rw [Sep] at *
    obtain ⟨a,xs,h1,h2,h3⟩:=h
    exact ⟨a,xs,h1,hG _ _ h2,Seps.map hG hf ds 0 π xs (fun a τ _ => hO a τ) h3⟩
  | .lst ds,π,v,hO,h => by
    rw [Sep] at *
    obtain ⟨a,xs,h1,h2,h3,h4⟩:=h
    have q:=hO a [] h2
    exact ⟨a,xs,h1,q.1,q.2.trans h3,Seps.map hG hf ds 0 π xs (fun a τ _ => hO a τ) h4⟩
  | .dic ks ds,π,v,hO,h => by
    rw [Sep] at *
    obtain ⟨a,xs,h1,h2,h3,h5,h4⟩:=h
    have q:=hO a [] h2
    exact ⟨a,xs,h1,q.1,q.2.trans h3,h5,Seps.map hG hf ds 0 π xs (fun a τ _ => hO a τ) h4⟩
  | .dct,_,_,_,h => by rw [Sep] at h; exact h.elim
  | .scr _ _,_,_,_,h => by rw [Sep] at h; exact h.elim
  | .ext _,_,_,_,h => by rw [Sep] at h; exact h.elim
theorem Seps.map {G H G' H':Hp} {O O':Own} {i i':Nat} {f:List Nat → List Nat} (hG:cY G G') (hf:∀ k π,f (k :: π) = k :: f π) :
    ∀ (ds:List D) (k:Nat) (π:List Nat) (xs:List V),(∀ a τ,τ ≠ [] → O a = some (i,τ ++ π) → O' a = some (i',f (τ ++ π)) ∧ H' a = H a) → Seps G H O i ds k π xs → Seps G' H' O' i' ds k (f π) xs
  | [],_,_,_,_,h => by rw [Seps] at *; exact h
  | d :: ds,k,π,xs,hO,h => by
    rw [Seps] at *
    obtain ⟨v,vs,h1,h2,h3⟩:=h
    refine ⟨v,vs,h1,?_,Seps.map hG hf ds (k + 1) π vs hO h3⟩
    rw [← hf]
    refine Sep.map hG hf d (k :: π) v (fun a τ e => ?_) h2
    have e' : τ ++ k :: π = (τ ++ [k]) ++ π:=by simp
    rw [e'] at e ⊢
    exact hO a (τ ++ [k]) (by simp) e
end
theorem Sep.keep {G H G' H':Hp} {O O':Own} {i i':Nat} {d:D} {π:List Nat} {v:V} (hG:cY G G') (hO:∀ a τ,O a = some (i,τ ++ π) → O' a = some (i',τ ++ π) ∧ H' a = H a) (h:Sep G H O i d π v):Sep G' H' O' i' d π v :=
  Sep.map (f:=id) hG (fun _ _ => rfl) d π v hO h
theorem Seps.keep {G H G' H':Hp} {O O':Own} {i i':Nat} {ds:List D} {k:Nat} {π:List Nat} {xs:List V} (hG:cY G G') (hO:∀ a τ,τ ≠ [] → O a = some (i,τ ++ π) → O' a = some (i',τ ++ π) ∧ H' a = H a) (h:Seps G H O i ds k π xs):Seps G' H' O' i' ds k π xs :=
  Seps.map (f:=id) hG (fun _ _ => rfl) ds k π xs hO h
mutual
theorem Sep.rep {G H G':Hp} {O:Own} {i:Nat} (hG:cY G G'):∀ (d:D) (π:List Nat) (v:V),(∀ a τ (o:HO),O a = some (i,τ ++ π) → H a = some o → G' a = some o) → Sep G H O i d π v → Rep G' d v
  | .non,_,_,_,h => by rw [Sep] at h; rw [Rep]; exact h
  | .bl b,_,_,_,h => by rw [Sep] at h; rw [Rep]; exact h
  | .int n,_,_,_,h => by rw [Sep] at h; rw [Rep]; exact h
  | .str x,_,_,_,h => by rw [Sep] at h; rw [Rep]; exact h
  | .tup ds,π,v,hO,h => by
    rw [Sep] at h; rw [Rep]
    obtain ⟨a,xs,h1,h2,h3⟩:=h
    exact ⟨a,xs,h1,hG _ _ h2,Seps.rep hG ds 0 π xs (fun a τ ys _ => hO a τ ys) h3⟩
  | .lst ds,π,v,hO,h => by
    rw [Sep] at h; rw [Rep]
    obtain ⟨a,xs,h1,h2,h3,h4⟩:=h
    exact ⟨a,xs,h1,hO a [] _ h2 h3,Seps.rep hG ds 0 π xs (fun a τ ys _ => hO a τ ys) h4⟩
  | .dic ks ds,π,v,hO,h => by
    rw [Sep] at h; rw [Rep]
    obtain ⟨a,xs,h1,h2,h3,h5,h4⟩:=h
    exact ⟨a,xs,h1,hO a [] _ h2 h3,h5,Seps.rep hG ds 0 π xs (fun a τ ys _ => hO a τ ys) h4⟩
  | .dct,_,_,_,h => by rw [Sep] at h; exact h.elim
  | .scr _ _,_,_,_,h => by rw [Sep] at h; exact h.elim
  | .ext _,_,_,_,h => by rw [Sep] at h; exact h.elim
theorem Seps.rep {G H G':Hp} {O:Own} {i:Nat} (hG:cY G G'):∀ (ds:List D) (k:Nat) (π:List Nat) (xs:List V),(∀ a τ (o:HO),τ ≠ [] → O a = some (i,τ ++ π) → H a = some o → G' a = some o) → Seps G H O i ds k π xs → Reps G' ds xs
  | [],_,_,_,_,h => by rw [Seps] at h; rw [Reps]; exact h
  | d :: ds,k,π,xs,hO,h => by
    rw [Seps] at h; rw [Reps]
    obtain ⟨v,vs,h1,h2,h3⟩:=h
    refine ⟨v,vs,h1,Sep.rep hG d (k :: π) v (fun a τ ys e q => ?_) h2,Seps.rep hG ds (k + 1) π vs hO h3⟩
    have e' : τ ++ k :: π = (τ ++ [k]) ++ π:=by simp
    rw [e'] at e
    exact hO a (τ ++ [k]) ys (by simp) e q
end
mutual
def imm:D → Bool
  | .tup ds => imms ds
  | .lst _ => false
  | .dct => false
  | .dic _ _ => false
  | .scr _ _ => false
  | .ext _ => false
  | _ => true
def imms:List D → Bool
  | [] => true
  | d :: ds => imm d && imms ds
end
mutual
theorem Rep.sep {G H:Hp} {O:Own} {i:Nat}:∀ (d:D) (π:List Nat) (v:V),imm d = true → Rep G d v → Sep G H O i d π v
  | .non,_,_,_,h => by rw [Rep] at h; rw [Sep]; exact h
  | .bl b,_,_,_,h => by rw [Rep] at h; rw [Sep]; exact h
  | .int n,_,_,_,h => by rw [Rep] at h; rw [Sep]; exact h
  | .str x,_,_,_,h => by rw [Rep] at h; rw [Sep]; exact h
  | .tup ds,π,v,hi,h => by
    rw [Rep] at h; rw [Sep]
    obtain ⟨a,xs,h1,h2,h3⟩:=h
    exact ⟨a,xs,h1,h2,Reps.sep ds 0 π xs (by rw [imm] at hi; exact hi) h3⟩
  | .lst ds,_,_,hi,_ => by rw [imm] at hi; cases hi
  | .dct,_,_,hi,_ => by rw [imm] at hi; cases hi
  | .dic _ _,_,_,hi,_ => by rw [imm] at hi; cases hi
  | .scr _ _,_,_,hi,_ => by rw [imm] at hi; cases hi
  | .ext _,_,_,hi,_ => by rw [imm] at hi; cases hi
theorem Reps.sep {G H:Hp} {O:Own} {i:Nat}:∀ (ds:List D) (k:Nat) (π:List Nat) (xs:List V),imms ds = true → Reps G ds xs → Seps G H O i ds k π xs
  | [],_,_,_,_,h => by rw [Reps] at h; rw [Seps]; exact h
  | d :: ds,k,π,xs,hi,h => by
    rw [Reps] at h; rw [Seps]
    rw [imms,Bool.and_eq_true] at hi
    obtain ⟨v,vs,h1,h2,h3⟩:=h
    exact ⟨v,vs,h1,Rep.sep d (k :: π) v hi.1 h2,Reps.sep ds (k + 1) π vs hi.2 h3⟩
end
mutual
theorem Sep.imm {G H:Hp} {O:Own} {i:Nat}:∀ (d:D) (π:List Nat) (v:V),L2.imm d = true → Sep G H O i d π v → Rep G d v
  | .non,_,_,_,h => by rw [Sep] at h; rw [Rep]; exact h
  | .bl b,_,_,_,h => by rw [Sep] at h; rw [Rep]; exact h
  | .int n,_,_,_,h => by rw [Sep] at h; rw [Rep]; exact h
  | .str x,_,_,_,h => by rw [Sep] at h; rw [Rep]; exact h
  | .tup ds,π,v,hi,h => by
    rw [Sep] at h; rw [Rep]
    obtain ⟨a,xs,h1,h2,h3⟩:=h
    exact ⟨a,xs,h1,h2,Seps.imm ds 0 π xs (by rw [L2.imm] at hi; exact hi) h3⟩
  | .lst ds,_,_,hi,_ => by rw [L2.imm] at hi; cases hi
  | .dct,_,_,hi,_ => by rw [L2.imm] at hi; cases hi
  | .dic _ _,_,_,hi,_ => by rw [L2.imm] at hi; cases hi
  | .scr _ _,_,_,hi,_ => by rw [L2.imm] at hi; cases hi
  | .ext _,_,_,hi,_ => by rw [L2.imm] at hi; cases hi
theorem Seps.imm {G H:Hp} {O:Own} {i:Nat}:∀ (ds:List D) (k:Nat) (π:List Nat) (xs:List V),imms ds = true → Seps G H O i ds k π xs → Reps G ds xs
  | [],_,_,_,_,h => by rw [Seps] at h; rw [Reps]; exact h
  | d :: ds,k,π,xs,hi,h => by
    rw [Seps] at h; rw [Reps]
    rw [imms,Bool.and_eq_true] at hi
    obtain ⟨v,vs,h1,h2,h3⟩:=h
    exact ⟨v,vs,h1,Sep.imm d (k :: π) v hi.1 h2,Seps.imm ds (k + 1) π vs hi.2 h3⟩
end
mutual
theorem Rep.imms {G G':Hp} (hG:cY G G'):∀ (d:D) (v:V),L2.imm d = true → Rep G d v → Rep G' d v
  | .non,_,_,h => by rw [Rep] at *; exact h
  | .bl b,_,_,h => by rw [Rep] at *; exact h
  | .int n,_,_,h => by rw [Rep] at *; exact h
  | .str x,_,_,h => by rw [Rep] at *; exact h
  | .tup ds,v,hi,h => by
    rw [Rep] at *
    obtain ⟨a,xs,h1,h2,h3⟩:=h
    exact ⟨a,xs,h1,hG _ _ h2,Reps.imms hG ds xs (by rw [L2.imm] at hi; exact hi) h3⟩
  | .lst ds,_,hi,_ => by rw [L2.imm] at hi; cases hi
  | .dct,_,hi,_ => by rw [L2.imm] at hi; cases hi
  | .dic _ _,_,hi,_ => by rw [L2.imm] at hi; cases hi
  | .scr _ _,_,hi,_ => by rw [L2.imm] at hi; cases hi
  | .ext _,_,hi,_ => by rw [L2.imm] at hi; cases hi
theorem Reps.imms {G G':Hp} (hG:cY G G'):∀ (ds:List D) (xs:List V),L2.imms ds = true → Reps G ds xs → Reps G' ds xs
  | [],_,_,h => by rw [Reps] at *; exact h
  | d :: ds,xs,hi,h => by
    rw [Reps] at *
    rw [L2.imms,Bool.and_eq_true] at hi
    obtain ⟨v,vs,h1,h2,h3⟩:=h
    exact ⟨v,vs,h1,Rep.imms hG d v hi.1 h2,Reps.imms hG ds vs hi.2 h3⟩
end
theorem Seps.length {G H:Hp} {O:Own} {i:Nat}:∀ {ds:List D} {k:Nat} {π:List Nat} {xs:List V},Seps G H O i ds k π xs → xs.length = ds.length
  | [],_,_,_,h => by rw [Seps] at h; subst h; rfl
  | d :: ds,k,π,xs,h => by
    rw [Seps] at h
    obtain ⟨v,vs,rfl,_,h3⟩:=h
    simp [Seps.length h3]
abbrev WrO:=List V ⊕ List (Key × V)
def WrO.ho:WrO → HO
  | .inl xs => .lst xs
  | .inr kvs => .dK kvs
theorem WrO.ne {m:WrO} {xs:List V} (h:m.ho = .tup xs):False:=by cases m <;> cases h
structure Ctx where
  G:Hp
  H:Hp
  O:Own
  mu:List (Option V)
  np:Nat
def cn (G H:Hp) (O:Own):List (D × V) → Prop
  | [] => True
  | (d,v) :: r => Sep G H O (2 * r.length + 1) d [] v ∧ cn G H O r
def Nw (C:Ctx) (a:Addr) (l:Nat):Prop:=C.H a = none ∨ ∃ π,C.O a = some (l,π)
structure RO (C:Ctx) (ow:List Bool) (G:Hp) (ρ:DSt) (σ:St) (H:Hp) (pd:List (D × V)) (O:Own):Prop where
  len : ρ.length = σ.length
  gh:aR G H
  g0:aR C.G G
  gn:∀ a o,G a = some o → C.G a = some o ∨ C.H a = none
  og:∀ a l,O a = some l → G a = none ∧ (∃ xs:WrO,H a = some xs.ho) ∧ Nw C a l.1
  cok:∀ a l π,C.O a = some (l,π) → (∃ (i:Nat) (v:V),l = 2 * i ∧ C.mu[i]? = some (some v)) ∨ ∃ j,l = 2 * j + 1 ∧ j < C.np
  fr:∀ a o,C.H a = some o → C.O a = none → H a = some o
  al:∀ a,H a = none → C.H a = none
  mp:∀ (i:Nat) v,C.mu[i]? = some (some v) → σ[i]? = some (some v)
  sl:∀ (i:Nat) d,ρ[i]? = some (some d) → ∃ v,σ[i]? = some (some v) ∧ if ow[i]? = some true then Sep G H O (2 * i) d [] v else Rep G d v
  pn:cn G H O pd
  np:C.np ≤ pd.length
def R (C:Ctx) (ow:List Bool) (G:Hp) (ρ:DSt) (σ:St) (H:Hp) (pd:List (D × V)):Prop:=∃ O,RO C ow G ρ σ H pd O
theorem cn.keep {G H G' H':Hp} {O O':Own} (hG:cY G G'):∀ {pd:List (D × V)},(∀ a j π,j < pd.length → O a = some (2 * j + 1,π) → O' a = some (2 * j + 1,π) ∧ H' a = H a) → cn G H O pd → cn G' H' O' pd
  | [],_,_ => trivial
  | (d,v) :: r,hO,⟨h1,h2⟩ => ⟨h1.keep hG fun a τ e => hO a r.length _ (by simp) e,cn.keep hG (fun a j π hj => hO a j π (by simp; omega)) h2⟩
section
variable {C:Ctx} {ow:List Bool} {G:Hp} {ρ:DSt} {σ:St} {H:Hp} {pd:List (D × V)} {O:Own}
theorem RO.new (h:RO C ow G ρ σ H pd O) {p:Addr} (hp:H p = none) (o:HO):RO C ow (upd G p o) ρ σ (upd H p o) pd O ∧ aR G (upd G p o):=by
  have gp:G p = none:=by
    cases e:G p with
    | none => rfl
    | some z => rw [h.gh _ _ e] at hp; cases hp
  have sG:=ql gp o
  have ne:∀ a l,O a = some l → a ≠ p:=fun a l e z => by
    obtain ⟨_,⟨xs,q⟩,_⟩:=h.og a l e
    rw [z,hp] at q; cases q
  refine ⟨⟨h.len,?_,fun a u e => sG _ _ (h.g0 a u e),?_,?_,h.cok,?_,?_,h.mp,?_,?_,h.np⟩,sG⟩
  · intro a u e
    by_cases z:a = p
    · subst z; rw [aW] at e ⊢; exact e
    · rw [ax z] at e ⊢; exact h.gh _ _ e
  · intro a u e
    by_cases z:a = p
    · subst z; exact .inr (h.al _ hp)
    · rw [ax z] at e; exact h.gn a u e
  · intro a l e
    have z:=ne a l e
    rw [ax z,ax z]
    exact h.og a l e
  · intro a u e n
    rw [ax (av (h.fr a u e n) hp)]
    exact h.fr a u e n
  · intro a e
    by_cases z:a = p
    · subst z; rw [aW] at e; cases e
    · rw [ax z] at e; exact h.al a e
  · intro i d e
    obtain ⟨v,h1,h2⟩:=h.sl i d e
    refine ⟨v,h1,?_⟩
    split at h2
    · rename_i c; rw [if_pos c]; exact h2.keep sG.ts fun a τ q => ⟨q,ax (ne a _ q)⟩
    · rename_i c; rw [if_neg c]; exact h2.mono sG
  · exact cn.keep sG.ts (fun a j π _ q => ⟨q,ax (ne a _ q)⟩) h.pn
theorem RO.newL (h:RO C ow G ρ σ H pd O) {p:Addr} (hp:H p = none) {xs:List V} {ds:List D} (hi:imms ds = true) (hr:Reps G ds xs) :
    R C ow G ρ σ (upd H p (.lst xs)) ((.lst ds,.ref p) :: pd):=by
  have gp:G p = none:=by
    cases e:G p with
    | none => rfl
    | some z => rw [h.gh _ _ e] at hp; cases hp
  have ne:∀ a l,O a = some l → a ≠ p:=fun a l e z => by
    obtain ⟨_,⟨xs,q⟩,_⟩:=h.og a l e
    rw [z,hp] at q; cases q
  let O':Own:=fun a => if a = p then some (2 * pd.length + 1,[]) else O a
  have old:∀ a l,O a = some l → O' a = some l:=fun a l e => by
    show (if a = p then _ else _) = _
    rw [if_neg (ne a _ e),e]
  refine ⟨O',h.len,?_,h.g0,h.gn,?_,h.cok,?_,?_,h.mp,?_,⟨?_,?_⟩,Nat.le_succ_of_le h.np⟩
  · intro a u e
    rw [ax (fun z => by rw [z,gp] at e; cases e)]
    exact h.gh _ _ e
  · intro a l e
    by_cases z:a = p
    · subst z; exact ⟨gp,⟨.inl xs,aW⟩,.inl (h.al _ hp)⟩
    · rw [ax z]
      change (if a = p then _ else _) = _ at e
      rw [if_neg z] at e
      exact h.og a _ e
  · intro a u e n
    rw [ax (av (h.fr a u e n) hp)]
    exact h.fr a u e n
  · intro a e
    by_cases z:a = p
    · subst z; rw [aW] at e; cases e
    · rw [ax z] at e; exact h.al a e
  · intro i d e
    obtain ⟨v,h1,h2⟩:=h.sl i d e
    refine ⟨v,h1,?_⟩
    split at h2
    · rename_i c; rw [if_pos c]; exact h2.keep (fun _ _ z => z) fun a τ q => ⟨old a _ q,ax (ne a _ q)⟩
    · rename_i c; rw [if_neg c]; exact h2
  · rw [Sep]
    exact ⟨p,xs,rfl,by show (if p = p then _ else _) = _; rw [if_pos rfl],aW,hr.sep ds 0 [] xs hi⟩
  · exact cn.keep (fun _ _ z => z) (fun a j π hj q => ⟨old a _ q,ax (ne a _ q)⟩) h.pn
end
theorem Seps.snoc {G H:Hp} {O:Own} {i:Nat} {d:D} {v:V}:∀ {ds:List D} {k:Nat} {π:List Nat} {xs:List V},Seps G H O i ds k π xs → Sep G H O i d ((k + ds.length) :: π) v → Seps G H O i (ds ++ [d]) k π (xs ++ [v])
  | [],k,π,xs,h,hd => by rw [Seps] at h; subst h; show Seps _ _ _ _ [d] _ _ [v]; rw [Seps]; exact ⟨v,[],rfl,by simpa using hd,by rw [Seps]⟩
  | e :: ds,k,π,xs,h,hd => by
    rw [Seps] at h
    obtain ⟨u,us,rfl,h2,h3⟩:=h
    show Seps _ _ _ _ (e :: (ds ++ [d])) _ _ (u :: (us ++ [v]))
    rw [Seps]
    refine ⟨u,us ++ [v],rfl,h2,Seps.snoc h3 ?_⟩
    have:k + 1 + ds.length = k + (e :: ds).length:=by simp; omega
    rw [this]; exact hd
theorem Seps.set {G H:Hp} {O:Own} {i:Nat} {d:D} {v:V}:∀ {ds:List D} {k:Nat} {π:List Nat} {xs:List V} {j:Nat},Seps G H O i ds k π xs → Sep G H O i d ((k + j) :: π) v → Seps G H O i (ds.set j d) k π (xs.set j v)
  | [],k,π,xs,j,h,hd => by rw [Seps] at h; subst h; simp; rw [Seps]
  | e :: ds,k,π,xs,0,h,hd => by
    rw [Seps] at h
    obtain ⟨u,us,rfl,h2,h3⟩:=h
    simp only [List.set_cons_zero]; rw [Seps]
    exact ⟨v,us,rfl,by simpa using hd,h3⟩
  | e :: ds,k,π,xs,j + 1,h,hd => by
    rw [Seps] at h
    obtain ⟨u,us,rfl,h2,h3⟩:=h
    simp only [List.set_cons_succ]; rw [Seps]
    refine ⟨u,_,rfl,h2,Seps.set h3 ?_⟩
    have:k + 1 + j = k + (j + 1):=by omega
    rw [this]; exact hd
theorem Seps.at {G H:Hp} {O:Own} {i:Nat} {d:D}:∀ {ds:List D} {k:Nat} {π:List Nat} {xs:List V} {j:Nat},Seps G H O i ds k π xs → ds[j]? = some d → ∃ v,xs[j]? = some v ∧ Sep G H O i d ((k + j) :: π) v
  | [],k,π,xs,j,h,e => by simp at e
  | e :: ds,k,π,xs,0,h,q => by
    rw [Seps] at h
    obtain ⟨u,us,rfl,h2,h3⟩:=h
    simp at q; subst q
    exact ⟨u,rfl,by simpa using h2⟩
  | e :: ds,k,π,xs,j + 1,h,q => by
    rw [Seps] at h
    obtain ⟨u,us,rfl,h2,h3⟩:=h
    obtain ⟨v,h4,h5⟩:=Seps.at (j:=j) h3 (by simpa using q)
    refine ⟨v,by simpa using h4,?_⟩
    have:k + 1 + j = k + (j + 1):=by omega
    rw [← this]; exact h5
section
variable {C:Ctx} {ow:List Bool} {G:Hp} {ρ:DSt} {σ:St} {H:Hp} {pd:List (D × V)} {O:Own}
theorem dZ {α:Type} {l:List (Option α)} {i j:Nat} {x:Option α} {d : α} (h:(l.set i x)[j]? = some (some d)):(j = i ∧ x = some d) ∨ (j ≠ i ∧ l[j]? = some (some d)):=by
  rw [List.getElem?_set] at h
  by_cases e:i = j
  · rw [if_pos e] at h
    split at h
    · exact .inl ⟨e.symm,Option.some.inj h⟩
    · cases h
  · rw [if_neg e] at h; exact .inr ⟨fun z => e z.symm,h⟩
theorem d9 {α:Type} {l:List (Option α)} {i:Nat} {x:Option α} (h:l[i]? = some x):i < l.length:=(List.getElem?_eq_some_iff.mp h).1
theorem RO.setS (h:RO C ow G ρ σ H pd O) {i:Nat} {d:D} {v:V} (hi:ow[i]? ≠ some true) (hm:∀ v,C.mu[i]? ≠ some (some v)) (r:Rep G d v):RO C ow G (ρ.set i (some d)) (σ.set i (some v)) H pd O:=by
  refine ⟨by simp [h.len],h.gh,h.g0,h.gn,h.og,h.cok,h.fr,h.al,?_,?_,h.pn,h.np⟩
  · intro j u e
    have:i ≠ j:=fun z => hm u (z ▸ e)
    rw [List.getElem?_set_ne this]
    exact h.mp j u e
  · intro j e q
    rcases dZ q with ⟨rfl,z⟩ | ⟨z,q'⟩
    · cases z
      have hl:j < σ.length:=by have:=d9 q; rw [List.length_set,h.len] at this; exact this
      exact ⟨v,by rw [List.getElem?_set_self hl],by rw [if_neg hi]; exact r⟩
    · obtain ⟨u,h1,h2⟩:=h.sl j e q'
      exact ⟨u,by rw [List.getElem?_set_ne (Ne.symm z)]; exact h1,h2⟩
def lab (f:Nat → List Nat → Nat × List Nat) (O:Own):Own:=fun a => (O a).map fun l => f l.1 l.2
theorem cf {f:Nat → List Nat → Nat × List Nat} {a:Addr} {l:Nat} {π:List Nat} (h:O a = some (l,π)):lab f O a = some (f l π):=by unfold lab; rw [h]; rfl
theorem ia {f:Nat → List Nat → Nat × List Nat} {a:Addr} {m:Nat × List Nat} (h:lab f O a = some m):∃ l π,O a = some (l,π) ∧ m = f l π:=by
  unfold lab at h
  cases e:O a with
  | none => rw [e] at h; cases h
  | some l => rw [e] at h; exact ⟨l.1,l.2,rfl,(Option.some.inj h).symm⟩
theorem cO {i j:Nat} : 2 * i ≠ 2 * j + 1:=by omega
theorem RO.setO {d:D} {v:V} (h:RO C ow G ρ σ H ((d,v) :: pd) O) {i:Nat} (hi:ow[i]? = some true) (hm:∀ v,C.mu[i]? ≠ some (some v)) (hn:C.np ≤ pd.length) :
    R C ow G (ρ.set i (some d)) (σ.set i (some v)) H pd:=by
  refine ⟨lab (fun l π => if l = 2 * pd.length + 1 then (2 * i,π) else (l,π)) O,by simp [h.len],h.gh,h.g0,h.gn,?_,h.cok,h.fr,h.al,?_,?_,?_,hn⟩
  · intro a m e
    obtain ⟨l,π,e1,rfl⟩:=ia e
    obtain ⟨q1,q2,q3⟩:=h.og a _ e1
    refine ⟨q1,q2,?_⟩
    try dsimp only
    split
    · rename_i z
      rcases q3 with q3 | ⟨_,q3⟩
      · exact .inl q3
      · rcases h.cok _ _ _ q3 with ⟨k,_,q4,_⟩ | ⟨k,q4,q5⟩
        · exact absurd (q4.symm.trans z) cO
        · omega
    · exact q3
  · intro j u e
    have:i ≠ j:=fun z => hm u (z ▸ e)
    rw [List.getElem?_set_ne this]
    exact h.mp j u e
  · intro j e q
    rcases dZ q with ⟨rfl,z⟩ | ⟨z,q'⟩
    · cases z
      have hl:j < σ.length:=by have:=d9 q; rw [List.length_set,h.len] at this; exact this
      refine ⟨v,by rw [List.getElem?_set_self hl],?_⟩
      rw [if_pos hi]
      exact h.pn.1.keep (fun _ _ z => z) fun a τ q => ⟨by rw [cf q,if_pos rfl],rfl⟩
    · obtain ⟨u,h1,h2⟩:=h.sl j e q'
      refine ⟨u,by rw [List.getElem?_set_ne (Ne.symm z)]; exact h1,?_⟩
      split at h2
      · rename_i c; rw [if_pos c]; exact h2.keep (fun _ _ z => z) fun a τ q => ⟨by rw [cf q,if_neg cO],rfl⟩
      · rename_i c; rw [if_neg c]; exact h2
  · exact cn.keep (fun _ _ z => z) (fun a j π hj q => ⟨by rw [cf q,if_neg (by omega)],rfl⟩) h.pn.2
theorem RO.move (h:RO C ow G ρ σ H pd O) {i:Nat} {d:D} (e : ρ[i]? = some (some d)) (hi:ow[i]? = some true) (hm:∀ v,C.mu[i]? ≠ some (some v)) :
    ∃ v,σ[i]? = some (some v) ∧ R C ow G (ρ.set i none) σ H ((d,v) :: pd):=by
  obtain ⟨v,hv,s⟩:=h.sl i d e
  rw [if_pos hi] at s
  refine ⟨v,hv,lab (fun l π => if l = 2 * i then (2 * pd.length + 1,π) else (l,π)) O,by simp [h.len],h.gh,h.g0,h.gn,?_,h.cok,h.fr,h.al,h.mp,?_,⟨?_,?_⟩,Nat.le_succ_of_le h.np⟩
  · intro a m e
    obtain ⟨l,π,e1,rfl⟩:=ia e
    obtain ⟨q1,q2,q3⟩:=h.og a _ e1
    refine ⟨q1,q2,?_⟩
    try dsimp only
    split
    · rename_i z
      rcases q3 with q3 | ⟨_,q3⟩
      · exact .inl q3
      · rcases h.cok _ _ _ q3 with ⟨k,u,q4,q5⟩ | ⟨k,q4,_⟩
        · have:k = i:=by have:=q4.symm.trans z; omega
          exact absurd (this ▸ q5) (hm u)
        · omega
    · exact q3
  · intro j e q
    rcases dZ q with ⟨rfl,z⟩ | ⟨z,q'⟩
    · cases z
    · obtain ⟨u,h1,h2⟩:=h.sl j e q'
      refine ⟨u,h1,?_⟩
      split at h2
      · rename_i c; rw [if_pos c]; exact h2.keep (fun _ _ z => z) fun a τ q => ⟨by rw [cf q,if_neg (by omega)],rfl⟩
      · rename_i c; rw [if_neg c]; exact h2
  · exact s.keep (fun _ _ z => z) fun a τ q => ⟨by rw [cf q,if_pos rfl],rfl⟩
  · exact cn.keep (fun _ _ z => z) (fun a j π hj q => ⟨by rw [cf q,if_neg (fun z => cO z.symm)],rfl⟩) h.pn
def hasL (O:Own) (l:Nat) (a:Addr):Bool:=match O a with
  | some m => m.1 == l
  | none => false
theorem fQ {l:Nat} {a:Addr}:hasL O l a = true ↔ ∃ π,O a = some (l,π):=by
  unfold hasL
  cases e:O a with
  | none => simp
  | some m => obtain ⟨m1,m2⟩:=m; simp
theorem RO.share {d:D} {v:V} (h:RO C ow G ρ σ H ((d,v) :: pd) O) (hn:C.np ≤ pd.length):∃ G',aR G G' ∧ R C ow G' ρ σ H pd ∧ Rep G' d v:=by
  let l₀:=2 * pd.length + 1
  let G':Hp:=fun a => if hasL O l₀ a = true then H a else G a
  have sG:aR G G':=fun a o e => by
    show (if _ then _ else _) = _
    split
    · exact h.gh _ _ e
    · exact e
  have inH:∀ a τ (o:HO),O a = some (l₀,τ) → H a = some o → G' a = some o:=fun a τ xs q e => by
    show (if _ then _ else _) = _
    rw [if_pos (fQ.mpr ⟨_,q⟩)]; exact e
  refine ⟨G',sG,⟨fun a => if hasL O l₀ a = true then none else O a,h.len,?_,fun a o e => sG _ _ (h.g0 _ _ e),?_,?_,h.cok,h.fr,h.al,h.mp,?_,?_,hn⟩,h.pn.1.rep sG.ts d [] v (fun a τ xs q e => inH a _ xs q e)⟩
  · intro a o e
    change (if _ then _ else _) = _ at e
    split at e
    · exact e
    · exact h.gh _ _ e
  · intro a o e
    change (if _ then _ else _) = _ at e
    split at e
    · rename_i c
      obtain ⟨π,q⟩:=fQ.mp c
      obtain ⟨_,_,q3⟩:=h.og a _ q
      rcases q3 with q3 | ⟨_,q3⟩
      · exact .inr q3
      · rcases h.cok _ _ _ q3 with ⟨k,_,q4,_⟩ | ⟨k,q4,q5⟩
        · exact absurd q4.symm cO
        · have q4' : 2 * pd.length + 1 = 2 * k + 1:=q4
          omega
    · exact h.gn a o e
  · intro a l e
    try dsimp only at e
    split at e
    · cases e
    · rename_i c
      obtain ⟨q1,q2,q3⟩:=h.og a l e
      exact ⟨by show (if _ then _ else _) = _; rw [if_neg c]; exact q1,q2,q3⟩
  · intro j e q
    obtain ⟨u,h1,h2⟩:=h.sl j e q
    refine ⟨u,h1,?_⟩
    split at h2
    · rename_i c; rw [if_pos c]
      refine h2.keep sG.ts fun a τ q => ⟨?_,rfl⟩
      rw [if_neg,q]
      intro z
      obtain ⟨π,z⟩:=fQ.mp z
      rw [q] at z
      have:=(Prod.mk.inj (Option.some.inj z)).1
      omega
    · rename_i c; rw [if_neg c]; exact h2.mono sG
  · refine cn.keep sG.ts (fun a j π hj q => ⟨?_,rfl⟩) h.pn.2
    rw [if_neg,q]
    intro z
    obtain ⟨π,z⟩:=fQ.mp z
    rw [q] at z
    have:=(Prod.mk.inj (Option.some.inj z)).1
    omega
theorem RO.write (h:RO C ow G ρ σ H pd O) {i:Nat} {ds:List D} (e : ρ[i]? = some (some (.lst ds))) (hi:ow[i]? = some true) :
    ∃ a xs,σ[i]? = some (some (.ref a)) ∧ H a = some (.lst xs) ∧ Seps G H O (2 * i) ds 0 [] xs ∧
      ∀ ds' xs',Seps G H O (2 * i) ds' 0 [] xs' → RO C ow G (ρ.set i (some (.lst ds'))) σ (upd H a (.lst xs')) pd O:=by
  obtain ⟨v,hv,s⟩:=h.sl i _ e
  rw [if_pos hi,Sep] at s
  obtain ⟨a,xs,rfl,hO,hH,hs⟩:=s
  refine ⟨a,xs,hv,hH,hs,fun ds' xs' hs' => ?_⟩
  obtain ⟨g0,_,nw⟩:=h.og a _ hO
  have ne:∀ b l π,O b = some (l,π) → (l ≠ 2 * i ∨ π ≠ []) → b ≠ a:=fun b l π q n z => by
    subst z
    rw [hO] at q
    obtain ⟨q1,q2⟩:=Prod.mk.inj (Option.some.inj q)
    rcases n with n | n
    · exact n q1.symm
    · exact n q2.symm
  refine ⟨by simp [h.len],?_,h.g0,h.gn,?_,h.cok,?_,?_,h.mp,?_,?_,h.np⟩
  · intro b o q
    rw [ax (fun z => by rw [z,g0] at q; cases q)]; exact h.gh _ _ q
  · intro b l q
    obtain ⟨q1,⟨ys,q2⟩,q3⟩:=h.og b l q
    refine ⟨q1,?_,q3⟩
    by_cases z:b = a
    · subst z; exact ⟨.inl _,aW⟩
    · rw [ax z]; exact ⟨ys,q2⟩
  · intro b o q n
    by_cases z:b = a
    · subst z
      rcases nw with nw | ⟨_,nw⟩
      · rw [nw] at q; cases q
      · rw [nw] at n; cases n
    · rw [ax z]; exact h.fr b o q n
  · intro b q
    by_cases z:b = a
    · subst z; rw [aW] at q; cases q
    · rw [ax z] at q; exact h.al b q
  · intro j u q
    rcases dZ q with ⟨rfl,z⟩ | ⟨z,q'⟩
    · cases z
      refine ⟨_,hv,?_⟩
      rw [if_pos hi,Sep]
      exact ⟨a,xs',rfl,hO,aW,hs'.keep (fun _ _ z => z) fun b τ hτ q => ⟨q,ax (ne b _ _ q (.inr (by simpa using hτ)))⟩⟩
    · obtain ⟨w,h1,h2⟩:=h.sl j u q'
      refine ⟨w,h1,?_⟩
      split at h2
      · rename_i c; rw [if_pos c]; exact h2.keep (fun _ _ z => z) fun b τ q => ⟨q,ax (ne b _ _ q (.inl (by omega)))⟩
      · rename_i c; rw [if_neg c]; exact h2
  · exact cn.keep (fun _ _ z => z) (fun b j π hj q => ⟨q,ax (ne b _ _ q (.inl (fun z => cO z.symm)))⟩) h.pn
theorem RO.join {d:D} {v:V} (h:RO C ow G ρ σ H ((d,v) :: pd) O) (i n:Nat) (hn:C.np ≤ pd.length) :
    ∃ O',RO C ow G ρ σ H pd O' ∧ Sep G H O' (2 * i) d [n] v ∧ ∀ (l:Nat) ds k π xs,l ≠ 2 * pd.length + 1 → Seps G H O l ds k π xs → Seps G H O' l ds k π xs:=by
  refine ⟨lab (fun l π => if l = 2 * pd.length + 1 then (2 * i,π ++ [n]) else (l,π)) O,⟨h.len,h.gh,h.g0,h.gn,?_,h.cok,h.fr,h.al,h.mp,?_,?_,hn⟩,?_,?_⟩
  · intro a m e
    obtain ⟨l,π,e1,rfl⟩:=ia e
    obtain ⟨q1,q2,q3⟩:=h.og a _ e1
    refine ⟨q1,q2,?_⟩
    try dsimp only
    split
    · rename_i z
      rcases q3 with q3 | ⟨_,q3⟩
      · exact .inl q3
      · rcases h.cok _ _ _ q3 with ⟨k,_,q4,_⟩ | ⟨k,q4,q5⟩
        · exact absurd (q4.symm.trans z) cO
        · omega
    · exact q3
  · intro j e q
    obtain ⟨u,h1,h2⟩:=h.sl j e q
    refine ⟨u,h1,?_⟩
    split at h2
    · rename_i c; rw [if_pos c]; exact h2.keep (fun _ _ z => z) fun a τ q => ⟨by rw [cf q,if_neg cO],rfl⟩
    · rename_i c; rw [if_neg c]; exact h2
  · exact cn.keep (fun _ _ z => z) (fun a j π hj q => ⟨by rw [cf q,if_neg (by omega)],rfl⟩) h.pn.2
  · exact Sep.map (f:=fun π => π ++ [n]) (fun _ _ z => z) (fun _ _ => rfl) d [] v (fun a τ q => ⟨by rw [cf q,if_pos rfl],rfl⟩) h.pn.1
  · intro l ds k π xs hl hs
    exact hs.keep (fun _ _ z => z) fun a τ _ q => ⟨by rw [cf q,if_neg hl],rfl⟩
end
def bor (js:List Nat) (ow:List Bool):List Bool:=ow.mapIdx fun j b => b && !js.contains j
theorem c9 {js:List Nat} {ow:List Bool} {j:Nat}:(bor js ow)[j]? = some true ↔ ow[j]? = some true ∧ js.contains j = false:=by
  unfold bor
  rw [List.getElem?_mapIdx]
  cases e:ow[j]? with
  | none => simp
  | some b => cases b <;> simp
def lT (ρ:DSt) (js:List Nat) (n l:Nat):Bool:=if l % 2 = 0 then (match ρ[l / 2]? with | some (some _) => !js.contains (l / 2) | _ => false) else decide (l / 2 < n)
def iD (js:List Nat) (l:Nat):Bool:=decide (l % 2 = 0) && js.contains (l / 2)
def df (f:Nat → Bool) (O:Own):Own:=fun a => match O a with
  | some m => if f m.1 = true then some m else none
  | none => none
theorem fG {f:Nat → Bool} {O:Own} {a:Addr} {m:Nat × List Nat} (h:O a = some m) (hf:f m.1 = true):df f O a = some m:=by unfold df; rw [h]; show (if _ then _ else _) = _; rw [if_pos hf]
theorem dA {f:Nat → Bool} {O:Own} {a:Addr} {m:Nat × List Nat} (h:df f O a = some m):O a = some m ∧ f m.1 = true:=by
  unfold df at h
  cases e:O a with
  | none => rw [e] at h; cases h
  | some n =>
    rw [e] at h
    change (if _ then _ else _) = _ at h
    split at h
    · rename_i c; cases h; exact ⟨rfl,c⟩
    · cases h
def isSm {α:Type}:Option α → Bool
  | some _ => true
  | none => false
section
variable {C:Ctx} {ow:List Bool} {G:Hp} {ρ:DSt} {σ:St} {H:Hp} {pd:List (D × V)} {O:Own}
def gBor (js:List Nat) (G H:Hp) (O:Own):Hp:=fun a => if isSm (df (iD js) O a) = true then H a else G a
def cBor (js:List Nat) (G H:Hp) (O:Own) (ρ:DSt) (σ:St) (n:Nat):Ctx:=⟨gBor js G H O,H,df (lT ρ js n) O,σ,n⟩
theorem ka (h:RO C ow G ρ σ H pd O) (js:List Nat):aR G (gBor js G H O):=fun a o e => by
  show (if _ then _ else _) = _
  split
  · exact h.gh _ _ e
  · exact e
theorem ku {α:Type} {o:Option α} (h:isSm o = true):∃ x,o = some x:=by cases o with | none => cases h | some x => exact ⟨x,rfl⟩
theorem RO.enter (h:RO C ow G ρ σ H pd O) (js:List Nat):RO (cBor js G H O ρ σ pd.length) (bor js ow) (gBor js G H O) ρ σ H pd (df (lT ρ js pd.length) O):=by
  have sG:=ka h js
  refine ⟨h.len,?_,fun _ _ e => e,fun _ _ e => .inl e,?_,?_,fun _ _ e _ => e,fun _ e => e,fun _ _ e => e,?_,?_,Nat.le_refl _⟩
  · intro a o e
    change (if _ then _ else _) = _ at e
    split at e
    · exact e
    · exact h.gh _ _ e
  · intro a l e
    obtain ⟨e1,e2⟩:=dA e
    obtain ⟨q1,q2,q3⟩:=h.og a l e1
    refine ⟨?_,q2,.inr ⟨l.2,e⟩⟩
    · show (if _ then _ else _) = _
      rw [if_neg]; exact q1
      intro z
      obtain ⟨m,z⟩:=ku z
      obtain ⟨z1,z2⟩:=dA z
      rw [e1] at z1; cases z1
      unfold iD at z2; unfold lT at e2
      simp only [Bool.and_eq_true,decide_eq_true_eq] at z2
      rw [if_pos z2.1] at e2
      split at e2
      · rw [z2.2] at e2; cases e2
      · cases e2
  · intro a l π e
    obtain ⟨e1,e2⟩:=dA e
    unfold lT at e2
    split at e2
    · rename_i c
      split at e2
      · rename_i d hd
        obtain ⟨v,hv,_⟩:=h.sl _ _ hd
        exact .inl ⟨l / 2,v,by omega,hv⟩
      · cases e2
    · exact .inr ⟨l / 2,by omega,of_decide_eq_true e2⟩
  · intro j d e
    obtain ⟨v,h1,h2⟩:=h.sl j d e
    refine ⟨v,h1,?_⟩
    by_cases c:ow[j]? = some true
    · rw [if_pos c] at h2
      by_cases c2:js.contains j = true
      · rw [if_neg (fun z => by rw [c9] at z; rw [c2] at z; exact absurd z.2 (by decide))]
        refine h2.rep sG.ts d [] v fun a τ xs q e => ?_
        show (if _ then _ else _) = _
        rw [if_pos]; exact e
        rw [fG q]; rfl
        unfold iD
        simp only [Bool.and_eq_true,decide_eq_true_eq]
        exact ⟨by omega,by rw [show 2 * j / 2 = j by omega]; exact c2⟩
      · rw [if_pos (c9.mpr ⟨c,by simpa using c2⟩)]
        refine h2.keep sG.ts fun a τ q => ⟨fG q ?_,rfl⟩
        unfold lT
        show (if 2 * j % 2 = 0 then _ else _) = _
        rw [if_pos (by omega),show 2 * j / 2 = j by omega,e]
        simp at c2 ⊢; exact c2
    · rw [if_neg c] at h2
      rw [if_neg (fun z => c (c9.mp z).1)]
      exact h2.mono sG
  · refine cn.keep sG.ts (fun a j π hj q => ⟨fG q ?_,rfl⟩) h.pn
    unfold lT
    show (if (2 * j + 1) % 2 = 0 then _ else _) = _
    rw [if_neg (by omega),show (2 * j + 1) / 2 = j by omega]
    simpa using hj
def Kp (ow:List Bool) (ρ ρ':DSt):Prop:=∀ (j:Nat),ow[j]? ≠ some true → ρ'[j]? = ρ[j]?
def ly (js:List Nat) (O:Own) (G2:Hp):Hp:=fun a => if isSm (df (iD js) O a) = true then none else G2 a
def uB (js:List Nat) (O O2:Own):Own:=fun a => match O2 a with
  | some l => some l
  | none => df (iD js) O a
theorem RO.leave (h:RO C ow G ρ σ H pd O) {js:List Nat} {G2:Hp} {ρ2:DSt} {H2:Hp} {pd2:List (D × V)} {O2:Own}
    (h2:RO (cBor js G H O ρ σ pd.length) (bor js ow) G2 ρ2 σ H2 pd2 O2) (kp:Kp (bor js ow) ρ ρ2) :
    RO C ow (ly js O G2) ρ2 σ H2 pd2 (uB js O O2) ∧ aR G (ly js O G2) ∧ cY G2 (ly js O G2):=by
  have sG:=ka h js
  have dm:∀ a m,df (iD js) O a = some m → O a = some m ∧ G a = none ∧ ∃ xs:WrO,H a = some xs.ho ∧ G2 a = some xs.ho:=fun a m e => by
    obtain ⟨e1,e2⟩:=dA e
    obtain ⟨q1,⟨xs,q2⟩,q3⟩:=h.og a m e1
    refine ⟨e1,q1,xs,q2,h2.g0 a _ ?_⟩
    show (if _ then _ else _) = _
    rw [if_pos (by rw [e]; rfl)]; exact q2
  have nd:∀ a,G a ≠ none → ¬ isSm (df (iD js) O a) = true:=fun a g z => by
    obtain ⟨m,z⟩:=ku z
    exact g (dm a m z).2.1
  have sG3:aR G (ly js O G2):=fun a o e => by
    show (if _ then _ else _) = _
    rw [if_neg (nd a (by rw [e]; simp))]
    exact h2.g0 a o (sG a o e)
  have ts:cY G2 (ly js O G2):=fun a xs e => by
    show (if _ then _ else _) = _
    rw [if_neg]; exact e
    intro z
    obtain ⟨m,z⟩:=ku z
    obtain ⟨_,_,ys,_,q⟩:=dm a m z
    rw [e] at q; exact (WrO.ne (Option.some.inj q).symm).elim
  have o2:∀ a l,O2 a = some l → uB js O O2 a = some l:=fun a l e => by show (match O2 a with | some l => some l | none => _) = _; rw [e]
  refine ⟨⟨h2.len,?_,fun a o e => sG3 _ _ (h.g0 _ _ e),?_,?_,h.cok,?_,fun a e => h.al a (h2.al a e),h.mp,?_,?_,Nat.le_trans h.np h2.np⟩,sG3,ts⟩
  · intro a o e
    change (if _ then _ else _) = _ at e
    split at e
    · cases e
    · exact h2.gh _ _ e
  · intro a o e
    change (if _ then _ else _) = _ at e
    split at e
    · cases e
    · rename_i c
      rcases h2.gn a o e with q | q
      · change (if _ then _ else _) = _ at q
        rw [if_neg c] at q
        exact h.gn a o q
      · exact .inr (h.al a q)
  · intro a l e
    change (match O2 a with | some l => some l | none => _) = _ at e
    cases q:O2 a with
    | some l' =>
      rw [q] at e; cases e
      obtain ⟨q1,q2,q3⟩:=h2.og a l q
      refine ⟨by show (if _ then _ else _) = _; split <;> first | rfl | exact q1,q2,?_⟩
      rcases q3 with q3 | ⟨q3,q4⟩
      · exact .inl (h.al a q3)
      · exact (h.og a _ (dA q4).1).2.2
    | none =>
      rw [q] at e
      change df (iD js) O a = some l at e
      obtain ⟨e1,q1,xs,q2,q3⟩:=dm a l e
      refine ⟨by show (if _ then _ else _) = _; rw [if_pos (by rw [e]; rfl)],⟨xs,h2.gh _ _ q3⟩,(h.og a l e1).2.2⟩
  · intro a o e n
    have q:=h.fr a o e n
    refine h2.fr a o q ?_
    show df _ O a = none
    cases z:df (lT ρ js pd.length) O a with
    | none => rfl
    | some m =>
      obtain ⟨z1,_⟩:=dA z
      obtain ⟨_,_,z3⟩:=h.og a m z1
      rcases z3 with z3 | ⟨_,z3⟩
      · rw [z3] at e; cases e
      · rw [z3] at n; cases n
  · intro j d e
    by_cases c:(bor js ow)[j]? = some true
    · obtain ⟨v,q1,q2⟩:=h2.sl j d e
      rw [if_pos c] at q2
      refine ⟨v,q1,?_⟩
      rw [if_pos (c9.mp c).1]
      exact q2.keep ts fun a τ q => ⟨o2 _ _ q,rfl⟩
    · rw [kp j c] at e
      obtain ⟨v,q1,q2⟩:=h.sl j d e
      refine ⟨v,q1,?_⟩
      by_cases c2:ow[j]? = some true
      · rw [if_pos c2] at q2 ⊢
        have hj:js.contains j = true:=by
          cases z:js.contains j with
          | true => rfl
          | false => exact absurd (c9.mpr ⟨c2,z⟩) c
        refine q2.keep sG3.ts fun a τ q => ?_
        have dd:df (iD js) O a = some (2 * j,τ ++ []):=fG q (by
          unfold iD
          simp only [Bool.and_eq_true,decide_eq_true_eq]
          exact ⟨by omega,by rw [show 2 * j / 2 = j by omega]; exact hj⟩)
        obtain ⟨_,_,xs,q4,q5⟩:=dm a _ dd
        refine ⟨?_,by rw [q4]; exact h2.gh _ _ q5⟩
        show (match O2 a with | some l => some l | none => _) = _
        cases z:O2 a with
        | some l => have:=(h2.og a l z).1; rw [q5] at this; cases this
        | none => exact dd
      · rw [if_neg c2] at q2 ⊢
        exact q2.mono sG3
  · exact cn.keep ts (fun a j π hj q => ⟨o2 _ _ q,rfl⟩) h2.pn
end
abbrev ME:=DSt → (D → DSt → Prop) → Prop
abbrev MT:=DSt → (Bool → DSt → Prop) → Prop
abbrev MA:=DSt → (List D → DSt → Prop) → Prop
def SE (ow:List Bool) (t:TE) (m:ME):Prop:=∀ (C:Ctx) (G:Hp) (ρ:DSt) (σ:St) (H:Hp) (pd:List (D × V)) (q:D → DSt → Prop) (Q:VK),R C ow G ρ σ H pd → m ρ q →
  (∀ d ρ' v G' H',q d ρ' → aR G G' → Kp ow ρ ρ' → R C ow G' ρ' σ H' pd → Rep G' d v → Q v H') → t σ H Q
def SF (ow:List Bool) (t:TE) (m:ME):Prop:=∀ (C:Ctx) (G:Hp) (ρ:DSt) (σ:St) (H:Hp) (pd:List (D × V)) (q:D → DSt → Prop) (Q:VK),R C ow G ρ σ H pd → m ρ q →
  (∀ d ρ' v G' H',q d ρ' → aR G G' → Kp ow ρ ρ' → R C ow G' ρ' σ H' ((d,v) :: pd) → Q v H') → t σ H Q
def STe (ow:List Bool) (t:TT) (m:MT):Prop:=∀ (C:Ctx) (G:Hp) (ρ:DSt) (σ:St) (H:Hp) (pd:List (D × V)) (q:Bool → DSt → Prop) (Q:Bool → Hp → Prop),R C ow G ρ σ H pd → m ρ q →
  (∀ b ρ' G' H',q b ρ' → aR G G' → Kp ow ρ ρ' → R C ow G' ρ' σ H' pd → Q b H') → t σ H Q
def SA (ow:List Bool) (n:Nat) (t:TA) (m:MA):Prop:=∀ (C:Ctx) (G:Hp) (ρ:DSt) (σ:St) (H:Hp) (pd:List (D × V)) (q:List D → DSt → Prop) (Q:List V → Hp → Prop),R C ow G ρ σ H pd → m ρ q →
  (∀ ds ρ' vs G' H',q ds ρ' → aR G G' → Kp ow ρ ρ' → R C ow G' ρ' σ H' pd → Reps G' ds vs → vs.length = n → Q vs H') → t σ H Q
structure QE (X:Cx) (ow:List Bool) (e:Expr) (m:ME):Prop where
  ex:∃ t,PE X e t ∧ SE ow t m
structure QF (X:Cx) (ow:List Bool) (e:Expr) (m:ME):Prop where
  ex:∃ t,PE X e t ∧ SF ow t m
structure QT (X:Cx) (ow:List Bool) (e:Expr) (m:MT):Prop where
  ex:∃ t,PT X e t ∧ STe ow t m
structure QW (X:Cx) (ow:List Bool) (e:Expr) (m:MT):Prop where
  ex:∃ t,PW X e t ∧ STe ow t m
structure QA (X:Cx) (ow:List Bool) (es:List Expr) (m:MA):Prop where
  ex:∃ t,PA X es t ∧ SA ow es.length t m
theorem Kp.refl {ow:List Bool} {ρ:DSt}:Kp ow ρ ρ:=fun _ _ => rfl
theorem Kp.trans {ow:List Bool} {ρ ρ1 ρ2:DSt} (a:Kp ow ρ ρ1) (b:Kp ow ρ1 ρ2):Kp ow ρ ρ2:=fun j h => (b j h).trans (a j h)
theorem R.gh {C:Ctx} {ow:List Bool} {G:Hp} {ρ:DSt} {σ:St} {H:Hp} {pd:List (D × V)} (h:R C ow G ρ σ H pd):aR G H:=let ⟨_,h⟩:=h; h.gh
theorem R.np {C:Ctx} {ow:List Bool} {G:Hp} {ρ:DSt} {σ:St} {H:Hp} {pd:List (D × V)} (h:R C ow G ρ σ H pd):C.np ≤ pd.length:=let ⟨_,h⟩:=h; h.np
section
variable {X:Cx} {ow:List Bool} {a b c e:Expr} {ma mb mc:ME} {pos:Pos}
def mVar (i:Nat):ME:=fun ρ q => match ρ[i]? with
  | some (some d) => q d ρ
  | _ => False
theorem aa (i:Nat) {x:Str} (hs:ow[i]? ≠ some true:=by decide) (hN:X.N[i]? = some x:=by rfl) (hv:Vis X.env.scope x:=by first | exact Or.inl rfl | exact Or.inr (Or.inl rfl) | exact Or.inr (Or.inr rfl)) (hd:(x == ("__debug__":Str)) = false:=by decide)
    (hcd:(x == ("__classdict__":Str)) = false:=by decide):QE X ow (.Name x pos) (mVar i):=⟨_,d6 hN hv hd hcd,fun C G ρ σ H pd q Q r h k => by
  unfold mVar at h
  split at h
  · rename_i d e
    obtain ⟨O,ro⟩:=r
    obtain ⟨v,h1,h2⟩:=ro.sl i d e
    rw [if_neg hs] at h2
    exact ⟨v,h1,k d ρ v G H h (aR.refl _) Kp.refl ⟨O,ro⟩ h2⟩
  · exact h.elim⟩
def mC (d:D):ME:=fun ρ q => q d ρ
theorem qe_c {v:V} {d:D} (h:PE X e (tC v)) (hr:∀ G,Rep G d v):QE X ow e (mC d):=⟨_,h,fun C G ρ σ H pd q Q r h k => k d ρ v G H h (aR.refl _) Kp.refl r (hr G)⟩
theorem ac {i j}:QE X ow (.Constant (.int i) j pos) (mC (.int i)):=qe_c pO fun _ => bq _
theorem ci {i j}:QE X ow (.Constant (.bool i) j pos) (mC (.bl i)):=qe_c pe_bl fun _ => cm _
theorem mP {j}:QE X ow (.Constant .none j pos) (mC .non):=qe_c vA fun _ => nF
theorem eR {x:Str} {i:Int} (hg:Gl X x) (hm:∃ t,X.mg x = some (.int i t)) (hd:(x == ("__debug__":Str)) = false:=by decide):QE X ow (.Name x pos) (mC (.int i)):=by
  obtain ⟨t,hm⟩:=hm
  exact qe_c (sZ (v:=.int i) hg hm ⟨t,rfl⟩ hd) fun _ => bq _
theorem kh {ta tb:TE} (ha:SE ow ta ma) (hb:SE ow tb mb) {C:Ctx} {G:Hp} {ρ:DSt} {σ:St} {H:Hp} {pd:List (D × V)} {f:D → D → DSt → Prop} {Q:V → V → Hp → Prop}
    (r:R C ow G ρ σ H pd) (h:ma ρ fun x ρ1 => mb ρ1 fun y ρ2 => f x y ρ2)
    (k:∀ dx dy ρ' x y G' H',f dx dy ρ' → aR G G' → Kp ow ρ ρ' → R C ow G' ρ' σ H' pd → Rep G' dx x → Rep G' dy y → Q x y H'):ta σ H fun x H1 => tb σ H1 fun y H2 => Q x y H2:=by
  refine ha C G ρ σ H pd _ _ r h fun dx ρ1 x G1 H1 h1 s1 k1 r1 p1 => ?_
  refine hb C G1 ρ1 σ H1 pd _ _ r1 h1 fun dy ρ2 y G2 H2 h2 s2 k2 r2 p2 => ?_
  exact k dx dy ρ2 x y G2 H2 h2 (s1.trans s2) (k1.trans k2) r2 (Rep.mono s2 _ _ p1) p2
def DOp (r:R2) (f:D → D → (D → Prop) → Prop):Prop:=∀ (G H:Hp) (x y:V) (dx dy:D) (q:D → Prop) (Q:VK),aR G H → Rep G dx x → Rep G dy y → f dx dy q → (∀ d v,q d → Rep G d v → Q v H) → r x y H Q
def mOp (f:D → D → (D → Prop) → Prop) (ma mb:ME):ME:=fun ρ q => ma ρ fun x ρ1 => mb ρ1 fun y ρ2 => f x y fun d => q d ρ2
theorem ol {r:R2} {f:D → D → (D → Prop) → Prop} {ta tb:TE} (hd:DOp r f) (ha:SE ow ta ma) (hb:SE ow tb mb):SE ow (tOp r ta tb) (mOp f ma mb):=fun C G ρ σ H pd q Q hr h k => by
  refine kh ha hb hr h fun dx dy ρ' x y G' H' hf s kp r' p1 p2 => ?_
  exact hd G' H' x y dx dy _ _ r'.gh p1 p2 hf fun d v hq p => k d ρ' v G' H' hq s kp r' p
theorem aw {op:Operator} {r:R2} {f:D → D → (D → Prop) → Prop} (ho:OpR X (binaryOp op) r) (hd:DOp r f) (ha:QE X ow a ma) (hb:QE X ow b mb):QE X ow (.BinOp a op b pos) (mOp f ma mb):=by
  obtain ⟨ta,pa,sa⟩:=ha; obtain ⟨tb,pb,sb⟩:=hb
  exact ⟨_,nX ho pa pb,ol hd sa sb⟩
theorem cU {op:CmpOp} {r:R2} {f:D → D → (D → Prop) → Prop} (ho:OpR X (compareOp op) r) (hd:DOp r f) (ha:QE X ow a ma) (hb:QE X ow b mb) (hm:behindInMarks op b = false):QE X ow (.Compare a [op] [b] pos) (mOp f ma mb):=by
  obtain ⟨ta,pa,sa⟩:=ha; obtain ⟨tb,pb,sb⟩:=hb
  exact ⟨_,tS ho pa pb hm,ol hd sa sb⟩
theorem ay {r:R2} {f:D → D → (D → Prop) → Prop} (ho:IxR X r) (hd:DOp r f) (ha:QE X ow a ma) (hb:QE X ow b mb) (hs:kD b):QE X ow (.Subscript a b pos) (mOp f ma mb):=by
  obtain ⟨ta,pa,sa⟩:=ha; obtain ⟨tb,pb,sb⟩:=hb
  exact ⟨_,t7 ho pa pb hs,ol hd sa sb⟩
def mB (m:ME):MT:=fun ρ q => m ρ fun d ρ' => match d with
  | .bl b => q b ρ'
  | _ => False
theorem cc {G:Hp} {b:Bool} {v:V} (h:Rep G (.bl b) v):v = .bl b:=by rw [Rep] at h; exact h
theorem aA {G:Hp} {b:Int} {v:V} (h:Rep G (.int b) v):v = .int b:=by rw [Rep] at h; exact h
theorem uo {t:TE} {m:ME} (h:SE ow t m):STe ow (ux t) (mB m):=fun C G ρ σ H pd q Q r hm k => by
  refine h C G ρ σ H pd _ _ r hm fun d ρ' v G' H' hq s kp r' p => ?_
  cases d with
  | bl b => exact ⟨b,cc p,k b ρ' G' H' hq s kp r'⟩
  | _ => exact hq.elim
theorem aV {op:CmpOp} {r:R2} {f:D → D → (D → Prop) → Prop} (ho:OpR X (compareOp op) r) (hd:DOp r f) (ha:QE X ow a ma) (hb:QE X ow b mb) (hm:behindInMarks op b = false):QT X ow (.Compare a [op] [b] pos) (mB (mOp f ma mb)):=by
  obtain ⟨ta,pa,sa⟩:=ha; obtain ⟨tb,pb,sb⟩:=hb
  exact ⟨_,tE ho pa pb hm,uo (ol hd sa sb)⟩
theorem a8 (h:QE X ow e ma) (he:∀ whole,isTrue e X.env whole = (do let v ← whole; standAt e.pos; holding [v] (truthy v)):=by intro _; rfl):QT X ow e (mB ma):=by
  obtain ⟨ta,pa,sa⟩:=h
  exact ⟨_,wQ pa he,uo sa⟩
def mTru (m:ME):MT:=fun ρ q => m ρ fun d ρ' => match d with
  | .bl b => q b ρ'
  | .lst ds => q (!ds.isEmpty) ρ'
  | .tup ds => q (!ds.isEmpty) ρ'
  | .int i => q (i != 0) ρ'
  | .non => q false ρ'
  | _ => False
theorem rl {α β:Type} {xs:List α} {ds:List β} (h:xs.length = ds.length):(!xs.isEmpty) = !ds.isEmpty:=by
  cases xs <;> cases ds <;> simp_all
theorem qH (h:QE X ow e ma) (he:∀ whole,isTrue e X.env whole = (do let v ← whole; standAt e.pos; holding [v] (truthy v)):=by intro _; rfl):QT X ow e (mTru ma):=by
  obtain ⟨ta,pa,sa⟩:=h
  refine ⟨_,rq pa he,fun C G ρ σ H pd q Q r hm k => ?_⟩
  refine sa C G ρ σ H pd _ _ r hm fun d ρ' v G' H' hq s kp r' p => ?_
  cases d with
  | bl b => exact ⟨b,by rw [cc p]; rfl,k b ρ' G' H' hq s kp r'⟩
  | int i => exact ⟨_,by rw [aA p]; rfl,k _ ρ' G' H' hq s kp r'⟩
  | non => exact ⟨_,by rw [Rep] at p; rw [p]; rfl,k _ ρ' G' H' hq s kp r'⟩
  | lst ds => rw [Rep] at p; obtain ⟨a,xs,rfl,h1,h2⟩:=p; exact ⟨_,.inl ⟨xs,SqL.of (r'.gh _ _ h1),(rl h2.length).symm⟩,k _ ρ' G' H' hq s kp r'⟩
  | tup ds => rw [Rep] at p; obtain ⟨a,xs,rfl,h1,h2⟩:=p; exact ⟨_,.inr (.inl ⟨xs,SqT.of (r'.gh _ _ h1),(rl h2.length).symm⟩),k _ ρ' G' H' hq s kp r'⟩
  | _ => exact hq.elim
def mIf {α:Type} (m:MT) (x y:DSt → (α → DSt → Prop) → Prop):DSt → (α → DSt → Prop) → Prop:=fun ρ q => m ρ fun b ρ1 => if b = true then x ρ1 q else y ρ1 q
def p0 (b:Bool):MT:=fun ρ q => q b ρ
theorem ul {t t1 t2:TT} {m m1 m2:MT} (h:STe ow t m) (h1:STe ow t1 m1) (h2:STe ow t2 m2):STe ow (fun σ H Q => t σ H fun c H1 => if c = true then t1 σ H1 Q else t2 σ H1 Q) (mIf m m1 m2):=fun C G ρ σ H pd q Q r hm k => by
  refine h C G ρ σ H pd _ _ r hm fun b ρ' G' H' hq s kp r' => ?_
  cases b with
  | true => rw [if_pos rfl] at hq ⊢; exact h1 C G' ρ' σ H' pd _ _ r' hq fun b ρ2 G2 H2 hq2 s2 kp2 r2 => k b ρ2 G2 H2 hq2 (s.trans s2) (kp.trans kp2) r2
  | false => rw [if_neg (by decide)] at hq ⊢; exact h2 C G' ρ' σ H' pd _ _ r' hq fun b ρ2 G2 H2 hq2 s2 kp2 r2 => k b ρ2 G2 H2 hq2 (s.trans s2) (kp.trans kp2) r2
theorem l4 (b:Bool):STe ow (fun _ H Q => Q b H) (p0 b):=fun C G ρ σ H pd q Q r hm k => k b ρ G H hm (aR.refl _) Kp.refl r
variable {mt mu mv:MT} {rest:List Expr}
theorem kU (h:QT X ow a mt):QW X ow (.BoolOp .And [a] pos) mt:=by obtain ⟨t,p,s⟩:=h; exact ⟨_,su p,s⟩
theorem cW (h:QT X ow a mt):QW X ow (.BoolOp .Or [a] pos) mt:=by obtain ⟨t,p,s⟩:=h; exact ⟨_,vO p,s⟩
theorem kF (h:QT X ow a mt) (h2:QW X ow (.BoolOp .And (b :: rest) pos) mu):QW X ow (.BoolOp .And (a :: b :: rest) pos) (mIf mt mu (p0 false)):=by
  obtain ⟨t,p,s⟩:=h; obtain ⟨t2,p2,s2⟩:=h2; exact ⟨_,vZ p p2,ul s s2 (l4 false)⟩
theorem eu (h:QT X ow a mt) (h2:QW X ow (.BoolOp .Or (b :: rest) pos) mu):QW X ow (.BoolOp .Or (a :: b :: rest) pos) (mIf mt (p0 true) mu):=by
  obtain ⟨t,p,s⟩:=h; obtain ⟨t2,p2,s2⟩:=h2; exact ⟨_,pw_or p p2,ul s (l4 true) s2⟩
theorem QW.qt (h:QW X ow e mt):QT X ow e mt:=by obtain ⟨t,p,s⟩:=h; exact ⟨_,p.pt,s⟩
def mNot (m:MT):MT:=fun ρ q => m ρ fun b ρ' => q (!b) ρ'
theorem bn (h:QT X ow a mt):QT X ow (.UnaryOp .Not a pos) (mNot mt):=by
  obtain ⟨t,p,s⟩:=h
  exact ⟨_,wU p,fun C G ρ σ H pd q Q r hm k => s C G ρ σ H pd _ _ r hm fun b ρ' G' H' hq s kp r' => k _ ρ' G' H' hq s kp r'⟩
def mV (m:MT):ME:=fun ρ q => m ρ fun b ρ' => q (.bl b) ρ'
theorem eH {op} (h:QE X ow a ma):QE X ow (.BoolOp op [a] pos) ma:=by obtain ⟨t,p,s⟩:=h; exact ⟨_,wj p,s⟩
theorem l5 (h:QE X ow a ma):QE X ow (.UnaryOp .Not a pos) (mV (mNot (mB ma))):=by
  obtain ⟨t,p,s⟩:=h
  refine ⟨_,uQ p,fun C G ρ σ H pd q Q r hm k => ?_⟩
  refine s C G ρ σ H pd _ _ r hm fun d ρ' v G' H' hq s kp r' p => ?_
  cases d with
  | bl b => exact ⟨b,cc p,k _ ρ' _ G' H' hq s kp r' (cm _)⟩
  | _ => exact hq.elim
theorem dX (h:QE X ow a ma) (h2:QE X ow (.BoolOp .And (b :: rest) pos) mb):QE X ow (.BoolOp .And (a :: b :: rest) pos) (mIf (mB ma) mb (mC (.bl false))):=by
  obtain ⟨t,p,s⟩:=h; obtain ⟨t2,p2,s2⟩:=h2
  refine ⟨_,wH p p2,fun C G ρ σ H pd q Q r hm k => ?_⟩
  refine s C G ρ σ H pd _ _ r hm fun d ρ' v G' H' hq s kp r' p => ?_
  cases d with
  | bl b =>
    refine ⟨b,cc p,?_⟩
    change (if b = true then _ else _) at hq
    cases b with
    | true => rw [if_pos rfl] at hq ⊢; exact s2 C G' ρ' σ H' pd _ _ r' hq fun d ρ2 v G2 H2 hq2 z2 kp2 r2 p2 => k d ρ2 v G2 H2 hq2 (s.trans z2) (kp.trans kp2) r2 p2
    | false => rw [if_neg (by decide)] at hq ⊢; exact k _ ρ' _ G' H' hq s kp r' (cm _)
  | _ => exact hq.elim
theorem qe_or (h:QE X ow a ma) (h2:QE X ow (.BoolOp .Or (b :: rest) pos) mb):QE X ow (.BoolOp .Or (a :: b :: rest) pos) (mIf (mB ma) (mC (.bl true)) mb):=by
  obtain ⟨t,p,s⟩:=h; obtain ⟨t2,p2,s2⟩:=h2
  refine ⟨_,pe_or p p2,fun C G ρ σ H pd q Q r hm k => ?_⟩
  refine s C G ρ σ H pd _ _ r hm fun d ρ' v G' H' hq s kp r' p => ?_
  cases d with
  | bl b =>
    refine ⟨b,cc p,?_⟩
    change (if b = true then _ else _) at hq
    cases b with
    | false => rw [if_neg (by decide)] at hq ⊢; exact s2 C G' ρ' σ H' pd _ _ r' hq fun d ρ2 v G2 H2 hq2 z2 kp2 r2 p2 => k d ρ2 v G2 H2 hq2 (s.trans z2) (kp.trans kp2) r2 p2
    | true => rw [if_pos rfl] at hq ⊢; exact k _ ρ' _ G' H' hq s kp r' (cm _)
  | _ => exact hq.elim
theorem pY (h:QT X ow c mt) (ha:QE X ow a ma) (hb:QE X ow b mb):QE X ow (.IfExp c a b pos) (mIf mt ma mb):=by
  obtain ⟨t,p,s⟩:=h; obtain ⟨t1,p1,s1⟩:=ha; obtain ⟨t2,p2,s2⟩:=hb
  refine ⟨_,rO p p1 p2,fun C G ρ σ H pd q Q r hm k => ?_⟩
  refine s C G ρ σ H pd _ _ r hm fun d ρ' G' H' hq s kp r' => ?_
  cases d with
  | true => rw [if_pos rfl] at hq ⊢; exact s1 C G' ρ' σ H' pd _ _ r' hq fun d ρ2 v G2 H2 hq2 z2 kp2 r2 p2 => k d ρ2 v G2 H2 hq2 (s.trans z2) (kp.trans kp2) r2 p2
  | false => rw [if_neg (by decide)] at hq ⊢; exact s2 C G' ρ' σ H' pd _ _ r' hq fun d ρ2 v G2 H2 hq2 z2 kp2 r2 p2 => k d ρ2 v G2 H2 hq2 (s.trans z2) (kp.trans kp2) r2 p2
theorem QF.qe (h:QF X ow e ma):QE X ow e ma:=by
  obtain ⟨t,p,s⟩:=h
  refine ⟨_,p,fun C G ρ σ H pd q Q r hm k => s C G ρ σ H pd _ _ r hm fun d ρ' v G' H' hq s kp r' => ?_⟩
  obtain ⟨O,r'⟩:=r'
  obtain ⟨G2,s2,r2,p2⟩:=r'.share r.np
  exact k d ρ' v G2 H' hq (s.trans s2) kp r2 p2
def mImm (m:ME):ME:=fun ρ q => m ρ fun d ρ' => imm d = true ∧ q d ρ'
theorem QE.qf (h:QE X ow e ma):QF X ow e (mImm ma):=by
  obtain ⟨t,p,s⟩:=h
  refine ⟨_,p,fun C G ρ σ H pd q Q r hm k => s C G ρ σ H pd _ _ r hm fun d ρ' v G' H' hq s kp r' p => ?_⟩
  obtain ⟨O,r'⟩:=r'
  exact k d ρ' v G' H' hq.2 s kp ⟨O,r'.len,r'.gh,r'.g0,r'.gn,r'.og,r'.cok,r'.fr,r'.al,r'.mp,r'.sl,⟨p.sep d [] v hq.1,r'.pn⟩,Nat.le_succ_of_le r'.np⟩
theorem l_ {js:List Nat} {ρ ρ':DSt} (h:Kp (bor js ow) ρ ρ'):Kp ow ρ ρ':=fun j n => h j fun z => n (c9.mp z).1
theorem QE.bor (js:List Nat) (h:QE X (bor js ow) e ma):QE X ow e (mImm ma):=by
  obtain ⟨t,p,s⟩:=h
  refine ⟨_,p,fun C G ρ σ H pd q Q r hm k => ?_⟩
  obtain ⟨O,r⟩:=r
  refine s _ _ ρ σ H pd _ _ ⟨_,r.enter js⟩ hm fun d ρ' v G' H' hq s kp r' p => ?_
  obtain ⟨O',r'⟩:=r'
  obtain ⟨r2,s2,ts⟩:=r.leave r' kp
  exact k d ρ' v _ H' hq.2 s2 (l_ kp) ⟨_,r2⟩ (p.imms ts d v hq.1)
theorem QF.bor (js:List Nat) (h:QF X (bor js ow) e ma):QF X ow e ma:=by
  obtain ⟨t,p,s⟩:=h
  refine ⟨_,p,fun C G ρ σ H pd q Q r hm k => ?_⟩
  obtain ⟨O,r⟩:=r
  refine s _ _ ρ σ H pd _ _ ⟨_,r.enter js⟩ hm fun d ρ' v G' H' hq s kp r' => ?_
  obtain ⟨O',r'⟩:=r'
  obtain ⟨r2,s2,ts⟩:=r.leave r' kp
  exact k d ρ' v _ H' hq s2 (l_ kp) ⟨_,r2⟩
theorem QT.bor (js:List Nat) (h:QT X (bor js ow) e mt):QT X ow e mt:=by
  obtain ⟨t,p,s⟩:=h
  refine ⟨_,p,fun C G ρ σ H pd q Q r hm k => ?_⟩
  obtain ⟨O,r⟩:=r
  refine s _ _ ρ σ H pd _ _ ⟨_,r.enter js⟩ hm fun d ρ' G' H' hq s kp r' => ?_
  obtain ⟨O',r'⟩:=r'
  obtain ⟨r2,s2,ts⟩:=r.leave r' kp
  exact k d ρ' _ H' hq s2 (l_ kp) ⟨_,r2⟩
def oz:MA:=fun ρ q => q [] ρ
def fo (m:ME) (r:MA):MA:=fun ρ q => m ρ fun d ρ1 => r ρ1 fun ds ρ2 => q (d :: ds) ρ2
variable {mr:MA} {es:List Expr}
theorem am:QA X ow [] oz:=⟨_,fw,fun C G ρ σ H pd q Q r h k => k [] ρ [] G H h (aR.refl _) Kp.refl r bS rfl⟩
theorem ae (ha:QE X ow e ma) (hr:QA X ow es mr) (hs:starEach (e :: es) X.env = (false,eval e X.env) :: starEach es X.env:=by rfl):QA X ow (e :: es) (fo ma mr):=by
  obtain ⟨t,p,s⟩:=ha; obtain ⟨t2,p2,s2⟩:=hr
  refine ⟨_,cD p p2 hs,fun C G ρ σ H pd q Q r hm k => ?_⟩
  refine s C G ρ σ H pd _ _ r hm fun d ρ' v G' H' hq z kp r' p => ?_
  refine s2 C G' ρ' σ H' pd _ _ r' hq fun ds ρ2 vs G2 H2 hq2 z2 kp2 r2 p2 hl => ?_
  exact k (d :: ds) ρ2 (v :: vs) G2 H2 hq2 (z.trans z2) (kp.trans kp2) r2 (bG (Rep.mono z2 _ _ p) p2) (by simp [hl])
def mTup (m:MA):ME:=fun ρ q => m ρ fun ds ρ' => q (.tup ds) ρ'
def mLst (m:MA):ME:=fun ρ q => m ρ fun ds ρ' => q (.lst ds) ρ'
def mLstI (m:MA):ME:=fun ρ q => m ρ fun ds ρ' => imms ds = true ∧ q (.lst ds) ρ'
theorem c_ {n:Nat} (h:n ≤ 1000):n ≤ sizeLine:=Nat.le_of_lt (cL h)
theorem bE {x1} (h:QA X ow es mr) (hl:es.length ≤ 1000:=by decide):QE X ow (.Tuple es x1 pos) (mTup mr):=by
  obtain ⟨t,p,s⟩:=h
  refine ⟨_,qj p,fun C G ρ σ H pd q Q r hm k => s C G ρ σ H pd _ _ r hm fun ds ρ' vs G' H' hq z kp r' p hn => ⟨c_ (by omega),fun a ha => ?_⟩⟩
  obtain ⟨O,r'⟩:=r'
  obtain ⟨r2,s2⟩:=r'.new ha (.tup vs)
  exact k _ ρ' _ _ _ hq (z.trans s2) kp ⟨O,r2⟩ (kN aW (Reps.mono s2 _ _ p))
theorem du (h:QA X ow es mr) (hl:es.length ≤ 1000:=by decide):QE X ow (.List es pos) (mLst mr):=by
  obtain ⟨t,p,s⟩:=h
  refine ⟨_,mM p,fun C G ρ σ H pd q Q r hm k => s C G ρ σ H pd _ _ r hm fun ds ρ' vs G' H' hq z kp r' p hn => ⟨c_ (by omega),fun a ha => ?_⟩⟩
  obtain ⟨O,r'⟩:=r'
  obtain ⟨r2,s2⟩:=r'.new ha (.lst vs)
  exact k _ ρ' _ _ _ hq (z.trans s2) kp ⟨O,r2⟩ (gK aW (Reps.mono s2 _ _ p))
theorem eD (h:QA X ow es mr) (hl:es.length ≤ 1000:=by decide):QF X ow (.List es pos) (mLstI mr):=by
  obtain ⟨t,p,s⟩:=h
  refine ⟨_,mM p,fun C G ρ σ H pd q Q r hm k => s C G ρ σ H pd _ _ r hm fun ds ρ' vs G' H' hq z kp r' p hn => ⟨c_ (by omega),fun a ha => ?_⟩⟩
  obtain ⟨O,r'⟩:=r'
  exact k _ ρ' _ _ _ hq.2 z kp (r'.newL ha hq.1 p)
def dW (r:List V → Hp → VK → Prop) (f:List D → (D → Prop) → Prop):Prop:=∀ (G H:Hp) (xs:List V) (ds:List D) (q:D → Prop) (Q:VK),aR G H → Reps G ds xs → f ds q → (∀ d v,q d → Rep G d v → Q v H) → r xs H Q
def mCB (f:List D → (D → Prop) → Prop) (m:MA):ME:=fun ρ q => m ρ fun ds ρ' => f ds fun d => q d ρ'
theorem ug {r:List V → Hp → VK → Prop} {f:List D → (D → Prop) → Prop} {t:TA} {n:Nat} (hd:dW r f) (s:SA ow n t mr):SE ow (tCB r t) (mCB f mr):=fun C G ρ σ H pd q Q hr hm k =>
  s C G ρ σ H pd _ _ hr hm fun ds ρ' vs G' H' hq z kp r' p hn => hd G' H' vs ds _ _ r'.gh p hq fun d v hq p => k d ρ' v G' H' hq z kp r' p
variable {x:Str} {p':Pos}
theorem aB {id:String} {r:List V → Hp → VK → Prop} {f:List D → (D → Prop) → Prop} (hc:cC X (.builtin id) r) (hd:dW r f) (hg:Gl X x) (hm:X.mg x = none) (hv:bootBuiltins x = some (.builtin id)) (ha:QA X ow (e :: es) mr) (hn:x ≠ "__name__":=by decide) (hdb:(x == ("__debug__":Str)) = false:=by decide)
    (he:starEach (e :: es) X.env = (false,eval e X.env) :: starEach es X.env:=by rfl) (hpl:(backTo pos (starEach es X.env)).any (·.1) = false:=by rfl):QE X ow (.Call (.Name x p') (e :: es) [] pos) (mCB f mr):=by
  obtain ⟨t,p,s⟩:=ha
  exact ⟨_,g8 hc hg hm hv p hn hdb he hpl,ug hd s⟩
theorem pL {id:String} {r:List V → Hp → VK → Prop} {f:List D → (D → Prop) → Prop} (hc:cC X (.type id) r) (hd:dW r f) (hg:Gl X x) (hm:X.mg x = none) (hv:bootBuiltins x = some (.type id)) (ha:QA X ow (e :: es) mr) (hn:x ≠ "__name__":=by decide) (hdb:(x == ("__debug__":Str)) = false:=by decide)
    (he:starEach (e :: es) X.env = (false,eval e X.env) :: starEach es X.env:=by rfl) (hpl:(backTo pos (starEach es X.env)).any (·.1) = false:=by rfl):QE X ow (.Call (.Name x p') (e :: es) [] pos) (mCB f mr):=by
  obtain ⟨t,p,s⟩:=ha
  exact ⟨_,jr hc hg hm hv p hn hdb he hpl,ug hd s⟩
end
def fI (g:Int → Int → Int):D → D → (D → Prop) → Prop:=fun a b q => match a,b with
  | .int i,.int j => q (.int (g i j))
  | _,_ => False
def fIC (C:Int → Int → Prop) (g:Int → Int → Int):D → D → (D → Prop) → Prop:=fun a b q => match a,b with
  | .int i,.int j => C i j ∧ q (.int (g i j))
  | _,_ => False
def fB (g:Int → Int → Bool):D → D → (D → Prop) → Prop:=fun a b q => match a,b with
  | .int i,.int j => q (.bl (g i j))
  | _,_ => False
theorem dI {g:Int → Int → Int}:DOp (rI0 fun i j => .int (g i j)) (fI g):=fun G H x y dx dy q Q s p1 p2 hf k => by
  unfold fI at hf
  split at hf
  · exact ⟨_,_,aA p1,aA p2,k _ _ hf (bq _)⟩
  · exact hf.elim
theorem dIC {C:Int → Int → Prop} {g:Int → Int → Int}:DOp (rI C fun i j => .int (g i j)) (fIC C g):=fun G H x y dx dy q Q s p1 p2 hf k => by
  unfold fIC at hf
  split at hf
  · exact ⟨_,_,aA p1,aA p2,hf.1,k _ _ hf.2 (bq _)⟩
  · exact hf.elim
theorem dB {g:Int → Int → Bool}:DOp (rI0 fun i j => .bl (g i j)) (fB g):=fun G H x y dx dy q Q s p1 p2 hf k => by
  unfold fB at hf
  split at hf
  · exact ⟨_,_,aA p1,aA p2,k _ _ hf (cm _)⟩
  · exact hf.elim
def eqD (a b:D):Bool:=PyData.eqv (toP a) (toP b)
def okD (a:D):Bool:=SeqAt.shaped (toP a)
def fEq:D → D → (D → Prop) → Prop:=fun a b q => match a,b with
  | .int i,.int j => q (.bl (decide (i = j)))
  | a,b => okD a = true ∧ okD b = true ∧ q (.bl (eqD a b))
def fNe:D → D → (D → Prop) → Prop:=fun a b q => match a,b with
  | .int i,.int j => q (.bl (!decide (i = j)))
  | a,b => okD a = true ∧ okD b = true ∧ q (.bl (!eqD a b))
theorem nE (i j:Int):eqD (.int i) (.int j) = decide (i = j):=by
  unfold eqD; rw [toP,toP,PyData.eqv]; first | rfl | (rw [Bool.beq_eq_decide_eq])
theorem gM (i:Int):okD (.int i) = true:=by unfold okD; rw [toP]; rfl
theorem dEq:DOp rEqD fEq:=fun G H x y dx dy q Q s p1 p2 hf k => by
  have main:okD dx = true ∧ okD dy = true ∧ q (.bl (eqD dx dy)):=by
    unfold fEq at hf
    split at hf
    · exact ⟨gM _,gM _,by rw [nE]; exact hf⟩
    · exact hf
  exact ⟨dx,dy,Rep.mono s _ _ p1,Rep.mono s _ _ p2,main.1,main.2.1,k _ _ main.2.2 (cm _)⟩
theorem dNe:DOp rNeD fNe:=fun G H x y dx dy q Q s p1 p2 hf k => by
  have main:okD dx = true ∧ okD dy = true ∧ q (.bl (!eqD dx dy)):=by
    unfold fNe at hf
    split at hf
    · exact ⟨gM _,gM _,by rw [nE]; exact hf⟩
    · exact hf
  exact ⟨dx,dy,Rep.mono s _ _ p1,Rep.mono s _ _ p2,main.1,main.2.1,k _ _ main.2.2 (cm _)⟩
def qV:D → Bool
  | .non => true
  | _ => false
theorem gA {G:Hp} {d:D} {v:V} (h:Rep G d v):decide (v = .non) = qV d:=by
  cases d <;> rw [Rep] at h
  case non => subst h; rfl
  case tup => obtain ⟨a,xs,rfl,_⟩:=h; rfl
  case lst => obtain ⟨a,xs,rfl,_⟩:=h; rfl
  case dct => obtain ⟨a,xs,rfl,_⟩:=h; rfl
  case dic => obtain ⟨a,xs,rfl,_⟩:=h; rfl
  case scr => obtain ⟨a,rfl,_⟩:=h; rfl
  case ext => obtain ⟨a,H0,rfl,_⟩:=h; rfl
  all_goals subst h; rfl
def fIsN:D → D → (D → Prop) → Prop:=fun a b q => match b with
  | .non => q (.bl (qV a))
  | _ => False
def ut:D → D → (D → Prop) → Prop:=fun a b q => match b with
  | .non => q (.bl (!qV a))
  | _ => False
theorem dIsN:DOp (fun x y H Q => y = .non ∧ Q (.bl (decide (x = .non))) H) fIsN:=fun G H x y dx dy q Q s p1 p2 hf k => by
  unfold fIsN at hf
  split at hf
  · rw [Rep] at p2; exact ⟨p2,by rw [gA p1]; exact k _ _ hf (cm _)⟩
  · exact hf.elim
theorem dNotN:DOp (fun x y H Q => y = .non ∧ Q (.bl (!decide (x = .non))) H) ut:=fun G H x y dx dy q Q s p1 p2 hf k => by
  unfold ut at hf
  split at hf
  · rw [Rep] at p2; exact ⟨p2,by rw [gA p1]; exact k _ _ hf (cm _)⟩
  · exact hf.elim
def fIsB:D → D → (D → Prop) → Prop:=fun a b q => match a,b with
  | .bl x,.bl y => q (.bl (x == y))
  | _,_ => False
def dF:D → Bool
  | .non => true
  | .bl _ => true
  | .int _ => true
  | .str _ => true
  | _ => false
def eqF:D → D → Bool
  | .non,.non => true
  | .bl a,.bl b => a == b
  | .bl a,.int b => (if a then 1 else 0) == b
  | .int a,.bl b => a == (if b then 1 else 0)
  | .int a,.int b => a == b
  | .str a,.str b => a == b
  | _,_ => false
def toV:D → V
  | .non => .non
  | .bl b => .bl b
  | .int i => .int i
  | .str x => .str x
  | _ => .non
theorem eP {G:Hp} {d:D} {v:V} (h:Rep G d v) (f:dF d = true):v = toV d:=by
  cases d <;> first | (rw [Rep] at h; exact h) | cases f
theorem sP:∀ {a b:D},dF a = true → dF b = true → eqV (toV a) (toV b) = eqF a b:=by
  intro a b f g
  cases a <;> cases b <;> first | rfl | exact absurd f Bool.false_ne_true | exact absurd g Bool.false_ne_true
theorem gu {d:D} (f:dF d = true):fi (toV d) = true:=by
  cases d <;> first | rfl | cases f
theorem dC {G:Hp}:∀ {ds:List D} {xs:List V},Reps G ds xs → ds.all dF = true → xs = ds.map toV
  | [],xs,h,_ => by rw [Reps] at h; subst h; rfl
  | d :: ds,xs,h,f => by
    rw [Reps] at h
    obtain ⟨v,vs,rfl,h1,h2⟩:=h
    rw [List.all_cons,Bool.and_eq_true] at f
    rw [eP h1 f.1,dC h2 f.2]; rfl
def inD (a:D) (ds:List D):Bool:=ds.any fun y => eqF y a
theorem kG {a:D} (f:dF a = true):∀ {ds:List D},ds.all dF = true → inV (toV a) (ds.map toV) = inD a ds
  | [],_ => rfl
  | d :: ds,g => by
    rw [List.all_cons,Bool.and_eq_true] at g
    have:=kG f g.2
    unfold inV inD at *
    rw [List.map_cons,List.any_cons,List.any_cons,sP g.1 f,this]
theorem g9:∀ {ds:List D},ds.all dF = true → (ds.map toV).all fi = true
  | [],_ => rfl
  | d :: ds,g => by
    rw [List.all_cons,Bool.and_eq_true] at g
    rw [List.map_cons,List.all_cons,gu g.1,g9 g.2]; rfl
def fIn (neg:Bool):D → D → (D → Prop) → Prop:=fun a b q => match b with
  | .lst ds => dF a = true ∧ ds.all dF = true ∧ q (.bl (if neg then !inD a ds else inD a ds))
  | .tup ds => dF a = true ∧ ds.all dF = true ∧ q (.bl (if neg then !inD a ds else inD a ds))
  | _ => False
theorem dIn {K:PySem.W.Frag} {neg:Bool}:DOp (rIn K neg) (fIn neg):=fun G H x y dx dy q Q s p1 p2 hf k => by
  unfold fIn at hf
  split at hf
  · rw [Rep] at p2
    obtain ⟨a,xs,rfl,h1,h2⟩:=p2
    obtain ⟨f1,f2,hq⟩:=hf
    refine ⟨a,xs,rfl,.inl (SqL.of (s _ _ h1)),?_,?_,?_⟩
    · rw [eP p1 f1]; exact gu f1
    · rw [dC h2 f2]; exact g9 f2
    · rw [eP p1 f1,dC h2 f2,kG f1 f2]; exact k _ _ hq (cm _)
  · rw [Rep] at p2
    obtain ⟨a,xs,rfl,h1,h2⟩:=p2
    obtain ⟨f1,f2,hq⟩:=hf
    refine ⟨a,xs,rfl,.inr (SqT.of (s _ _ h1)),?_,?_,?_⟩
    · rw [eP p1 f1]; exact gu f1
    · rw [dC h2 f2]; exact g9 f2
    · rw [eP p1 f1,dC h2 f2,kG f1 f2]; exact k _ _ hq (cm _)
  · exact hf.elim
def atD (ds:List D) (i:Int) (q:D → Prop):Prop:=match atI ds i with
  | some d => q d
  | none => False
def fIx (K:PySem.W.Frag):D → D → (D → Prop) → Prop:=fun a b q => match a,b with
  | .lst ds,.int i => atD ds i q
  | .tup ds,.int i => atD ds i q
  | .scr φ ns,.int i => (∀ a H,φ a → SqL K H a (ns.map V.int)) ∧ match atI ns i with
    | some n => q (.int n)
    | none => False
  | _,_ => False
theorem dS {G:Hp}:∀ {ds:List D} {xs:List V} {j:Nat} {d:D},Reps G ds xs → ds[j]? = some d → ∃ v,xs[j]? = some v ∧ Rep G d v
  | [],_,_,_,_,e => by simp at e
  | d :: ds,xs,0,e,h,q => by rw [Reps] at h; obtain ⟨v,vs,rfl,h1,_⟩:=h; simp at q; subst q; exact ⟨v,rfl,h1⟩
  | d :: ds,xs,j + 1,e,h,q => by
    rw [Reps] at h
    obtain ⟨v,vs,rfl,_,h2⟩:=h
    obtain ⟨u,e1,e2⟩:=dS (j:=j) h2 (by simpa using q)
    exact ⟨u,by simpa using e1,e2⟩
theorem lF {G:Hp} {ds:List D} {xs:List V} {i:Int} {d:D} (h:Reps G ds xs) (e:atI ds i = some d):∃ v,atI xs i = some v ∧ Rep G d v:=by
  unfold atI at *
  rw [h.length]
  cases q:ixN ds.length i with
  | none => rw [q] at e; cases e
  | some j => rw [q] at e; exact dS h e
theorem kA {α β:Type} {f : α → β} {xs:List α} {i:Int} {x : α} (h:atI xs i = some x):atI (xs.map f) i = some (f x):=by
  unfold atI at *
  rw [List.length_map]
  cases q:ixN xs.length i with
  | none => rw [q] at h; cases h
  | some j => rw [q] at h; rw [show (Option.some j).bind _ = (xs.map f)[j]? from rfl,List.getElem?_map,show xs[j]? = some x from h]; rfl
theorem dIx {K:PySem.W.Frag}:DOp (rIx K) (fIx K):=fun G H x y dx dy q Q s p1 p2 hf k => by
  unfold fIx at hf
  split at hf
  · rw [Rep] at p1
    obtain ⟨a,xs,rfl,h1,h2⟩:=p1
    unfold atD at hf
    split at hf
    · rename_i e
      obtain ⟨v,e1,e2⟩:=lF h2 e
      exact .inl ⟨a,xs,_,v,rfl,aA p2,SqL.of (s _ _ h1),e1,k _ _ hf e2⟩
    · exact hf.elim
  · rw [Rep] at p1
    obtain ⟨a,xs,rfl,h1,h2⟩:=p1
    unfold atD at hf
    split at hf
    · rename_i e
      obtain ⟨v,e1,e2⟩:=lF h2 e
      exact .inr (.inl ⟨a,xs,_,v,rfl,aA p2,SqT.of (s _ _ h1),e1,k _ _ hf e2⟩)
    · exact hf.elim
  · rw [Rep] at p1
    obtain ⟨a,rfl,h1⟩:=p1
    obtain ⟨hk,hf⟩:=hf
    split at hf
    · rename_i e
      refine .inl ⟨a,_,_,_,rfl,aA p2,?_,kA e,k _ _ hf (bq _)⟩
      rcases h1 with ⟨o,h1⟩ | h1
      · exact .inl (.inr ⟨o,s _ _ h1⟩)
      · exact hk a H h1
    · exact hf.elim
  · exact hf.elim
def fLen (K:PySem.W.Frag):List D → (D → Prop) → Prop:=fun ds q => match ds with
  | [.lst ds] => q (.int ds.length)
  | [.tup ds] => q (.int ds.length)
  | [.scr φ ns] => (∀ a H,φ a → SqL K H a (ns.map V.int)) ∧ q (.int ns.length)
  | _ => False
theorem bi {G:Hp} {ds:List D} {v:V} (h:Rep G (.lst ds) v):∃ a xs,v = .ref a ∧ G a = some (.lst xs) ∧ Reps G ds xs:=by rw [Rep] at h; exact h
theorem d4 {G:Hp} {ds:List D} {v:V} (h:Rep G (.tup ds) v):∃ a xs,v = .ref a ∧ G a = some (.tup xs) ∧ Reps G ds xs:=by rw [Rep] at h; exact h
theorem nu {G:Hp} {φ:Addr → Prop} {ns:List Int} {v:V} (h:Rep G (.scr φ ns) v):∃ a,v = .ref a ∧ ((∃ o,G a = some (.frz o (.lst (ns.map V.int)))) ∨ φ a):=by rw [Rep] at h; exact h
theorem bA {G:Hp} {d:D} {xs:List V} (h:Reps G [d] xs):∃ v,xs = [v] ∧ Rep G d v:=by
  rw [Reps] at h; obtain ⟨v,vs,rfl,h1,h2⟩:=h; rw [Reps] at h2; subst h2; exact ⟨v,rfl,h1⟩
theorem dg {G:Hp} {d e:D} {xs:List V} (h:Reps G [d,e] xs):∃ v u,xs = [v,u] ∧ Rep G d v ∧ Rep G e u:=by
  rw [Reps] at h; obtain ⟨v,vs,rfl,h1,h2⟩:=h; obtain ⟨u,rfl,h3⟩:=bA h2; exact ⟨v,u,rfl,h1,h3⟩
theorem c0 {K:PySem.W.Frag}:dW (fun xs H Q => ∃ p ys,xs = [.ref p] ∧ (SqL K H p ys ∨ SqT K H p ys) ∧ Q (.int ys.length) H) (fLen K):=fun G H xs ds q Q s p hf k => by
  unfold fLen at hf
  split at hf
  · obtain ⟨v,rfl,p1⟩:=bA p
    obtain ⟨a,xs,rfl,h1,h2⟩:=bi p1
    exact ⟨a,xs,rfl,.inl (SqL.of (s _ _ h1)),by rw [h2.length]; exact k _ _ hf (bq _)⟩
  · obtain ⟨v,rfl,p1⟩:=bA p
    obtain ⟨a,xs,rfl,h1,h2⟩:=d4 p1
    exact ⟨a,xs,rfl,.inr (SqT.of (s _ _ h1)),by rw [h2.length]; exact k _ _ hf (bq _)⟩
  · obtain ⟨v,rfl,p1⟩:=bA p
    obtain ⟨a,rfl,h1⟩:=nu p1
    rename_i φ ns
    have hS:SqL K H a (ns.map V.int):=by
      rcases h1 with ⟨o,h1⟩ | h1
      · exact .inl (.inr ⟨o,s _ _ h1⟩)
      · exact hf.1 a H h1
    exact ⟨a,_,rfl,.inl hS,by rw [List.length_map]; exact k _ _ hf.2 (bq _)⟩
  · exact hf.elim
def fMax:List D → (D → Prop) → Prop:=fun ds q => match ds with
  | [.int i,.int j] => q (.int (if j > i then j else i))
  | _ => False
def fMin:List D → (D → Prop) → Prop:=fun ds q => match ds with
  | [.int i,.int j] => q (.int (if j < i then j else i))
  | _ => False
theorem dMax:dW (fun xs H Q => ∃ i j,xs = [.int i,.int j] ∧ Q (.int (if j > i then j else i)) H) fMax:=fun G H xs ds q Q s p hf k => by
  unfold fMax at hf
  split at hf
  · obtain ⟨v,u,rfl,p1,p2⟩:=dg p
    rw [aA p1,aA p2]
    exact ⟨_,_,rfl,k _ _ hf (bq _)⟩
  · exact hf.elim
theorem qO:dW (fun xs H Q => ∃ i j,xs = [.int i,.int j] ∧ Q (.int (if j < i then j else i)) H) fMin:=fun G H xs ds q Q s p hf k => by
  unfold fMin at hf
  split at hf
  · obtain ⟨v,u,rfl,p1,p2⟩:=dg p
    rw [aA p1,aA p2]
    exact ⟨_,_,rfl,k _ _ hf (bq _)⟩
  · exact hf.elim
def uv:List D → (D → Prop) → Prop:=fun ds q => match ds with
  | [.int i] => q (.int i)
  | [.bl k] => q (.int (if k then 1 else 0))
  | _ => False
theorem dInt1:dW (fun xs H Q => (∃ i,xs = [.int i] ∧ Q (.int i) H) ∨ ∃ k,xs = [.bl k] ∧ Q (.int (if k then 1 else 0)) H) uv:=fun G H xs ds q Q s p hf k => by
  unfold uv at hf
  split at hf
  · obtain ⟨v,rfl,p1⟩:=bA p
    rw [aA p1]
    exact .inl ⟨_,rfl,k _ _ hf (bq _)⟩
  · obtain ⟨v,rfl,p1⟩:=bA p
    rw [cc p1]
    exact .inr ⟨_,rfl,k _ _ hf (bq _)⟩
  · exact hf.elim
section
variable {X:Cx} {ow:List Bool} {a b c e:Expr} {ma mb mc:ME} {pos:Pos} {mr:MA} {es:List Expr}
def mNeg (m:ME):ME:=fun ρ q => m ρ fun d ρ' => match d with
  | .int i => q (.int (-i)) ρ'
  | _ => False
theorem mG (h:QE X ow a ma):QE X ow (.UnaryOp .USub a pos) (mNeg ma):=by
  obtain ⟨t,p,s⟩:=h
  refine ⟨_,pe_un uX p,fun C G ρ σ H pd q Q r hm k => s C G ρ σ H pd _ _ r hm fun d ρ' v G' H' hq s kp r' p => ?_⟩
  cases d with
  | int i => exact ⟨i,aA p,k _ ρ' _ G' H' hq s kp r' (bq _)⟩
  | _ => exact hq.elim
def mIsT (T:String) (m:ME):ME:=fun ρ q => m ρ fun d ρ' => match o3 d T with
  | some b => q (.bl b) ρ'
  | none => False
theorem dh {T:String} {x y:Str} {p1 p2:Pos} (hg:Gl X x) (hm:X.mg x = none) (hv:bootBuiltins x = some (.builtin "isinstance")) (ha:QE X ow a ma) (ht:PE X (.Name y p2) (tC (.ty T)))
    (hn:x ≠ "__name__":=by decide) (hdb:(x == ("__debug__":Str)) = false:=by decide)
    (hs:starEach [.Name y p2] X.env = [(false,eval (.Name y p2) X.env)]:=by rfl)
    (he:starEach [a,.Name y p2] X.env = (false,eval a X.env) :: starEach [.Name y p2] X.env:=by rfl) (hpl:(backTo pos (starEach [.Name y p2] X.env)).any (·.1) = false:=by rfl) :
    QE X ow (.Call (.Name x p1) [a,.Name y p2] [] pos) (mIsT T ma):=by
  obtain ⟨t,p,s⟩:=ha
  refine ⟨_,g8 lO hg hm hv (cD p (cD ht fw hs) he) hn hdb he hpl,fun C G ρ σ H pd q Q r hm k => s C G ρ σ H pd _ _ r hm fun d ρ' v G' H' hq s kp r' p => ?_⟩
  cases e:o3 d T with
  | none => rw [e] at hq; exact hq.elim
  | some b => rw [e] at hq; exact ⟨v,T,d,b,rfl,Rep.mono r'.gh _ _ p,e,k _ ρ' _ G' H' hq s kp r' (cm _)⟩
def qp (f g:D → D → (D → Prop) → Prop) (ma mb mc:ME):ME:=fun ρ q => ma ρ fun x ρ1 => mb ρ1 fun y ρ2 => f x y fun z => match z with
  | .bl k => if k = true then mc ρ2 fun w ρ3 => g y w fun d => q d ρ3 else q (.bl false) ρ2
  | _ => False
theorem q_ {r r':R2} {f g:D → D → (D → Prop) → Prop} {ta tb tc:TE} (hf:DOp r f) (hg:DOp r' g) (ha:SE ow ta ma) (hb:SE ow tb mb) (hc:SE ow tc mc):SE ow (rN r r' ta tb tc) (qp f g ma mb mc):=fun C G ρ σ H pd q Q hr h k => by
  refine kh (Q:=fun x y H2 => r x y H2 _) ha hb hr h fun dx dy ρ' x y G' H' h1 s kp r1 p1 p2 => ?_
  refine hf G' H' x y dx dy _ _ r1.gh p1 p2 h1 fun d v hq p => ?_
  cases d with
  | bl b =>
    refine ⟨b,cc p,?_⟩
    change (if b = true then _ else _) at hq
    cases b with
    | true =>
      rw [if_pos rfl] at hq ⊢
      refine hc C G' ρ' σ H' pd _ _ r1 hq fun dw ρ3 w G3 H3 h3 s3 kp3 r3 p3 => ?_
      exact hg G3 H3 y w dy dw _ _ r3.gh (Rep.mono s3 _ _ p2) p3 h3 fun d v hq p => k d ρ3 v G3 H3 hq (s.trans s3) (kp.trans kp3) r3 p
    | false => rw [if_neg (by decide)] at hq ⊢; exact k _ ρ' _ G' H' hq s kp r1 (cm _)
  | _ => exact hq.elim
theorem lz {op op':CmpOp} {r r':R2} {f g:D → D → (D → Prop) → Prop} (ho:OpR X (compareOp op) r) (ho':OpR X (compareOp op') r') (hf:DOp r f) (hg:DOp r' g) (ha:QE X ow a ma) (hb:QE X ow b mb) (hc:QE X ow c mc)
    (hm:lastMarks [op,op'] [b,c] = false:=by with_unfolding_all rfl):QE X ow (.Compare a [op,op'] [b,c] pos) (qp f g ma mb mc):=by
  obtain ⟨ta,pa,sa⟩:=ha; obtain ⟨tb,pb,sb⟩:=hb; obtain ⟨tc,pc,sc⟩:=hc
  exact ⟨_,qz ho ho' pa pb pc hm,q_ hf hg sa sb sc⟩
def gb (r:List V → Hp → VK → Prop) (f:List D → (List D → Prop) → Prop):Prop:=∀ (G H:Hp) (xs:List V) (ds:List D) (q:List D → Prop) (Q:VK),aR G H → Reps G ds xs → f ds q →
  (∀ es ys p,q es → Reps G es ys → H p = none → Q (.ref p) (upd H p (.lst ys))) → r xs H Q
def mNew (f:List D → (List D → Prop) → Prop) (m:MA):ME:=fun ρ q => m ρ fun ds ρ' => f ds fun es => imms es = true ∧ q (.lst es) ρ'
def t9 (f:List D → (List D → Prop) → Prop) (m:MA):ME:=fun ρ q => m ρ fun ds ρ' => f ds fun es => q (.lst es) ρ'
theorem mW {r:List V → Hp → VK → Prop} {f:List D → (List D → Prop) → Prop} {t:TA} {n:Nat} (hd:gb r f) (s:SA ow n t mr):SF ow (fun σ H Q => t σ H fun xs H1 => r xs H1 Q) (mNew f mr):=fun C G ρ σ H pd q Q hr hm k =>
  s C G ρ σ H pd _ _ hr hm fun ds ρ' vs G' H' hq z kp r' p hn => hd G' H' vs ds _ _ r'.gh p hq fun es ys a hq p ha => by
    obtain ⟨O,r'⟩:=r'
    exact k _ ρ' _ _ _ hq.2 z kp (r'.newL ha hq.1 p)
theorem wR {r:List V → Hp → VK → Prop} {f:List D → (List D → Prop) → Prop} {t:TA} {n:Nat} (hd:gb r f) (s:SA ow n t mr):SE ow (fun σ H Q => t σ H fun xs H1 => r xs H1 Q) (t9 f mr):=fun C G ρ σ H pd q Q hr hm k =>
  s C G ρ σ H pd _ _ hr hm fun ds ρ' vs G' H' hq z kp r' p hn => hd G' H' vs ds _ _ r'.gh p hq fun es ys a hq p ha => by
    obtain ⟨O,r'⟩:=r'
    obtain ⟨r2,s2⟩:=r'.new ha (.lst ys)
    exact k _ ρ' _ _ _ hq (z.trans s2) kp ⟨O,r2⟩ (gK aW (Reps.mono s2 _ _ p))
theorem rj {ta tb:TE} (ha:SE ow ta ma) (hb:SE ow tb mb):SA ow 2 (fun σ H Q => ta σ H fun x H1 => tb σ H1 fun y H2 => Q [x,y] H2) (fo ma (fo mb oz)):=fun C G ρ σ H pd q Q hr hm k =>
  kh (Q:=fun x y H2 => Q [x,y] H2) ha hb hr hm fun dx dy ρ' x y G' H' h1 s kp r1 p1 p2 => k [dx,dy] ρ' [x,y] G' H' h1 s kp r1 (bG p1 (bG p2 bS)) rfl
theorem eN {G:Hp}:∀ {ds es:List D} {xs ys:List V},Reps G ds xs → Reps G es ys → Reps G (ds ++ es) (xs ++ ys)
  | [],es,xs,ys,h,h2 => by rw [Reps] at h; subst h; exact h2
  | d :: ds,es,xs,ys,h,h2 => by rw [Reps] at h; obtain ⟨v,vs,rfl,h1,h3⟩:=h; exact bG h1 (eN h3 h2)
theorem i8 {G:Hp}:∀ {ds:List D} {xs:List V} (n:Nat),Reps G ds xs → Reps G (ds.drop n) (xs.drop n)
  | [],xs,n,h => by rw [Reps] at h; subst h; simp; exact bS
  | d :: ds,xs,0,h => h
  | d :: ds,xs,n + 1,h => by rw [Reps] at h; obtain ⟨v,vs,rfl,h1,h3⟩:=h; exact i8 n h3
theorem iV {G:Hp}:∀ {ds:List D} {xs:List V} (n:Nat),Reps G ds xs → Reps G (ds.take n) (xs.take n)
  | [],xs,n,h => by rw [Reps] at h; subst h; simp; exact bS
  | d :: ds,xs,0,h => by simp; exact bS
  | d :: ds,xs,n + 1,h => by rw [Reps] at h; obtain ⟨v,vs,rfl,h1,h3⟩:=h; exact bG h1 (iV n h3)
theorem lB {G:Hp} {ds:List D} {xs:List V} (h:Reps G ds xs):∀ n:Nat,Reps G (List.replicate n ds).flatten (List.replicate n xs).flatten
  | 0 => by simp; exact bS
  | n + 1 => by simp [List.replicate_succ]; exact eN h (lB h n)
def fCat:List D → (List D → Prop) → Prop:=fun ds q => match ds with
  | [.lst xs,.lst ys] => xs.length + ys.length ≤ 1000 ∧ q (xs ++ ys)
  | _ => False
theorem dCat:gb (fun xs H Q => ∃ x y,xs = [x,y] ∧ rCat x y H Q) fCat:=fun G H xs ds q Q s p hf k => by
  unfold fCat at hf
  split at hf
  · obtain ⟨v,u,rfl,p1,p2⟩:=dg p
    rw [Rep] at p1 p2
    obtain ⟨a1,xs,rfl,h1,h2⟩:=p1
    obtain ⟨a2,ys,rfl,h3,h4⟩:=p2
    exact ⟨_,_,rfl,a1,a2,xs,ys,rfl,rfl,s _ _ h1,s _ _ h3,c_ (by rw [h2.length,h4.length]; exact hf.1),fun p hp => k _ _ p hf.2 (eN h2 h4) hp⟩
  · exact hf.elim
def fRep:List D → (List D → Prop) → Prop:=fun ds q => match ds with
  | [.lst xs,.int n] => (-(2 ^ 63) ≤ n ∧ n < 2 ^ 63 ∧ xs.length * n.toNat ≤ 1000) ∧ q (List.replicate n.toNat xs).flatten
  | _ => False
theorem dRep:gb (fun xs H Q => ∃ x y,xs = [x,y] ∧ rRep x y H Q) fRep:=fun G H xs ds q Q s p hf k => by
  unfold fRep at hf
  split at hf
  · obtain ⟨v,u,rfl,p1,p2⟩:=dg p
    obtain ⟨a1,xs,rfl,h1,h2⟩:=bi p1
    rw [aA p2]
    exact ⟨_,_,rfl,a1,_,xs,rfl,rfl,s _ _ h1,hf.1.1,hf.1.2.1,c_ (by rw [h2.length]; exact hf.1.2.2),fun p hp => k _ _ p hf.2 (lB h2 _) hp⟩
  · exact hf.elim
def mMk (f:List D → (List D → Prop) → Prop) (ma mb:ME):ME:=mNew f (fo ma (fo mb oz))
def mMkS (f:List D → (List D → Prop) → Prop) (ma mb:ME):ME:=t9 f (fo ma (fo mb oz))
def R2ok (r:R2):List V → Hp → VK → Prop:=fun xs H Q => match xs with
  | [x,y] => r x y H Q
  | _ => False
theorem gb.r2 {r:R2} {f:List D → (List D → Prop) → Prop} (h:gb (fun xs H Q => ∃ x y,xs = [x,y] ∧ r x y H Q) f):gb (R2ok r) f:=fun G H xs ds q Q s p hf k => by
  obtain ⟨x,y,rfl,z⟩:=h G H xs ds q Q s p hf k
  exact z
theorem rK {op:Operator} {r:R2} {f:List D → (List D → Prop) → Prop} (ho:OpR X (binaryOp op) r) (hd:gb (fun xs H Q => ∃ x y,xs = [x,y] ∧ r x y H Q) f) (ha:QE X ow a ma) (hb:QE X ow b mb):QF X ow (.BinOp a op b pos) (mMk f ma mb):=by
  obtain ⟨ta,pa,sa⟩:=ha; obtain ⟨tb,pb,sb⟩:=hb
  exact ⟨tOp r ta tb,nX ho pa pb,mW (r:=R2ok r) hd.r2 (rj sa sb)⟩
theorem rF {op:Operator} {r:R2} {f:List D → (List D → Prop) → Prop} (ho:OpR X (binaryOp op) r) (hd:gb (fun xs H Q => ∃ x y,xs = [x,y] ∧ r x y H Q) f) (ha:QE X ow a ma) (hb:QE X ow b mb):QE X ow (.BinOp a op b pos) (mMkS f ma mb):=by
  obtain ⟨ta,pa,sa⟩:=ha; obtain ⟨tb,pb,sb⟩:=hb
  exact ⟨tOp r ta tb,nX ho pa pb,wR (r:=R2ok r) hd.r2 (rj sa sb)⟩
def uf:List D → (List D → Prop) → Prop:=fun ds q => match ds with
  | [.lst xs] => q xs
  | [.tup xs] => q xs
  | _ => False
theorem uH {K:PySem.W.Frag}:gb (fun xs H Q => ∃ p ys,xs = [.ref p] ∧ (SqL K H p ys ∨ SqT K H p ys) ∧ ∀ l,H l = none → Q (.ref l) (upd H l (.lst ys))) uf:=fun G H xs ds q Q s p hf k => by
  unfold uf at hf
  split at hf
  · obtain ⟨v,rfl,p1⟩:=bA p
    obtain ⟨a,xs,rfl,h1,h2⟩:=bi p1
    exact ⟨a,xs,rfl,.inl (SqL.of (s _ _ h1)),fun l hl => k _ _ l hf h2 hl⟩
  · obtain ⟨v,rfl,p1⟩:=bA p
    obtain ⟨a,xs,rfl,h1,h2⟩:=d4 p1
    exact ⟨a,xs,rfl,.inr (SqT.of (s _ _ h1)),fun l hl => k _ _ l hf h2 hl⟩
  · exact hf.elim
variable {x:Str} {p':Pos}
theorem iY {id:String} {r:List V → Hp → VK → Prop} {f:List D → (List D → Prop) → Prop} (hc:cC X (.type id) r) (hd:gb r f) (hg:Gl X x) (hm:X.mg x = none) (hv:bootBuiltins x = some (.type id)) (ha:QA X ow (e :: es) mr) (hn:x ≠ "__name__":=by decide) (hdb:(x == ("__debug__":Str)) = false:=by decide)
    (he:starEach (e :: es) X.env = (false,eval e X.env) :: starEach es X.env:=by rfl) (hpl:(backTo pos (starEach es X.env)).any (·.1) = false:=by rfl):QF X ow (.Call (.Name x p') (e :: es) [] pos) (mNew f mr):=by
  obtain ⟨t,p,s⟩:=ha
  exact ⟨_,jr hc hg hm hv p hn hdb he hpl,mW hd s⟩
theorem hZ {id:String} {r:List V → Hp → VK → Prop} {f:List D → (List D → Prop) → Prop} (hc:cC X (.builtin id) r) (hd:gb r f) (hg:Gl X x) (hm:X.mg x = none) (hv:bootBuiltins x = some (.builtin id)) (ha:QA X ow (e :: es) mr) (hn:x ≠ "__name__":=by decide) (hdb:(x == ("__debug__":Str)) = false:=by decide)
    (he:starEach (e :: es) X.env = (false,eval e X.env) :: starEach es X.env:=by rfl) (hpl:(backTo pos (starEach es X.env)).any (·.1) = false:=by rfl):QF X ow (.Call (.Name x p') (e :: es) [] pos) (mNew f mr):=by
  obtain ⟨t,p,s⟩:=ha
  exact ⟨_,g8 hc hg hm hv p hn hdb he hpl,mW hd s⟩
def kO (xs:List D) (lo hi:Option Int):List D:=(xs.drop (HT.sIx xs.length 0 lo)).take (HT.sIx xs.length xs.length hi - HT.sIx xs.length 0 lo)
theorem qy {G:Hp} {ds:List D} {xs:List V} (h:Reps G ds xs) (lo hi:Option Int):Reps G (kO ds lo hi) (nq xs lo hi):=by
  unfold kO nq
  rw [h.length]
  exact iV _ (i8 _ h)
abbrev MO:=DSt → (Option Int → DSt → Prop) → Prop
def SO (ow:List Bool) (t:TO) (m:MO):Prop:=∀ (C:Ctx) (G:Hp) (ρ:DSt) (σ:St) (H:Hp) (pd:List (D × V)) (q:Option Int → DSt → Prop) (Q:Option Int → Hp → Prop),R C ow G ρ σ H pd → m ρ q →
  (∀ b ρ' G' H',q b ρ' → aR G G' → Kp ow ρ ρ' → R C ow G' ρ' σ H' pd → Q b H') → t σ H Q
structure QO (X:Cx) (ow:List Bool) (e:Option Expr) (m:MO):Prop where
  ex:∃ t,PO X e t ∧ SO ow t m
def sJ:MO:=fun ρ q => q none ρ
def mPart (m:ME):MO:=fun ρ q => m ρ fun d ρ' => match d with
  | .int i => q (some i) ρ'
  | _ => False
theorem r_:QO X ow none sJ:=⟨_,tU,fun C G ρ σ H pd q Q r h k => k none ρ G H h (aR.refl _) Kp.refl r⟩
theorem t3 (h:QE X ow e ma):QO X ow (some e) (mPart ma):=by
  obtain ⟨t,p,s⟩:=h
  refine ⟨_,tw p,fun C G ρ σ H pd q Q r hm k => s C G ρ σ H pd _ _ r hm fun d ρ' v G' H' hq s kp r' p => ?_⟩
  cases d with
  | int i => exact ⟨i,aA p,k _ ρ' G' H' hq s kp r'⟩
  | _ => exact hq.elim
def mSl (m:ME) (ml mh:MO):ME:=fun ρ q => m ρ fun d ρ1 => ml ρ1 fun lo ρ2 => mh ρ2 fun hi ρ3 => match d with
  | .lst ds => imms (kO ds lo hi) = true ∧ q (.lst (kO ds lo hi)) ρ3
  | _ => False
def mSlS (m:ME) (ml mh:MO):ME:=fun ρ q => m ρ fun d ρ1 => ml ρ1 fun lo ρ2 => mh ρ2 fun hi ρ3 => match d with
  | .lst ds => q (.lst (kO ds lo hi)) ρ3
  | _ => False
variable {lo hi:Option Expr} {ml mh:MO} {p2:Pos}
theorem rg (h:QE X ow e ma) (hl:QO X ow lo ml) (hh:QO X ow hi mh):QE X ow (.Subscript e (.Slice lo hi none p2) pos) (mSlS ma ml mh):=by
  obtain ⟨t,p,s⟩:=h; obtain ⟨t1,p1,s1⟩:=hl; obtain ⟨t2,p2,s2⟩:=hh
  refine ⟨_,pP tz p p1 p2,fun C G ρ σ H pd q Q r hm k => s C G ρ σ H pd _ _ r hm fun d ρ' v G' H' hq z kp r' p => ?_⟩
  refine s1 C G' ρ' σ H' pd _ _ r' hq fun l ρ1 G1 H1 hq1 z1 kp1 r1 => s2 C G1 ρ1 σ H1 pd _ _ r1 hq1 fun u ρ2 G2 H2 hq2 z2 kp2 r2 => ?_
  cases d with
  | lst ds =>
    obtain ⟨a,xs,rfl,h1,h2⟩:=bi (Rep.mono (z1.trans z2) _ _ p)
    refine ⟨a,xs,rfl,SqL.of (r2.gh _ _ h1),fun b hb => ?_⟩
    obtain ⟨O,r2⟩:=r2
    obtain ⟨r3,z3⟩:=r2.new hb (.lst (nq xs l u))
    exact k _ ρ2 _ _ _ hq2 (z.trans (z1.trans (z2.trans z3))) (kp.trans (kp1.trans kp2)) ⟨O,r3⟩ (gK aW (Reps.mono z3 _ _ (qy h2 _ _)))
  | _ => exact hq2.elim
end
def cM (f:Nat → Option Nat) (O:Own):Own:=fun a => match O a with
  | some m => (f m.1).map fun l => (l,m.2)
  | none => none
theorem nO {f:Nat → Option Nat} {O:Own} {a:Addr} {l l':Nat} {π:List Nat} (h:O a = some (l,π)) (hf:f l = some l'):cM f O a = some (l',π):=by unfold cM; rw [h]; show (f l).map _ = _; rw [hf]; rfl
theorem ff {f:Nat → Option Nat} {O:Own} {a:Addr} {l':Nat} {π:List Nat} (h:cM f O a = some (l',π)):∃ l,O a = some (l,π) ∧ f l = some l':=by
  unfold cM at h
  cases e:O a with
  | none => rw [e] at h; cases h
  | some m =>
    rw [e] at h
    change (f m.1).map _ = _ at h
    cases e2:f m.1 with
    | none => rw [e2] at h; cases h
    | some l => rw [e2] at h; cases h; exact ⟨m.1,rfl,e2⟩
theorem pq {f:Nat → Option Nat} {O:Own} {a:Addr} {l:Nat} {π:List Nat} (h:O a = some (l,π)) (hf:f l = none):cM f O a = none:=by unfold cM; rw [h]; show (f l).map _ = _; rw [hf]; rfl
def msV:List Bool → List V → List (Option V)
  | b :: bs,v :: vs => (if b = true then some v else none) :: msV bs vs
  | _,_ => []
theorem mw:∀ {mu:List Bool} {vs:List V} {k:Nat} {v:V},(msV mu vs)[k]? = some (some v) → mu[k]? = some true ∧ vs[k]? = some v
  | [],vs,k,v,h => by simp [msV] at h
  | b :: bs,[],k,v,h => by simp [msV] at h
  | b :: bs,u :: vs,0,v,h => by
    simp only [msV,List.getElem?_cons_zero,Option.some.injEq] at h
    split at h
    · rename_i c; cases h; subst c; exact ⟨rfl,rfl⟩
    · cases h
  | b :: bs,u :: vs,k + 1,v,h => by
    simp only [msV,List.getElem?_cons_succ] at h
    simpa using mw h
theorem lZ:∀ {mu:List Bool} {vs:List V} {k:Nat} {v:V},mu[k]? = some true → vs[k]? = some v → (msV mu vs)[k]? = some (some v)
  | [],vs,k,v,h,_ => by simp at h
  | b :: bs,[],k,v,_,h => by simp at h
  | b :: bs,u :: vs,0,v,h,h2 => by simp at h h2; subst h; subst h2; simp [msV]
  | b :: bs,u :: vs,k + 1,v,h,h2 => by simp only [msV,List.getElem?_cons_succ]; exact lZ (by simpa using h) (by simpa using h2)
section
variable {C:Ctx} {ow mu:List Bool} {G:Hp} {ρ:DSt} {σ:St} {H:Hp} {pd:List (D × V)} {O:Own} {fin fbk:Nat → Option Nat}
theorem RO.into (ro:RO C ow G ρ σ H pd O) {ds:List D} {vs:List V} (hl:ds.length = vs.length)
    (hs:∀ (k:Nat) d,ds[k]? = some d → ∃ v,vs[k]? = some v ∧ if mu[k]? = some true then ∃ l,Sep G H O l d [] v ∧ fin l = some (2 * k) else Rep G d v)
    (hc:∀ l l',fin l = some l' → ∃ k,l' = 2 * k ∧ mu[k]? = some true ∧ k < vs.length) :
    RO ⟨G,H,cM fin O,msV mu vs,0⟩ mu G (ds.map some) (vs.map some) H [] (cM fin O):=by
  refine ⟨by simp [hl],ro.gh,fun _ _ e => e,fun _ _ e => .inl e,?_,?_,fun _ _ e _ => e,fun _ e => e,?_,?_,trivial,Nat.le_refl _⟩
  · intro a m e
    obtain ⟨l',π⟩:=m
    obtain ⟨l,e1,e2⟩:=ff e
    obtain ⟨q1,q2,_⟩:=ro.og a _ e1
    exact ⟨q1,q2,.inr ⟨π,e⟩⟩
  · intro a l' π e
    obtain ⟨l,e1,e2⟩:=ff e
    obtain ⟨k,rfl,h2,h3⟩:=hc _ _ e2
    exact .inl ⟨k,vs[k],rfl,lZ h2 (List.getElem?_eq_getElem h3)⟩
  · intro k v e
    rw [List.getElem?_map,(mw e).2]; rfl
  · intro k d e
    rw [List.getElem?_map] at e
    cases e1:ds[k]? with
    | none => rw [e1] at e; cases e
    | some d' =>
      rw [e1] at e
      cases e
      obtain ⟨v,h1,h2⟩:=hs k d e1
      refine ⟨v,by rw [List.getElem?_map,h1]; rfl,?_⟩
      split at h2
      · rename_i c
        rw [if_pos c]
        obtain ⟨l,h3,h4⟩:=h2
        exact h3.keep (fun _ _ z => z) fun a τ q => ⟨nO q h4,rfl⟩
      · rename_i c; rw [if_neg c]; exact h2
def o5 (fin fbk:Nat → Option Nat) (O O2:Own):Own:=fun a => match O2 a with
  | some m => (fbk m.1).map fun l => (l,m.2)
  | none => match cM fin O a with
    | some _ => none
    | none => O a
theorem RO.out (ro:RO C ow G ρ σ H pd O) {vs:List V} {G2:Hp} {ρ2:DSt} {σ2:St} {H2:Hp} {pd2 pd3:List (D × V)} {O2:Own} {ρ3:DSt} {ow2:List Bool} {np:Nat} {mv:List (Option V)}
    (ri:RO ⟨G,H,cM fin O,mv,np⟩ ow2 G2 ρ2 σ2 H2 pd2 O2) (hib:∀ l0 l' l,fin l0 = some l' → fbk l' = some l → l = l0)
    (hlen : ρ3.length = σ.length) (hnp:C.np ≤ pd3.length)
    (hS:∀ (i:Nat) d,ow[i]? ≠ some true → ρ3[i]? = some (some d) → ρ[i]? = some (some d))
    (hO:∀ (i:Nat) d,ow[i]? = some true → ρ3[i]? = some (some d) → (fin (2 * i) = none ∧ ρ[i]? = some (some d)) ∨ ∃ (k:Nat) (v:V),fbk (2 * k) = some (2 * i) ∧ ow2[k]? = some true ∧ ρ2[k]? = some (some d) ∧ σ[i]? = some (some v) ∧ σ2[k]? = some (some v))
    (hP:∀ (O3:Own),(∀ a l π,O a = some (l,π) → fin l = none → O3 a = some (l,π) ∧ H2 a = H a) → (∀ a l l' π,O2 a = some (l',π) → fbk l' = some l → O3 a = some (l,π)) → cY G G2 → cn G2 H2 O3 pd3) :
    RO C ow G2 ρ3 σ H2 pd3 (o5 fin fbk O O2):=by
  have keep:∀ a l π,O a = some (l,π) → fin l = none → o5 fin fbk O O2 a = some (l,π) ∧ H2 a = H a:=fun a l π e hn => by
    have e1:=pq (f:=fin) e hn
    obtain ⟨g,⟨xs,hx⟩,_⟩:=ro.og a _ e
    have e2:O2 a = none:=by
      cases q:O2 a with
      | none => rfl
      | some m =>
        obtain ⟨_,_,q3⟩:=ri.og a m q
        rcases q3 with q3 | ⟨π',q3⟩
        · change H a = none at q3; rw [hx] at q3; cases q3
        · change cM fin O a = _ at q3; rw [e1] at q3; cases q3
    constructor
    · show (match O2 a with | some m => _ | none => _) = _
      rw [e2]
      show (match cM fin O a with | some _ => none | none => O a) = _
      rw [e1]; exact e
    · rw [ri.fr a _ hx e1,hx]
  have come:∀ a l l' π,O2 a = some (l',π) → fbk l' = some l → o5 fin fbk O O2 a = some (l,π):=fun a l l' π e hb => by
    show (match O2 a with | some m => _ | none => _) = _
    rw [e]
    show (fbk l').map _ = _
    rw [hb]; rfl
  have ts:cY G G2:=(aR.ts ri.g0)
  refine ⟨hlen,ri.gh,fun a o e => ri.g0 a o (ro.g0 a o e),?_,?_,ro.cok,?_,fun a e => ro.al a (ri.al a e),ro.mp,?_,hP _ keep come ts,hnp⟩
  · intro a o e
    rcases ri.gn a o e with q | q
    · exact ro.gn a o q
    · exact .inr (ro.al a q)
  · intro a m e
    change (match O2 a with | some m => _ | none => _) = _ at e
    cases q:O2 a with
    | some m' =>
      rw [q] at e
      change (fbk m'.1).map _ = _ at e
      cases q2:fbk m'.1 with
      | none => rw [q2] at e; cases e
      | some l =>
        rw [q2] at e; cases e
        obtain ⟨g1,g2,g3⟩:=ri.og a m' q
        refine ⟨g1,g2,?_⟩
        rcases g3 with g3 | ⟨π',g3⟩
        · exact .inl (ro.al a g3)
        · obtain ⟨l0,g4,g5⟩:=ff g3
          have:=hib _ _ _ g5 q2
          subst this
          exact (ro.og a _ g4).2.2
    | none =>
      rw [q] at e
      change (match cM fin O a with | some _ => none | none => O a) = _ at e
      cases q2:cM fin O a with
      | some _ => rw [q2] at e; cases e
      | none =>
        rw [q2] at e
        change O a = some m at e
        obtain ⟨g1,⟨xs,g2⟩,g3⟩:=ro.og a m e
        refine ⟨?_,⟨xs,ri.fr a _ g2 q2⟩,g3⟩
        cases z:G2 a with
        | none => rfl
        | some o =>
          rcases ri.gn a o z with z | z
          · change G a = _ at z; rw [g1] at z; cases z
          · change H a = _ at z; rw [g2] at z; cases z
  · intro a o e n
    have q:=ro.fr a o e n
    refine ri.fr a o q ?_
    show cM fin O a = none
    cases z:cM fin O a with
    | none => rfl
    | some m =>
      obtain ⟨l',π⟩:=m
      obtain ⟨l,z1,_⟩:=ff z
      obtain ⟨_,_,z3⟩:=ro.og a _ z1
      rcases z3 with z3 | ⟨_,z3⟩
      · rw [z3] at e; cases e
      · rw [z3] at n; cases n
  · intro i d e
    by_cases c:ow[i]? = some true
    · rcases hO i d c e with ⟨h1,h2⟩ | ⟨k,v,h1,h2,h3,h4,h5⟩
      · obtain ⟨v,q1,q2⟩:=ro.sl i d h2
        rw [if_pos c] at q2
        exact ⟨v,q1,by rw [if_pos c]; exact q2.keep ts fun a τ q => keep a _ _ q h1⟩
      · obtain ⟨v',q1,q2⟩:=ri.sl k d h3
        rw [if_pos h2] at q2
        rw [h5] at q1; cases q1
        exact ⟨v,h4,by rw [if_pos c]; exact q2.keep (fun _ _ z => z) fun a τ q => ⟨come _ _ _ _ q h1,rfl⟩⟩
    · obtain ⟨v,q1,q2⟩:=ro.sl i d (hS i d c e)
      rw [if_neg c] at q2
      exact ⟨v,q1,by rw [if_neg c]; exact q2.mono ri.g0⟩
end
def Ret (fr:Bool) (C:Ctx) (ow:List Bool) (G:Hp) (ρ:DSt) (σ:St) (H:Hp) (d:D) (v:V):Prop:=if fr = true then R C ow G ρ σ H [(d,v)] else R C ow G ρ σ H [] ∧ Rep G d v
def mus:List Bool → DSt → DSt
  | true :: bs,x :: ρ => x :: mus bs ρ
  | false :: bs,_ :: ρ => mus bs ρ
  | true :: bs,[] => none :: mus bs []
  | false :: bs,[] => mus bs []
  | [],_ => []
def cX {α:Type}:Nat → List (Option α) → List (Option α)
  | 0,_ => []
  | n + 1,x :: ρ => x :: cX n ρ
  | n + 1,[] => none :: cX n []
theorem dD {α:Type}:∀ (n:Nat) (ρ:List (Option α)),(cX n ρ).length = n
  | 0,_ => rfl
  | n + 1,x :: ρ => by simp [cX,dD n ρ]
  | n + 1,[] => by simp [cX,dD n []]
theorem dL:∀ (mu:List Bool) (ρ:DSt),mus mu (cX mu.length ρ) = mus mu ρ
  | [],_ => by simp [mus]
  | true :: bs,x :: ρ => by simp [cX,mus,dL bs ρ]
  | false :: bs,x :: ρ => by simp [cX,mus,dL bs ρ]
  | true :: bs,[] => by simp [cX,mus,dL bs []]
  | false :: bs,[] => by simp [cX,mus,dL bs []]
theorem kS {α:Type}:∀ {n:Nat} {ρ:List (Option α)} {i:Nat} {d : α},(cX n ρ)[i]? = some (some d) → i < n ∧ ρ[i]? = some (some d)
  | 0,_,_,_,h => by simp [cX] at h
  | n + 1,x :: ρ,0,d,h => by simp [cX] at h; exact ⟨by omega,by simp [h]⟩
  | n + 1,x :: ρ,i + 1,d,h => by simp only [cX,List.getElem?_cons_succ] at h; obtain ⟨a,b⟩:=kS h; exact ⟨by omega,by simpa using b⟩
  | n + 1,[],0,d,h => by simp [cX] at h
  | n + 1,[],i + 1,d,h => by simp only [cX,List.getElem?_cons_succ] at h; obtain ⟨a,b⟩:=kS h; simp at b
theorem ko {α:Type}:∀ {n:Nat} {ρ:List (Option α)} {i:Nat} {d : α},i < n → ρ[i]? = some (some d) → (cX n ρ)[i]? = some (some d)
  | 0,_,_,_,h,_ => by omega
  | n + 1,x :: ρ,0,d,h,e => by simp at e; simp [cX,e]
  | n + 1,x :: ρ,i + 1,d,h,e => by simp only [cX,List.getElem?_cons_succ]; exact ko (by omega) (by simpa using e)
  | n + 1,[],i,d,h,e => by simp at e
abbrev SpD:=List D → (D → DSt → Prop) → Prop
def bd (mu:List Bool) (fr:Bool) (sd:SpD):Sp:=fun vs H Q _ => ∃ (C:Ctx) (G:Hp) (ds:List D) (q:D → DSt → Prop),C.np = 0 ∧ C.mu = msV mu vs ∧ R C mu G (ds.map some) (vs.map some) H [] ∧ sd ds q ∧ mu.length = ds.length ∧
  ∀ d ρ' σ' v G' H',q d (mus mu ρ') → aR G G' → ρ'.length = mu.length → Ret fr C mu G' ρ' σ' H' d v → Q v H'
structure EndsD where
  nx:DSt → Prop
  rt:D → DSt → Prop
  bk:DSt → Prop:=fun _ => False
  ct:DSt → Prop:=fun _ => False
abbrev MS:=EndsD → DSt → Prop
structure Ks (C:Ctx) (ow:List Bool) (fr:Bool) (G:Hp) (n:EndsD) (D:Ends):Prop where
  nx:∀ ρ σ G' H,n.nx ρ → aR G G' → R C ow G' ρ σ H [] → D.nx σ H
  bk:∀ ρ σ G' H,n.bk ρ → aR G G' → R C ow G' ρ σ H [] → D.bk σ H
  ct:∀ ρ σ G' H,n.ct ρ → aR G G' → R C ow G' ρ σ H [] → D.ct σ H
  rt:∀ d ρ σ v G' H,n.rt d ρ → aR G G' → Ret fr C ow G' ρ σ H d v → D.rt v H
theorem Ks.mono {C:Ctx} {ow:List Bool} {fr:Bool} {G G1:Hp} {n:EndsD} {D:Ends} (h:Ks C ow fr G n D) (s:aR G G1):Ks C ow fr G1 n D :=
  ⟨fun ρ σ G' H a b c => h.nx ρ σ G' H a (s.trans b) c,fun ρ σ G' H a b c => h.bk ρ σ G' H a (s.trans b) c,fun ρ σ G' H a b c => h.ct ρ σ G' H a (s.trans b) c,fun d ρ σ v G' H a b c => h.rt d ρ σ v G' H a (s.trans b) c⟩
def gT (C:Ctx) (mu:List Bool):Prop:=∀ (i:Nat) v,C.mu[i]? = some (some v) → mu[i]? = some true
theorem gT.no {C:Ctx} {mu:List Bool} (h:gT C mu) {i:Nat} (hi:mu[i]? ≠ some true):∀ v,C.mu[i]? ≠ some (some v):=fun v e => hi (h i v e)
structure Md where
  mu:List Bool
  ow:List Bool
  fr:Bool
def SS (M:Md) (t:TS) (m:MS):Prop:=∀ (C:Ctx) (G:Hp) (ρ:DSt) (σ:St) (H:Hp) (n:EndsD) (D:Ends),gT C M.mu → C.np = 0 → R C M.ow G ρ σ H [] → m n ρ → Ks C M.ow M.fr G n D → t D σ H
structure QS (X:Cx) (M:Md) (st:Stmt) (m:MS):Prop where
  ex:∃ t,PS X st t ∧ SS M t m
structure QSs (X:Cx) (M:Md) (st:List Stmt) (m:MS):Prop where
  ex:∃ t,PSs X st t ∧ SS M t m
section
variable {X:Cx} {M:Md} {a b c e:Expr} {ma mb mc:ME} {mt:MT} {pos pos':Pos} {st:Stmt} {rest:List Stmt} {m m1 m2:MS}
def mSeq (m1 m2:MS):MS:=fun n ρ => m1 { n with nx:=fun ρ' => m2 n ρ' } ρ
def mNext:MS:=fun n ρ => n.nx ρ
theorem aG:QSs X M [] mNext:=⟨_,s9,fun C G ρ σ H n D hm hn r h k => k.nx ρ σ G H h (aR.refl _) r⟩
theorem ag (h:QS X M st m):QSs X M [st] m:=by obtain ⟨t,p,s⟩:=h; exact ⟨_,tK p,s⟩
theorem ad (h:QS X M st m1) (h2:QSs X M rest m2):QSs X M (st :: rest) (mSeq m1 m2):=by
  obtain ⟨t,p,s⟩:=h; obtain ⟨t2,p2,s2⟩:=h2
  refine ⟨_,rd p p2,fun C G ρ σ H n D hm hn r h k => s C G ρ σ H _ _ hm hn r h ?_⟩
  exact ⟨fun ρ' σ' G' H' h' z r' => s2 C G' ρ' σ' H' n D hm hn r' h' (k.mono z),k.bk,k.ct,k.rt⟩
def xc:MS:=fun _ _ => False
theorem bJ:QS X M st xc:=⟨_,q9,fun C G ρ σ H n D hm hn r h k => h.elim⟩
def mIfS (mt:MT) (m1 m2:MS):MS:=fun n ρ => mt ρ fun b ρ1 => if b = true then m1 n ρ1 else m2 n ρ1
theorem a9 {s1 s2:List Stmt} (h:QT X M.ow c mt) (h1:QSs X M s1 m1) (h2:QSs X M s2 m2):QS X M (.If c s1 s2 pos) (mIfS mt m1 m2):=by
  obtain ⟨t,p,s⟩:=h; obtain ⟨t1,p1,s1⟩:=h1; obtain ⟨t2,p2,s2⟩:=h2
  refine ⟨_,ps_if p p1 p2,fun C G ρ σ H n D hm hn r h k => s C G ρ σ H [] _ _ r h fun b ρ' G' H' hq z kp r' => ?_⟩
  cases b with
  | true => rw [if_pos rfl] at hq ⊢; exact s1 C G' ρ' σ H' n D hm hn r' hq (k.mono z)
  | false => rw [if_neg (by decide)] at hq ⊢; exact s2 C G' ρ' σ H' n D hm hn r' hq (k.mono z)
def mRet (m:ME):MS:=fun n ρ => m ρ n.rt
theorem aH (h:QE X M.ow e ma) (hf:M.fr = false:=by rfl):QS X M (.Return (some e) pos) (mRet ma):=by
  obtain ⟨t,p,s⟩:=h
  refine ⟨_,qa p,fun C G ρ σ H n D hm hn r h k => s C G ρ σ H [] _ _ r h fun d ρ' v G' H' hq z kp r' p => k.rt d ρ' σ v G' H' hq z (by unfold Ret; rw [if_neg (by rw [hf]; decide)]; exact ⟨r',p⟩)⟩
theorem R.non {C:Ctx} {ow:List Bool} {fr:Bool} {G:Hp} {ρ:DSt} {σ:St} {H:Hp} (r:R C ow G ρ σ H []):Ret fr C ow G ρ σ H .non .non:=by
  unfold Ret
  split
  · obtain ⟨O,r⟩:=r
    exact ⟨O,r.len,r.gh,r.g0,r.gn,r.og,r.cok,r.fr,r.al,r.mp,r.sl,⟨by rw [Sep],trivial⟩,Nat.le_succ_of_le r.np⟩
  · exact ⟨r,nF⟩
def pp (i:Nat) (m:ME):MS:=fun n ρ => m ρ fun d ρ1 => n.nx (ρ1.set i (some d))
theorem qN {t:TE} {i:Nat} (s:SE M.ow t ma) (ho:M.ow[i]? ≠ some true) (hu:M.mu[i]? ≠ some true):SS M (p8 t (g6 i)) (pp i ma):=fun C G ρ σ H n D hm hn r h k =>
  s C G ρ σ H [] _ _ r h fun d ρ' v G' H' hq z kp r' p => by
    obtain ⟨O,r'⟩:=r'
    exact k.nx _ _ G' H' hq z ⟨O,r'.setS ho (hm.no hu) p⟩
theorem tf {t:TE} {i:Nat} (s:SF M.ow t ma) (ho:M.ow[i]? = some true) (hu:M.mu[i]? ≠ some true):SS M (p8 t (g6 i)) (pp i ma):=fun C G ρ σ H n D hm hn r h k =>
  s C G ρ σ H [] _ _ r h fun d ρ' v G' H' hq z kp r' => by
    obtain ⟨O,r'⟩:=r'
    exact k.nx _ _ G' H' hq z (r'.setO ho (hm.no hu) (by rw [hn]; exact Nat.zero_le _))
theorem aQ {i:Nat} {x:Str} (hN:X.N.Nodup) (hi:X.N[i]? = some x) (hx:Loc X.env.scope x) (he:QE X M.ow e ma) (ho:M.ow[i]? ≠ some true:=by decide) (hu:M.mu[i]? ≠ some true:=by decide) (hs:swapsWith e (some (.Name x pos')) pos.line X.env = pure false:=by rfl) (hf:X.fn x = true ∨ X.env.scope.names.lookup x = some .local:=by first | exact .inl rfl | exact .inr rfl | assumption) :
    QS X M (.Assign [.Name x pos'] e pos) (pp i ma):=by
  obtain ⟨t,p,s⟩:=he
  exact ⟨_,mF hN hi hx p hs hf,qN s ho hu⟩
theorem cE {i:Nat} {x:Str} (hN:X.N.Nodup) (hi:X.N[i]? = some x) (hx:Loc X.env.scope x) (he:QF X M.ow e ma) (ho:M.ow[i]? = some true:=by decide) (hu:M.mu[i]? ≠ some true:=by decide) (hs:swapsWith e (some (.Name x pos')) pos.line X.env = pure false:=by rfl) (hf:X.fn x = true ∨ X.env.scope.names.lookup x = some .local:=by first | exact .inl rfl | exact .inr rfl | assumption) :
    QS X M (.Assign [.Name x pos'] e pos) (pp i ma):=by
  obtain ⟨t,p,s⟩:=he
  exact ⟨_,mF hN hi hx p hs hf,tf s ho hu⟩
def mPar (i j:Nat) (ma mb:ME):MS:=fun n ρ => ma ρ fun x ρ1 => mb ρ1 fun y ρ2 => n.nx ((ρ2.set i (some x)).set j (some y))
theorem kW {i j:Nat} {x y:Str} {px py pt:Pos} {kt k2 pt2} (hc:X.calm = true) (hN:X.N.Nodup) (hi:X.N[i]? = some x) (hj:X.N[j]? = some y) (hij:i ≠ j)
    (hx:X.env.scope.names.lookup x = some .local) (hy:X.env.scope.names.lookup y = some .local) (ha:QE X M.ow a ma) (hb:QE X M.ow b mb)
    (hw:swappedStores [.Tuple [.Name x px,.Name y py] kt pt] (.Tuple [a,b] k2 pt2) X.env = pure (some [x,y]))
    (oi:M.ow[i]? ≠ some true:=by decide) (oj:M.ow[j]? ≠ some true:=by decide) (ui:M.mu[i]? ≠ some true:=by decide) (uj:M.mu[j]? ≠ some true:=by decide)
    (hs1:starEach [a,b] X.env = (false,eval a X.env) :: starEach [b] X.env:=by rfl) (hs2:starEach [b] X.env = [(false,eval b X.env)]:=by rfl)
    (hs:swapsWithSole [.Tuple [.Name x px,.Name y py] kt pt] (.Tuple [a,b] k2 pt2) pos.line X.env = pure false:=by rfl) :
    QS X M (.Assign [.Tuple [.Name x px,.Name y py] kt pt] (.Tuple [a,b] k2 pt2) pos) (mPar i j ma mb):=by
  obtain ⟨ta,pa,sa⟩:=ha; obtain ⟨tb,pb,sb⟩:=hb
  refine ⟨_,wt hc hN hi hj hij hx hy (cD pa (cD pb fw hs2) hs1) hw hs,fun C G ρ σ H n D hm hn r h k => ?_⟩
  refine kh (Q:=fun u w H2 => ∃ v w',[u,w] = [v,w'] ∧ D.nx ((σ.set i (some v)).set j (some w')) H2) sa sb r h fun dx dy ρ' u w G' H' hq z kp r' p1 p2 => ⟨u,w,rfl,?_⟩
  obtain ⟨O,r'⟩:=r'
  exact k.nx _ _ G' H' hq z ⟨O,(r'.setS oi (hm.no ui) p1).setS oj (hm.no uj) p2⟩
abbrev MG:=D → DSt → (DSt → Prop) → Prop
abbrev MGs:=List D → DSt → (DSt → Prop) → Prop
def SG (M:Md) (g:TG) (m:MG):Prop:=∀ (C:Ctx) (G:Hp) (ρ:DSt) (σ:St) (H:Hp) (pd:List (D × V)) (d:D) (v:V) (k:DSt → Prop) (K:St → Hp → Prop),gT C M.mu → R C M.ow G ρ σ H pd → Rep G d v → m d ρ k →
  (∀ ρ' σ',k ρ' → R C M.ow G ρ' σ' H pd → K σ' H) → g v σ H K
def SGs (M:Md) (g:TGs) (m:MGs):Prop:=∀ (C:Ctx) (G:Hp) (ρ:DSt) (σ:St) (H:Hp) (pd:List (D × V)) (d:List D) (v:List V) (k:DSt → Prop) (K:St → Hp → Prop),gT C M.mu → R C M.ow G ρ σ H pd → Reps G d v → m d ρ k →
  (∀ ρ' σ',k ρ' → R C M.ow G ρ' σ' H pd → K σ' H) → g v σ H K
structure QG (X:Cx) (M:Md) (e:Expr) (m:MG):Prop where
  ex:∃ t,PG X e t ∧ SG M t m
structure QGs (X:Cx) (M:Md) (e:List Expr) (m:MGs):Prop where
  ex:∃ t,PGs X e t ∧ SGs M t m
def ge (i:Nat):MG:=fun d ρ k => k (ρ.set i (some d))
theorem aE {i:Nat} {x:Str} (hN:X.N.Nodup) (hi:X.N[i]? = some x) (hx:Loc X.env.scope x) (ho:M.ow[i]? ≠ some true:=by decide) (hu:M.mu[i]? ≠ some true:=by decide) (hf:X.fn x = true ∨ X.env.scope.names.lookup x = some .local:=by first | exact .inl rfl | exact .inr rfl | assumption):QG X M (.Name x pos) (ge i) :=
  ⟨_,bh hN hi hx hf,fun C G ρ σ H pd d v k K hm r p h kk => by obtain ⟨O,r⟩:=r; exact kk _ _ h ⟨O,r.setS ho (hm.no hu) p⟩⟩
def oe:MGs:=fun ds ρ k => match ds with
  | [] => k ρ
  | _ => False
def ix (t:MG) (u:MGs):MGs:=fun ds ρ k => match ds with
  | d :: ds => t d ρ fun ρ1 => u ds ρ1 k
  | [] => False
def rZ (t:MGs):MG:=fun d ρ k => match d with
  | .tup ds => t ds ρ k
  | _ => False
variable {mg:MG} {mgs:MGs} {es:List Expr}
theorem bK:QGs X M [] oe:=⟨_,kH,fun C G ρ σ H pd d v k K hm r p h kk => by
  cases d with
  | nil => rw [Reps] at p; exact ⟨p,kk _ _ h r⟩
  | cons _ _ => exact h.elim⟩
theorem aF (h1:QG X M e mg) (h2:QGs X M es mgs) (hs:(assignEach (e :: es) X.env).map (·.2) = assign e X.env :: (assignEach es X.env).map (·.2):=by rfl):QGs X M (e :: es) (ix mg mgs):=by
  obtain ⟨t,p,s⟩:=h1; obtain ⟨t2,p2,s2⟩:=h2
  refine ⟨_,eT p p2 hs,fun C G ρ σ H pd d v k K hm r p h kk => ?_⟩
  cases d with
  | nil => exact h.elim
  | cons d ds =>
    rw [Reps] at p
    obtain ⟨v,vs,rfl,p1,p3⟩:=p
    exact ⟨v,vs,rfl,s C G ρ σ H pd d v _ _ hm r p1 h fun ρ' σ' h' r' => s2 C G ρ' σ' H pd ds vs k K hm r' p3 h' kk⟩
def jt (n:Nat) (m:MGs):Prop:=∀ ds ρ k,m ds ρ k → ds.length = n
theorem a6:jt 0 oe:=fun ds ρ k h => by cases ds with | nil => rfl | cons _ _ => exact h.elim
theorem ak {n:Nat} {i:Nat} (h:jt n mgs):jt (n + 1) (ix (ge i) mgs):=fun ds ρ k q => by
  cases ds with
  | nil => exact q.elim
  | cons d ds => simp [h ds _ _ q]
theorem b6 {kk:Nat} {n:Nat} (hc:X.calm = true) (h:QGs X M es mgs) (ht:jt n mgs)
    (hn:(assignEach es X.env).length = n:=by rfl) (hst:(assignEach es X.env).findIdx? (·.1) = none:=by rfl):QG X M (.Tuple es kk pos) (rZ mgs):=by
  obtain ⟨t,p,s⟩:=h
  refine ⟨_,mj hc p hn hst,fun C G ρ σ H pd d v k K hm r p h kk => ?_⟩
  cases d with
  | tup ds =>
    obtain ⟨a,xs,rfl,h1,h2⟩:=d4 p
    exact ⟨a,xs,rfl,SqT.of (r.gh _ _ h1),by rw [h2.length]; exact ht _ _ _ h,s C G ρ σ H pd ds xs k K hm r h2 h kk⟩
  | _ => exact h.elim
def mAsg (m:ME) (g:MG):MS:=fun n ρ => m ρ fun d ρ1 => g d ρ1 n.nx
theorem eh {tg:Expr} (he:QE X M.ow e ma) (hg:QG X M tg mg) (hs:swapsWithSole [tg] e pos.line X.env = pure false:=by rfl) (hw:swappedStores [tg] e X.env = pure none:=by rfl)
    (h1:(assignEach [tg] X.env).map (·.2) = [assign tg X.env]:=by rfl):QS X M (.Assign [tg] e pos) (mAsg ma mg):=by
  obtain ⟨t,p,s⟩:=he; obtain ⟨t2,p2,s2⟩:=hg
  refine ⟨_,mK p p2 hs hw h1,fun C G ρ σ H n D hm hn r h k => s C G ρ σ H [] _ _ r h fun d ρ' v G' H' hq z kp r' p => ?_⟩
  exact s2 C G' ρ' σ H' [] d v _ _ hm r' p hq fun ρ2 σ2 h2 r2 => k.nx ρ2 σ2 G' H' h2 z r2
def mDrop (m:ME):MS:=fun n ρ => m ρ fun _ ρ1 => n.nx ρ1
theorem bR (he:QE X M.ow e ma) (hs:swapsWith e none pos.line X.env = pure false:=by rfl):QS X M (.Expr e pos) (mDrop ma):=by
  obtain ⟨t,p,s⟩:=he
  exact ⟨_,gH p hs,fun C G ρ σ H n D hm hn r h k => s C G ρ σ H [] _ _ r h fun d ρ' v G' H' hq z kp r' p => k.nx ρ' σ G' H' hq z r'⟩
def nN (i:Nat) (m:ME):MS:=fun n ρ => match ρ[i]? with
  | some (some (.lst _)) => m ρ fun d ρ1 => match ρ1[i]? with
    | some (some (.lst ds)) => ds.length < 1000 ∧ n.nx (ρ1.set i (some (.lst (ds ++ [d]))))
    | _ => False
  | _ => False
theorem dG {i:Nat} {x:Str} {apos cpos npos:Pos} (hN:X.N[i]? = some x) (he:QF X M.ow e ma) (ho:M.ow[i]? = some true:=by decide)
    (hv:Vis X.env.scope x:=by first | exact Or.inl rfl | exact Or.inr (Or.inl rfl) | exact Or.inr (Or.inr rfl)) (hd:(x == ("__debug__":Str)) = false:=by decide) (hcd:(x == ("__classdict__":Str)) = false:=by decide)
    (hbase:attributeBase (.Name x npos) "append" X.env (eval (.Name x npos) X.env) = eval (.Name x npos) X.env:=by rfl)
    (hfew:((backTo cpos (starEach [e] X.env)).all (fun x => !x.1) && (backToKw cpos (keywordEach [] X.env)).all (fun x => x.1.isSome)
      && decide ([e].length + ([]:List Keyword).length + (if ([]:List Keyword).isEmpty then 0 else 1) < 30)) = true:=by rfl)
    (hline:(apos.endLine == cpos.line) = true:=by rfl) (hst:starEach [e] X.env = [(false,eval e X.env)]:=by rfl)
    (hs:swapsWith (.Call (.Attribute (.Name x npos) "append" apos) [e] [] cpos) none pos.line X.env = pure false:=by rfl) :
    QS X M (.Expr (.Call (.Attribute (.Name x npos) "append" apos) [e] [] cpos) pos) (nN i ma):=by
  obtain ⟨t,p,s⟩:=he
  refine ⟨_,gH (rD PySem.F.plainAttrs_list PySem.F.slot_list_append PySem.F.type_list_append jb (d6 hN hv hd hcd) (cD p fw hst) hbase hfew hline hst (by rfl)) hs,fun C G ρ σ H n D hm hn r h k => ?_⟩
  unfold nN at h
  split at h
  · rename_i ds e1
    obtain ⟨O,ro⟩:=r
    obtain ⟨a,xs,h1,h2,_,_⟩:=ro.write e1 ho
    refine ⟨.ref a,h1,.inl ⟨rfl,xs,SqL.of h2⟩,?_⟩
    refine s C G ρ σ H [] _ _ ⟨O,ro⟩ h fun d ρ' v G' H' hq z kp r' => ?_
    split at hq
    · rename_i ds' e2
      obtain ⟨O',r'⟩:=r'
      obtain ⟨O2,r2,s2,s3⟩:=r'.join i ds'.length (by rw [hn]; exact Nat.zero_le _)
      obtain ⟨a',xs',g1,g2,g3,g4⟩:=r2.write e2 ho
      rw [h1] at g1; cases g1
      have hl:=g3.length
      refine ⟨a,xs',v,rfl,rfl,g2,by rw [hl]; exact cL (Nat.le_of_lt hq.1),?_⟩
      exact k.nx _ _ G' _ hq.2 z ⟨O2,g4 _ _ (g3.snoc (by simpa using s2))⟩
    · exact hq.elim
  · exact h.elim
def mSetI (i:Nat) (mk m:ME):MS:=fun n ρ => m ρ fun d ρ1 => match ρ1[i]? with
  | some (some (.lst _)) => mk ρ1 fun k ρ2 => match ρ2[i]? with
    | some (some (.lst ds)) => match k with
      | .int j => match ixN ds.length j with
        | some p => n.nx (ρ2.set i (some (.lst (ds.set p d))))
        | none => False
      | _ => False
    | _ => False
  | _ => False
theorem kf {i:Nat} {x:Str} {npos spos:Pos} (hN:X.N[i]? = some x) (he:QF X M.ow e ma) (hk:QE X M.ow b mb) (ho:M.ow[i]? = some true:=by decide)
    (hv:Vis X.env.scope x:=by first | exact Or.inl rfl | exact Or.inr (Or.inl rfl) | exact Or.inr (Or.inr rfl)) (hd:(x == ("__debug__":Str)) = false:=by decide) (hcd:(x == ("__classdict__":Str)) = false:=by decide)
    (ha:∀ v,assign (.Subscript (.Name x npos) b spos) X.env v = (do
      let ov ← holding [v] (eval (.Name x npos) X.env)
      let iv ← holding [v,ov] (eval b X.env)
      standAt spos
      holding [v,ov,iv] (setItem ov iv v)
      release [v,ov,iv] []):=by intro _; rfl)
    (hs:swapsWithSole [.Subscript (.Name x npos) b spos] e pos.line X.env = pure false:=by rfl) (hw:swappedStores [.Subscript (.Name x npos) b spos] e X.env = pure none:=by rfl)
    (h1:(assignEach [.Subscript (.Name x npos) b spos] X.env).map (·.2) = [assign (.Subscript (.Name x npos) b spos) X.env]:=by rfl) :
    QS X M (.Assign [.Subscript (.Name x npos) b spos] e pos) (mSetI i mb ma):=by
  obtain ⟨t,p,s⟩:=he; obtain ⟨t2,p2,s2⟩:=hk
  refine ⟨_,mK p (w5 (d6 hN hv hd hcd) p2 ln ha) hs hw h1,fun C G ρ σ H n D hm hn r h k => s C G ρ σ H [] _ _ r h fun d ρ' v G' H' hq z kp r' => ?_⟩
  split at hq
  · rename_i ds0 e0
    obtain ⟨O0,ro⟩:=r'
    obtain ⟨a,xs,hu,_,_,_⟩:=ro.write e0 ho
    refine ⟨.ref a,hu,?_⟩
    refine s2 C G' ρ' σ H' _ _ _ ⟨O0,ro⟩ hq fun dk ρ2 jv G2 H2 hq2 z2 kp2 r2 pj => ?_
    split at hq2
    · rename_i ds e2
      cases dk with
      | int j =>
        dsimp only at hq2
        split at hq2
        · rename_i pl e3
          obtain ⟨O',r2⟩:=r2
          obtain ⟨O2,r3,w2,w3⟩:=r2.join i pl (by rw [hn]; exact Nat.zero_le _)
          obtain ⟨a',xs',g1,g2,g3,g4⟩:=r3.write e2 ho
          rw [hu] at g1; cases g1
          refine ⟨a,xs',j,pl,rfl,aA pj,g2,by rw [g3.length]; exact e3,?_⟩
          exact k.nx _ _ G2 _ hq2 (z.trans z2) ⟨O2,g4 _ _ (g3.set (by simpa using w2))⟩
        · exact hq2.elim
      | _ => exact hq2.elim
    · exact hq2.elim
  · exact hq.elim
def wg (mt:MT) (mb:MS):MS:=fun n ρ => ∃ W:Nat → DSt → Prop,(∃ k,W k ρ) ∧ ∀ k ρ,W k ρ → mt ρ fun b ρ1 =>
  if b = true then mb { n with nx:=fun ρ' => ∃ k',k' < k ∧ W k' ρ',ct:=fun ρ' => ∃ k',k' < k ∧ W k' ρ',bk:=n.nx } ρ1 else n.nx ρ1
theorem eI {body:List Stmt} (hp:PassesOwn (model X.prog X.w) X.A X.env X.xe) (hc:QT X M.ow c mt) (hb:QSs X M body m):QS X M (.While c body [] pos) (wg mt m):=by
  obtain ⟨t,p,s⟩:=hc; obtain ⟨t2,p2,s2⟩:=hb
  refine ⟨_,qE hp p p2,fun C G ρ σ H n D hm hn r h k => ?_⟩
  obtain ⟨W,⟨k0,w0⟩,turn⟩:=h
  refine ⟨fun j σ' H' => ∃ G' ρ',aR G G' ∧ R C M.ow G' ρ' σ' H' [] ∧ W j ρ',⟨k0,G,ρ,aR.refl _,r,w0⟩,?_⟩
  rintro j σ' H' ⟨G',ρ',z,r',w⟩
  refine s C G' ρ' σ' H' [] _ _ r' (turn j ρ' w) fun b ρ1 G1 H1 hq z1 kp r1 => ?_
  cases b with
  | true =>
    rw [if_pos rfl] at hq ⊢
    refine ⟨fun σ2 H2 => ∃ j',j' < j ∧ ∃ G2 ρ2,aR G G2 ∧ R C M.ow G2 ρ2 σ2 H2 [] ∧ W j' ρ2,fun σ2 H2 h => h,?_⟩
    refine s2 C G1 ρ1 σ' H1 _ _ hm hn r1 hq ⟨?_,?_,?_,?_⟩
    · rintro ρ2 σ2 G2 H2 ⟨j',hj,w'⟩ z2 r2; exact ⟨j',hj,G2,ρ2,z.trans (z1.trans z2),r2,w'⟩
    · intro ρ2 σ2 G2 H2 h z2 r2; exact k.nx ρ2 σ2 G2 H2 h (z.trans (z1.trans z2)) r2
    · rintro ρ2 σ2 G2 H2 ⟨j',hj,w'⟩ z2 r2; exact ⟨j',hj,G2,ρ2,z.trans (z1.trans z2),r2,w'⟩
    · intro d ρ2 σ2 v G2 H2 h z2 r2; exact k.rt d ρ2 σ2 v G2 H2 h (z.trans (z1.trans z2)) r2
  | false => rw [if_neg (by decide)] at hq ⊢; exact k.nx ρ1 σ' G1 H1 hq (z.trans z1) r1
def l8 (J:It) (G:Hp) (ds:List D):Prop:=∀ (C:Ctx) (ow:List Bool) (G':Hp) (ρ:DSt) (σ:St) (H:Hp) (pd:List (D × V)) (i:Nat),aR G G' → R C ow G' ρ σ H pd →
  (ds.length ≤ i → J.stop i H) ∧ ∀ d,ds[i]? = some d → J.go i H ∧ ∀ x H',J.yld i H x H' → ∃ G2,aR G' G2 ∧ R C ow G2 ρ σ H' pd ∧ Rep G2 d x
def SI (ow:List Bool) (wi:TI) (mi:MA):Prop:=∀ (C:Ctx) (G:Hp) (ρ:DSt) (σ:St) (H:Hp) (pd:List (D × V)) (q:List D → DSt → Prop) (Q:It → Hp → Prop),R C ow G ρ σ H pd → mi ρ q →
  (∀ ds ρ' G' H' J,q ds ρ' → aR G G' → Kp ow ρ ρ' → R C ow G' ρ' σ H' pd → l8 J G' ds → Q J H') → wi σ H Q
structure QI (X:Cx) (ow:List Bool) (tg iter:Expr) (mi:MA):Prop where
  ex:∃ t,PI X tg iter t ∧ SI ow t mi
def forD (g:MG) (mb:MS) (n:EndsD) (ds:List D) (ρ:DSt):Prop:=∃ I:Nat → DSt → Prop,I 0 ρ ∧
  (∀ i d ρ,ds[i]? = some d → I i ρ → g d ρ fun ρ1 => mb { n with nx:=I (i + 1),ct:=I (i + 1),bk:=n.nx } ρ1) ∧ ∀ ρ,I ds.length ρ → n.nx ρ
def mFor (mi:MA) (g:MG) (mb:MS):MS:=fun n ρ => mi ρ fun ds ρ1 => forD g mb n ds ρ1
theorem b2 {mi:MA} {tg iter:Expr} {body:List Stmt} (hp:PassesOwn (model X.prog X.w) X.A X.env X.xe) (hc:X.calm = true) (hi:QI X M.ow tg iter mi) (hg:QG X M tg mg) (hb:QSs X M body m)
    (hs:∀ x,foldedSetIterable iter X.env x = pure x:=by intro _; rfl):QS X M (.For tg iter body [] pos) (mFor mi mg m):=by
  obtain ⟨ti,pi,si⟩:=hi; obtain ⟨tg',pg,sg⟩:=hg; obtain ⟨tb,pb,sb⟩:=hb
  refine ⟨_,uU hp hc pi pg pb hs,fun C G ρ σ H n D hm hn r h k => si C G ρ σ H [] _ _ r h fun ds ρ0 G0 H0 J hq z0 kp r0 jo => ?_⟩
  obtain ⟨I,i0,turn,fin⟩:=hq
  refine ⟨fun i j σ' H' => j = ds.length - i ∧ i ≤ ds.length ∧ ∃ G' ρ',aR G0 G' ∧ R C M.ow G' ρ' σ' H' [] ∧ I i ρ',⟨_,rfl,Nat.zero_le _,G0,ρ0,aR.refl _,r0,i0⟩,?_⟩
  rintro i j σ' H' ⟨rfl,hi,G',ρ',z,r',w⟩
  obtain ⟨st,go⟩:=jo C M.ow G' ρ' σ' H' [] i z r'
  by_cases hlt:i < ds.length
  · obtain ⟨g1,g2⟩:=go ds[i] (List.getElem?_eq_getElem hlt)
    refine .inr ⟨g1,fun σ2 H2 => ∃ G2 ρ2,aR G0 G2 ∧ R C M.ow G2 ρ2 σ2 H2 [] ∧ I (i + 1) ρ2,fun σ2 H2 h => ⟨ds.length - (i + 1),by omega,rfl,hlt,h⟩,fun x H1 hy => ?_⟩
    obtain ⟨G1,z1,r1,p1⟩:=g2 x H1 hy
    refine sg C G1 ρ' σ' H1 [] ds[i] x _ _ hm r1 p1 (turn i ds[i] ρ' (List.getElem?_eq_getElem hlt) w) fun ρ2 σ2 h2 r2 => ?_
    refine sb C G1 ρ2 σ2 H1 _ _ hm hn r2 h2 ⟨?_,?_,?_,?_⟩
    · intro ρ3 σ3 G3 H3 h3 z3 r3; exact ⟨G3,ρ3,z.trans (z1.trans z3),r3,h3⟩
    · intro ρ3 σ3 G3 H3 h3 z3 r3; exact k.nx ρ3 σ3 G3 H3 h3 (z0.trans (z.trans (z1.trans z3))) r3
    · intro ρ3 σ3 G3 H3 h3 z3 r3; exact ⟨G3,ρ3,z.trans (z1.trans z3),r3,h3⟩
    · intro d ρ3 σ3 v G3 H3 h3 z3 r3; exact k.rt d ρ3 σ3 v G3 H3 h3 (z0.trans (z.trans (z1.trans z3))) r3
  · have e:i = ds.length:=by omega
    subst e
    exact .inl ⟨st (Nat.le_refl _),k.nx ρ' σ' G' H' (fin ρ' w) (z0.trans z) r'⟩
end
section
variable {X:Cx} {ow:List Bool} {a b c e tg:Expr} {ma mb mc:ME} {pos:Pos} {mr:MA} {es:List Expr}
theorem vL {K:PySem.W.Frag} {G:Hp} {p:Addr} {xs:List V} {ds:List D} (h1:G p = some (.lst xs)) (h2:Reps G ds xs):l8 (Itl K p) G ds:=fun C ow G' ρ σ H pd i z r => by
  have hp:=r.gh _ _ (z _ _ h1)
  refine ⟨fun hl => ⟨xs,SqL.of hp,by rw [h2.length]; exact hl⟩,fun d e => ?_⟩
  obtain ⟨v,e1,e2⟩:=dS h2 e
  refine ⟨⟨xs,v,SqL.of hp,e1⟩,fun x H' hy => ?_⟩
  obtain ⟨rfl,hy⟩:=hy
  have:=hy xs (SqL.of hp)
  rw [e1] at this; cases this
  exact ⟨G',aR.refl _,r,Rep.mono z _ _ e2⟩
def miLst (m:ME):MA:=fun ρ q => m ρ fun d ρ' => match d with
  | .lst ds => q ds ρ'
  | _ => False
theorem bo (h:QE X ow e ma):QI X ow tg e (miLst ma):=by
  obtain ⟨t,p,s⟩:=h
  refine ⟨_,tQ p,fun C G ρ σ H pd q Q r hm k => s C G ρ σ H pd _ _ r hm fun d ρ' v G' H' hq z kp r' p => ?_⟩
  cases d with
  | lst ds => obtain ⟨a,xs,rfl,h1,h2⟩:=bi p; exact ⟨a,rfl,⟨xs,SqL.of (r'.gh _ _ h1)⟩,k ds ρ' G' H' _ hq z kp r' (vL h1 h2)⟩
  | _ => exact hq.elim
def ip (lo:Int) (n:Nat):List D:=(List.range n).map fun (i:Nat) => .int (lo + i)
theorem er {lo:Int} {n i:Nat} {d:D} (h:(ip lo n)[i]? = some d):i < n ∧ d = .int (lo + i):=by
  unfold ip at h
  rw [List.getElem?_map] at h
  by_cases c:i < n
  · rw [List.getElem?_range c] at h; exact ⟨c,(Option.some.inj h).symm⟩
  · rw [List.getElem?_eq_none (by simp; omega)] at h; cases h
theorem cP (lo:Int) (n:Nat):(ip lo n).length = n:=by unfold ip; simp
theorem rS {G:Hp} {lo:Int} {n:Nat}:l8 (Itr lo n) G (ip lo n):=fun C ow G' ρ σ H pd i z r => by
  refine ⟨fun hl => by rw [cP] at hl; exact hl,fun d e => ?_⟩
  obtain ⟨h1,rfl⟩:=er e
  refine ⟨h1,fun x H' hy => ?_⟩
  obtain ⟨rfl,rfl⟩:=hy
  exact ⟨G',aR.refl _,r,bq _⟩
def miR1 (m:MA):MA:=fun ρ q => m ρ fun ds ρ' => match ds with
  | [.int j] => (-(2 ^ 62) ≤ j ∧ j < 2 ^ 62) ∧ q (ip 0 j.toNat) ρ'
  | _ => False
def miR2 (m:MA):MA:=fun ρ q => m ρ fun ds ρ' => match ds with
  | [.int i,.int j] => (-(2 ^ 62) ≤ i ∧ i < 2 ^ 62 ∧ -(2 ^ 62) ≤ j ∧ j < 2 ^ 62) ∧ q (ip i (j - i).toNat) ρ'
  | _ => False
theorem gg {p:Pos} (hg:Gl X "range") (hm:X.mg "range" = none) (ha:QA X ow [a] mr) (hs:starEach [a] X.env = [(false,eval a X.env)]:=by rfl):QI X ow tg (.Call (.Name "range" p) [a] [] pos) (miR1 mr):=by
  obtain ⟨t,p,s⟩:=ha
  refine ⟨_,oZ hg hm p hs,fun C G ρ σ H pd q Q r hm k => s C G ρ σ H pd _ _ r hm fun ds ρ' vs G' H' hq z kp r' p hn => ?_⟩
  split at hq
  · obtain ⟨v,rfl,p1⟩:=bA p
    rw [aA p1]
    exact ⟨_,rfl,hq.1.1,hq.1.2,k _ ρ' G' H' _ hq.2 z kp r' rS⟩
  · exact hq.elim
theorem gq {p:Pos} (hg:Gl X "range") (hm:X.mg "range" = none) (ha:QA X ow [a,b] mr) (hs:starEach [a,b] X.env = [(false,eval a X.env),(false,eval b X.env)]:=by rfl) (hs2:starEach [b] X.env = [(false,eval b X.env)]:=by rfl):QI X ow tg (.Call (.Name "range" p) [a,b] [] pos) (miR2 mr):=by
  obtain ⟨t,p,s⟩:=ha
  refine ⟨_,o8 hg hm p hs hs2,fun C G ρ σ H pd q Q r hm k => s C G ρ σ H pd _ _ r hm fun ds ρ' vs G' H' hq z kp r' p hn => ?_⟩
  split at hq
  · obtain ⟨v,u,rfl,p1,p2⟩:=dg p
    rw [aA p1,aA p2]
    exact ⟨_,_,rfl,hq.1,k _ ρ' G' H' _ hq.2 z kp r' rS⟩
  · exact hq.elim
def k7 (ds:List D):List D:=ds.mapIdx fun i d => .tup [.int i,d]
theorem ib (ds:List D):(k7 ds).length = ds.length:=by unfold k7; simp
theorem c8 {ds:List D} {i:Nat} {d:D} (h:(k7 ds)[i]? = some d):∃ d',ds[i]? = some d' ∧ d = .tup [.int i,d']:=by
  unfold k7 at h
  rw [List.getElem?_mapIdx] at h
  cases e:ds[i]? with
  | none => rw [e] at h; cases h
  | some d' => rw [e] at h; exact ⟨d',rfl,(Option.some.inj h).symm⟩
theorem u_ {G:Hp} {p:Addr} {xs:List V} {ds:List D} (h1:G p = some (.lst xs)) (h2:Reps G ds xs):l8 (Ite p) G (k7 ds):=fun C ow G' ρ σ H pd i z r => by
  have hp:=r.gh _ _ (z _ _ h1)
  refine ⟨fun hl => ⟨xs,hp,by rw [h2.length]; rw [ib] at hl; exact hl⟩,fun d e => ?_⟩
  obtain ⟨d',e0,rfl⟩:=c8 e
  obtain ⟨v,e1,e2⟩:=dS h2 e0
  refine ⟨⟨xs,v,hp,e1⟩,fun x H' hy => ?_⟩
  obtain ⟨a,x',ha,rfl,rfl,hy⟩:=hy
  have:=hy xs hp
  rw [e1] at this; cases this
  obtain ⟨O,r⟩:=r
  obtain ⟨r2,s2⟩:=r.new ha (.tup [.int i,v])
  exact ⟨_,s2,⟨O,r2⟩,kN aW (bG (bq _) (bG (Rep.mono (z.trans s2) _ _ e2) bS))⟩
def miEnu (m:MA):MA:=fun ρ q => m ρ fun ds ρ' => match ds with
  | [.lst ds] => q (k7 ds) ρ'
  | _ => False
theorem dr {k:Nat} {tpos p:Pos} (hg:Gl X "enumerate") (hm:X.mg "enumerate" = none) (ha:QA X ow [a] mr) (hs:starEach [a] X.env = [(false,eval a X.env)]:=by rfl):QI X ow (.Tuple es k tpos) (.Call (.Name "enumerate" p) [a] [] pos) (miEnu mr):=by
  obtain ⟨t,p,s⟩:=ha
  refine ⟨_,tW hg hm p hs,fun C G ρ σ H pd q Q r hm k => s C G ρ σ H pd _ _ r hm fun ds ρ' vs G' H' hq z kp r' p hn => ?_⟩
  split at hq
  · obtain ⟨v,rfl,p1⟩:=bA p
    obtain ⟨a,xs,rfl,h1,h2⟩:=bi p1
    exact ⟨a,rfl,⟨xs,r'.gh _ _ h1⟩,k _ ρ' G' H' _ hq z kp r' (u_ h1 h2)⟩
  · exact hq.elim
def uh (i:Nat):ME:=fun ρ q => match ρ[i]? with
  | some (some d) => q d (ρ.set i none)
  | _ => False
end
inductive AK where
  | s | m (i:Nat) | t
def AK.isM:AK → Bool
  | .s => false
  | _ => true
def ik (G:Hp) (σ:St):List AK → List D → List V → List (D × V) → Prop
  | [],[],[],[] => True
  | .s :: ks,d :: ds,v :: vs,T => Rep G d v ∧ ik G σ ks ds vs T
  | .m i :: ks,_ :: ds,v :: vs,T => σ[i]? = some (some v) ∧ ik G σ ks ds vs T
  | .t :: ks,d :: ds,v :: vs,x :: T => x = (d,v) ∧ ik G σ ks ds vs T
  | _,_,_,_ => False
def SAk (ow:List Bool) (ks:List AK) (t:TA) (m:MA):Prop:=∀ (C:Ctx) (G:Hp) (ρ:DSt) (σ:St) (H:Hp) (pd:List (D × V)) (q:List D → DSt → Prop) (Q:List V → Hp → Prop),R C ow G ρ σ H pd → m ρ q →
  (∀ ds ρ' vs T G' H',q ds ρ' → aR G G' → Kp ow ρ ρ' → R C ow G' ρ' σ H' (T.reverse ++ pd) → ik G' σ ks ds vs T → Q vs H') → t σ H Q
structure QAk (X:Cx) (ow:List Bool) (ks:List AK) (es:List Expr) (m:MA):Prop where
  ex:∃ t,PA X es t ∧ SAk ow ks t m
section
variable {X:Cx} {ow:List Bool} {a b c e tg:Expr} {ma mb mc:ME} {pos:Pos} {mr:MA} {es:List Expr} {ks:List AK}
theorem ah:QAk X ow [] [] oz:=⟨_,fw,fun C G ρ σ H pd q Q r h k => k [] ρ [] [] G H h (aR.refl _) Kp.refl r trivial⟩
theorem ai (ha:QE X ow e ma) (hr:QAk X ow ks es mr) (hs:starEach (e :: es) X.env = (false,eval e X.env) :: starEach es X.env:=by rfl):QAk X ow (.s :: ks) (e :: es) (fo ma mr):=by
  obtain ⟨t,p,s⟩:=ha; obtain ⟨t2,p2,s2⟩:=hr
  refine ⟨_,cD p p2 hs,fun C G ρ σ H pd q Q r hm k => s C G ρ σ H pd _ _ r hm fun d ρ' v G' H' hq z kp r' p => ?_⟩
  exact s2 C G' ρ' σ H' pd _ _ r' hq fun ds ρ2 vs T G2 H2 hq2 z2 kp2 r2 p2 => k (d :: ds) ρ2 (v :: vs) T G2 H2 hq2 (z.trans z2) (kp.trans kp2) r2 ⟨Rep.mono z2 _ _ p,p2⟩
theorem qk_t (ha:QF X ow e ma) (hr:QAk X ow ks es mr) (hs:starEach (e :: es) X.env = (false,eval e X.env) :: starEach es X.env:=by rfl):QAk X ow (.t :: ks) (e :: es) (fo ma mr):=by
  obtain ⟨t,p,s⟩:=ha; obtain ⟨t2,p2,s2⟩:=hr
  refine ⟨_,cD p p2 hs,fun C G ρ σ H pd q Q r hm k => s C G ρ σ H pd _ _ r hm fun d ρ' v G' H' hq z kp r' => ?_⟩
  exact s2 C G' ρ' σ H' _ _ _ r' hq fun ds ρ2 vs T G2 H2 hq2 z2 kp2 r2 p2 => k (d :: ds) ρ2 (v :: vs) ((d,v) :: T) G2 H2 hq2 (z.trans z2) (kp.trans kp2) (by simpa using r2) ⟨rfl,p2⟩
def qQ (i:Nat) (r:MA):MA:=fun ρ q => match ρ[i]? with
  | some (some _) => r ρ fun ds ρ2 => q (.non :: ds) ρ2
  | _ => False
theorem dn (i:Nat) {x:Str} (hr:QAk X ow ks es mr) (hN:X.N[i]? = some x:=by rfl) (hv:Vis X.env.scope x:=by first | exact Or.inl rfl | exact Or.inr (Or.inl rfl) | exact Or.inr (Or.inr rfl)) (hd:(x == ("__debug__":Str)) = false:=by decide)
    (hcd:(x == ("__classdict__":Str)) = false:=by decide) (hs:starEach (.Name x pos :: es) X.env = (false,eval (.Name x pos) X.env) :: starEach es X.env:=by rfl):QAk X ow (.m i :: ks) (.Name x pos :: es) (qQ i mr):=by
  obtain ⟨t2,p2,s2⟩:=hr
  refine ⟨_,cD (d6 hN hv hd hcd) p2 hs,fun C G ρ σ H pd q Q r hm k => ?_⟩
  unfold qQ at hm
  split at hm
  · rename_i d e
    obtain ⟨O,ro⟩:=r
    obtain ⟨v,h1,_⟩:=ro.sl i d e
    exact ⟨v,h1,s2 C G ρ σ H pd _ _ ⟨O,ro⟩ hm fun ds ρ2 vs T G2 H2 hq2 z2 kp2 r2 p2 => k (.non :: ds) ρ2 (v :: vs) T G2 H2 hq2 z2 kp2 r2 ⟨h1,p2⟩⟩
  · exact hm.elim
def dE:List AK → List D → DSt → Option (List D)
  | [],[],_ => some []
  | .s :: ks,d :: ds,ρ => (dE ks ds ρ).map (d :: ·)
  | .t :: ks,d :: ds,ρ => (dE ks ds ρ).map (d :: ·)
  | .m i :: ks,_ :: ds,ρ => match ρ[i]? with
    | some (some d) => (dE ks ds ρ).map (d :: ·)
    | _ => none
  | _,_,_ => none
def lbs:List AK → Nat → List (Option Nat)
  | [],_ => []
  | .s :: ks,r => none :: lbs ks r
  | .m i :: ks,r => some (2 * i) :: lbs ks r
  | .t :: ks,r => some (2 * r + 1) :: lbs ks (r + 1)
def aO:List AK → List Nat
  | [] => []
  | .m i :: ks => i :: aO ks
  | _ :: ks => aO ks
def fnd (l:Nat):List (Option Nat) → Nat → Option Nat
  | [],_ => none
  | x :: xs,k => if x = some l then some k else fnd l xs (k + 1)
theorem ra {l:Nat}:∀ {xs:List (Option Nat)} {k j:Nat},fnd l xs k = some j → ∃ i,j = k + i ∧ xs[i]? = some (some l)
  | [],_,_,h => by cases h
  | x :: xs,k,j,h => by
    unfold fnd at h
    split at h
    · rename_i c; cases h; exact ⟨0,rfl,by simp [c]⟩
    · obtain ⟨i,rfl,e⟩:=ra h; exact ⟨i + 1,by omega,by simpa using e⟩
theorem lg {l:Nat}:∀ {xs:List (Option Nat)} {k:Nat},(∀ i:Nat,xs[i]? ≠ some (some l)) → fnd l xs k = none
  | [],_,_ => rfl
  | x :: xs,k,h => by
    unfold fnd
    rw [if_neg (fun c => h 0 (by simp [c]))]
    exact lg fun i => by simpa using h (i + 1)
theorem pV {l:Nat}:∀ {xs:List (Option Nat)} {k i:Nat},(∀ (i j:Nat) (l:Nat),xs[i]? = some (some l) → xs[j]? = some (some l) → i = j) → xs[i]? = some (some l) → fnd l xs k = some (k + i)
  | [],_,_,_,h => by simp at h
  | x :: xs,k,i,u,h => by
    unfold fnd
    by_cases c:x = some l
    · rw [if_pos c]
      have:=u 0 i l (by simp [c]) h
      subst this; rfl
    · rw [if_neg c]
      cases i with
      | zero => simp at h; exact absurd h c
      | succ i =>
        have:=pV (k:=k + 1) (i:=i) (fun i j l a b => by have:=u (i + 1) (j + 1) l (by simpa using a) (by simpa using b); omega) (by simpa using h)
        rw [this]; congr 1; omega
theorem cZ:∀ {ks:List AK} {r:Nat} {i l:Nat},(lbs ks r)[i]? = some (some l) → (∃ j ∈ aO ks,l = 2 * j) ∨ ∃ j,r ≤ j ∧ l = 2 * j + 1
  | [],_,_,_,h => by simp [lbs] at h
  | .s :: ks,r,0,l,h => by simp [lbs] at h
  | .s :: ks,r,i + 1,l,h => by simp only [lbs,List.getElem?_cons_succ] at h; have:=cZ (ks:=ks) h; simpa [aO] using this
  | .m j :: ks,r,0,l,h => by simp [lbs] at h; exact .inl ⟨j,by simp [aO],h.symm⟩
  | .m j :: ks,r,i + 1,l,h => by
    simp only [lbs,List.getElem?_cons_succ] at h
    rcases cZ h with ⟨z,h1,h2⟩ | h
    · exact .inl ⟨z,by simp [aO,h1],h2⟩
    · exact .inr h
  | .t :: ks,r,0,l,h => by simp [lbs] at h; exact .inr ⟨r,Nat.le_refl _,h.symm⟩
  | .t :: ks,r,i + 1,l,h => by
    simp only [lbs,List.getElem?_cons_succ] at h
    rcases cZ h with ⟨z,h1,h2⟩ | ⟨j,h1,h2⟩
    · exact .inl ⟨z,by simpa [aO] using h1,h2⟩
    · exact .inr ⟨j,by omega,h2⟩
theorem fH:∀ {ks:List AK} {r:Nat},(aO ks).Nodup → ∀ (i j l:Nat),(lbs ks r)[i]? = some (some l) → (lbs ks r)[j]? = some (some l) → i = j
  | [],_,_,i,j,l,h,_ => by simp [lbs] at h
  | .s :: ks,r,nd,0,j,l,h,_ => by simp [lbs] at h
  | .s :: ks,r,nd,i + 1,0,l,_,h => by simp [lbs] at h
  | .s :: ks,r,nd,i + 1,j + 1,l,h,h2 => by simp only [lbs,List.getElem?_cons_succ] at h h2; rw [fH (ks:=ks) (by simpa [aO] using nd) i j l h h2]
  | .m a :: ks,r,nd,0,0,l,_,_ => rfl
  | .m a :: ks,r,nd,0,j + 1,l,h,h2 => by
    simp only [lbs,List.getElem?_cons_succ] at h2; simp [lbs] at h
    simp only [aO,List.nodup_cons] at nd
    rcases cZ h2 with ⟨z,h3,h4⟩ | ⟨z,h3,h4⟩
    · exact absurd h3 (by rw [show z = a by omega]; exact nd.1)
    · omega
  | .m a :: ks,r,nd,i + 1,0,l,h2,h => by
    simp only [lbs,List.getElem?_cons_succ] at h2; simp [lbs] at h
    simp only [aO,List.nodup_cons] at nd
    rcases cZ h2 with ⟨z,h3,h4⟩ | ⟨z,h3,h4⟩
    · exact absurd h3 (by rw [show z = a by omega]; exact nd.1)
    · omega
  | .m a :: ks,r,nd,i + 1,j + 1,l,h,h2 => by
    simp only [aO,List.nodup_cons] at nd
    simp only [lbs,List.getElem?_cons_succ] at h h2; rw [fH (ks:=ks) nd.2 i j l h h2]
  | .t :: ks,r,nd,0,0,l,_,_ => rfl
  | .t :: ks,r,nd,0,j + 1,l,h,h2 => by
    simp only [lbs,List.getElem?_cons_succ] at h2; simp [lbs] at h
    rcases cZ h2 with ⟨z,h3,h4⟩ | ⟨z,h3,h4⟩ <;> omega
  | .t :: ks,r,nd,i + 1,0,l,h2,h => by
    simp only [lbs,List.getElem?_cons_succ] at h2; simp [lbs] at h
    rcases cZ h2 with ⟨z,h3,h4⟩ | ⟨z,h3,h4⟩ <;> omega
  | .t :: ks,r,nd,i + 1,j + 1,l,h,h2 => by simp only [lbs,List.getElem?_cons_succ] at h h2; rw [fH (ks:=ks) (by simpa [aO] using nd) i j l h h2]
end
theorem e_ {G H:Hp} {O:Own}:∀ {T pd:List (D × V)},cn G H O (T ++ pd) → cn G H O pd
  | [],_,h => h
  | _ :: T,_,h => e_ (T:=T) h.2
theorem kT {G H:Hp} {O:Own}:∀ {T pd:List (D × V)} {j:Nat} {x:D × V},cn G H O (T.reverse ++ pd) → T[j]? = some x → Sep G H O (2 * (pd.length + j) + 1) x.1 [] x.2
  | [],_,_,_,_,e => by simp at e
  | y :: T,pd,j,x,h,e => by
    have h':cn G H O (T.reverse ++ (y :: pd)):=by simpa using h
    cases j with
    | zero => simp at e; subst e; exact (e_ h').1
    | succ j =>
      have:=kT (j:=j) h' (by simpa using e)
      rw [show pd.length + (j + 1) = (y :: pd).length + j by simp; omega]
      exact this
theorem gL {G H:Hp} {O:Own} {σ:St} {ρ:DSt}:∀ {ks:List AK} {ds ds':List D} {vs:List V} {T:List (D × V)} {r:Nat},ik G σ ks ds vs T → dE ks ds ρ = some ds' →
    (∀ (j:Nat) x,T[j]? = some x → Sep G H O (2 * (r + j) + 1) x.1 [] x.2) → (∀ i ∈ aO ks,∀ d,ρ[i]? = some (some d) → ∃ v,σ[i]? = some (some v) ∧ Sep G H O (2 * i) d [] v) →
    ds'.length = vs.length ∧ vs.length = ks.length ∧ ∀ (k:Nat) d,ds'[k]? = some d → ∃ v,vs[k]? = some v ∧ ((∃ l,(lbs ks r)[k]? = some (some l) ∧ (ks.map AK.isM)[k]? = some true ∧ Sep G H O l d [] v) ∨ ((ks.map AK.isM)[k]? = some false ∧ Rep G d v))
  | [],[],ds',[],[],r,_,hf,_,_ => by simp [dE] at hf; subst hf; exact ⟨rfl,rfl,fun k d e => by simp at e⟩
  | .s :: ks,d :: ds,ds',v :: vs,T,r,h,hf,hT,hS => by
    rw [dE] at hf
    cases e:dE ks ds ρ with
    | none => rw [e] at hf; cases hf
    | some es =>
      rw [e] at hf; cases hf
      obtain ⟨l1,l2,ih⟩:=gL (ks:=ks) h.2 e hT (fun i hi => hS i (by simpa [aO] using hi))
      refine ⟨by simp [l1],by simp [l2],fun k d' e' => ?_⟩
      cases k with
      | zero => simp at e'; subst e'; exact ⟨v,rfl,.inr ⟨rfl,h.1⟩⟩
      | succ k => obtain ⟨u,g1,g2⟩:=ih k d' (by simpa using e'); exact ⟨u,by simpa using g1,by simpa [lbs] using g2⟩
  | .m i :: ks,d :: ds,ds',v :: vs,T,r,h,hf,hT,hS => by
    rw [dE] at hf
    cases e0 : ρ[i]? with
    | none => rw [e0] at hf; cases hf
    | some o =>
      cases o with
      | none => rw [e0] at hf; cases hf
      | some d0 =>
        rw [e0] at hf
        dsimp only at hf
        cases e:dE ks ds ρ with
        | none => rw [e] at hf; cases hf
        | some es =>
          rw [e] at hf; cases hf
          obtain ⟨l1,l2,ih⟩:=gL (ks:=ks) h.2 e hT (fun i hi => hS i (by simp [aO,hi]))
          refine ⟨by simp [l1],by simp [l2],fun k d' e' => ?_⟩
          cases k with
          | zero =>
            simp at e'; subst e'
            obtain ⟨u,g1,g2⟩:=hS i (by simp [aO]) d0 e0
            rw [h.1] at g1; cases g1
            exact ⟨v,rfl,.inl ⟨2 * i,by simp [lbs],rfl,g2⟩⟩
          | succ k => obtain ⟨u,g1,g2⟩:=ih k d' (by simpa using e'); exact ⟨u,by simpa using g1,by simpa [lbs] using g2⟩
  | .t :: ks,d :: ds,ds',v :: vs,x :: T,r,h,hf,hT,hS => by
    rw [dE] at hf
    cases e:dE ks ds ρ with
    | none => rw [e] at hf; cases hf
    | some es =>
      rw [e] at hf; cases hf
      obtain ⟨l1,l2,ih⟩:=gL (ks:=ks) (r:=r + 1) h.2 e (fun j x e => by rw [show r + 1 + j = r + (j + 1) by omega]; exact hT (j + 1) x (by simpa using e)) (fun i hi => hS i (by simpa [aO] using hi))
      refine ⟨by simp [l1],by simp [l2],fun k d' e' => ?_⟩
      cases k with
      | zero =>
        simp at e'; subst e'
        have:=hT 0 x rfl
        rw [h.1] at this
        exact ⟨v,rfl,.inl ⟨2 * r + 1,by simp [lbs],rfl,this⟩⟩
      | succ k => obtain ⟨u,g1,g2⟩:=ih k d' (by simpa using e'); exact ⟨u,by simpa using g1,by simpa [lbs] using g2⟩
  | [],_ :: _,_,_,_,_,h,_,_,_ => h.elim
  | [],[],_,_ :: _,_,_,h,_,_,_ => h.elim
  | [],[],_,[],_ :: _,_,h,_,_,_ => h.elim
  | .s :: _,[],_,_,_,_,h,_,_,_ => h.elim
  | .s :: _,_ :: _,_,[],_,_,h,_,_,_ => h.elim
  | .m _ :: _,[],_,_,_,_,h,_,_,_ => h.elim
  | .m _ :: _,_ :: _,_,[],_,_,h,_,_,_ => h.elim
  | .t :: _,[],_,_,_,_,h,_,_,_ => h.elim
  | .t :: _,_ :: _,_,[],_,_,h,_,_,_ => h.elim
  | .t :: _,_ :: _,_,_ :: _,[],_,h,_,_,_ => h.elim
theorem e9 {G:Hp} {σ:St}:∀ {ks:List AK} {ds:List D} {vs:List V} {T:List (D × V)} {k i:Nat},ik G σ ks ds vs T → ks[k]? = some (.m i) → ∃ v,vs[k]? = some v ∧ σ[i]? = some (some v)
  | [],_,_,_,k,i,_,e => by simp at e
  | .s :: ks,d :: ds,v :: vs,T,0,i,h,e => by simp at e
  | .s :: ks,d :: ds,v :: vs,T,k + 1,i,h,e => by obtain ⟨u,g1,g2⟩:=e9 (k:=k) h.2 (by simpa using e); exact ⟨u,by simpa using g1,g2⟩
  | .m j :: ks,d :: ds,v :: vs,T,0,i,h,e => by simp at e; subst e; exact ⟨v,rfl,h.1⟩
  | .m j :: ks,d :: ds,v :: vs,T,k + 1,i,h,e => by obtain ⟨u,g1,g2⟩:=e9 (k:=k) h.2 (by simpa using e); exact ⟨u,by simpa using g1,g2⟩
  | .t :: ks,d :: ds,v :: vs,x :: T,0,i,h,e => by simp at e
  | .t :: ks,d :: ds,v :: vs,x :: T,k + 1,i,h,e => by obtain ⟨u,g1,g2⟩:=e9 (k:=k) h.2 (by simpa using e); exact ⟨u,by simpa using g1,g2⟩
  | .s :: _,[],_,_,_,_,h,_ => h.elim
  | .s :: _,_ :: _,[],_,_,_,h,_ => h.elim
  | .m _ :: _,[],_,_,_,_,h,_ => h.elim
  | .m _ :: _,_ :: _,[],_,_,_,h,_ => h.elim
  | .t :: _,[],_,_,_,_,h,_ => h.elim
  | .t :: _,_ :: _,[],_,_,_,h,_ => h.elim
  | .t :: _,_ :: _,_ :: _,[],_,_,h,_ => h.elim
def cv:List AK → DSt → DSt → DSt
  | .m i :: ks,x :: ρ2,ρ => cv ks ρ2 (ρ.set i x)
  | _ :: ks,_ :: ρ2,ρ => cv ks ρ2 ρ
  | _,_,ρ => ρ
def iC:List AK → DSt → DSt → DSt
  | .s :: ks,os,ρ => iC ks os ρ
  | .m i :: ks,o :: os,ρ => iC ks os (ρ.set i o)
  | .t :: ks,_ :: os,ρ => iC ks os ρ
  | _,_,ρ => ρ
theorem gJ:∀ {ks:List AK} {ρ2 ρ:DSt},ρ2.length = ks.length → iC ks (mus (ks.map AK.isM) ρ2) ρ = cv ks ρ2 ρ
  | [],[],ρ,_ => rfl
  | .s :: ks,x :: ρ2,ρ,h => by simp only [List.map,AK.isM,mus,iC,cv]; exact gJ (by simpa using h)
  | .m i :: ks,x :: ρ2,ρ,h => by simp only [List.map,AK.isM,mus,iC,cv]; exact gJ (by simpa using h)
  | .t :: ks,x :: ρ2,ρ,h => by simp only [List.map,AK.isM,mus,iC,cv]; exact gJ (by simpa using h)
theorem ga:∀ {ks:List AK} {ρ2 ρ:DSt},(cv ks ρ2 ρ).length = ρ.length
  | [],_,_ => by simp [cv]
  | .s :: ks,[],_ => by simp [cv]
  | .m i :: ks,[],_ => by simp [cv]
  | .t :: ks,[],_ => by simp [cv]
  | .s :: ks,x :: ρ2,ρ => by simp only [cv]; exact ga
  | .m i :: ks,x :: ρ2,ρ => by simp only [cv]; rw [ga]; simp
  | .t :: ks,x :: ρ2,ρ => by simp only [cv]; exact ga
theorem fY:∀ {ks:List AK} {ρ2 ρ:DSt} {i:Nat},i ∉ aO ks → (cv ks ρ2 ρ)[i]? = ρ[i]?
  | [],_,_,_,_ => by simp [cv]
  | .s :: ks,[],_,_,_ => by simp [cv]
  | .m i :: ks,[],_,_,_ => by simp [cv]
  | .t :: ks,[],_,_,_ => by simp [cv]
  | .s :: ks,x :: ρ2,ρ,i,h => by simp only [cv]; exact fY (by simpa [aO] using h)
  | .t :: ks,x :: ρ2,ρ,i,h => by simp only [cv]; exact fY (by simpa [aO] using h)
  | .m j :: ks,x :: ρ2,ρ,i,h => by
    simp only [cv]
    simp only [aO,List.mem_cons,not_or] at h
    rw [fY h.2,List.getElem?_set_ne (Ne.symm h.1)]
theorem fN:∀ {ks:List AK} {ρ2 ρ:DSt} {i:Nat} {d:D},(cv ks ρ2 ρ)[i]? = some (some d) → ρ2.length = ks.length → (i ∉ aO ks ∧ ρ[i]? = some (some d)) ∨ ∃ k:Nat,ks[k]? = some (.m i) ∧ ρ2[k]? = some (some d)
  | [],[],ρ,i,d,h,_ => .inl ⟨by simp [aO],by simpa [cv] using h⟩
  | .s :: ks,x :: ρ2,ρ,i,d,h,hl => by
    simp only [cv] at h
    rcases fN h (by simpa using hl) with ⟨h1,h2⟩ | ⟨k,h1,h2⟩
    · exact .inl ⟨by simpa [aO] using h1,h2⟩
    · exact .inr ⟨k + 1,by simpa using h1,by simpa using h2⟩
  | .t :: ks,x :: ρ2,ρ,i,d,h,hl => by
    simp only [cv] at h
    rcases fN h (by simpa using hl) with ⟨h1,h2⟩ | ⟨k,h1,h2⟩
    · exact .inl ⟨by simpa [aO] using h1,h2⟩
    · exact .inr ⟨k + 1,by simpa using h1,by simpa using h2⟩
  | .m j :: ks,x :: ρ2,ρ,i,d,h,hl => by
    simp only [cv] at h
    rcases fN h (by simpa using hl) with ⟨h1,h2⟩ | ⟨k,h1,h2⟩
    · rcases dZ h2 with ⟨rfl,rfl⟩ | ⟨h3,h4⟩
      · exact .inr ⟨0,rfl,rfl⟩
      · exact .inl ⟨by simp [aO,h1,h3],h4⟩
    · exact .inr ⟨k + 1,by simpa using h1,by simpa using h2⟩
theorem nT:∀ {ks:List AK} {r k i:Nat},ks[k]? = some (.m i) → (lbs ks r)[k]? = some (some (2 * i))
  | [],_,_,_,e => by simp at e
  | .s :: ks,r,0,i,e => by simp at e
  | .s :: ks,r,k + 1,i,e => by simp only [lbs,List.getElem?_cons_succ]; exact nT (by simpa using e)
  | .m j :: ks,r,0,i,e => by simp at e; subst e; simp [lbs]
  | .m j :: ks,r,k + 1,i,e => by simp only [lbs,List.getElem?_cons_succ]; exact nT (by simpa using e)
  | .t :: ks,r,0,i,e => by simp at e
  | .t :: ks,r,k + 1,i,e => by simp only [lbs,List.getElem?_cons_succ]; exact nT (by simpa using e)
theorem fU:∀ {ks:List AK} {r k l:Nat},(lbs ks r)[k]? = some (some l) → (ks.map AK.isM)[k]? = some true
  | [],_,_,_,e => by simp [lbs] at e
  | .s :: ks,r,0,i,e => by simp [lbs] at e
  | .s :: ks,r,k + 1,i,e => by simp only [lbs,List.getElem?_cons_succ] at e; simp only [List.map,List.getElem?_cons_succ]; exact fU e
  | .m j :: ks,r,0,i,e => rfl
  | .m j :: ks,r,k + 1,i,e => by simp only [lbs,List.getElem?_cons_succ] at e; simp only [List.map,List.getElem?_cons_succ]; exact fU e
  | .t :: ks,r,0,i,e => rfl
  | .t :: ks,r,k + 1,i,e => by simp only [lbs,List.getElem?_cons_succ] at e; simp only [List.map,List.getElem?_cons_succ]; exact fU e
theorem sq {ks:List AK} {k i:Nat} (h:ks[k]? = some (.m i)):i ∈ aO ks:=by
  induction ks generalizing k with
  | nil => simp at h
  | cons x ks ih =>
    cases k with
    | zero => simp at h; subst h; simp [aO]
    | succ k => have:=ih (by simpa using h); cases x <;> simp [aO,this]
theorem lv {C:Ctx} {ow:List Bool} {G:Hp} {ρ:DSt} {σ:St} {H:Hp} {pd T:List (D × V)} {ks:List AK} {ds ds':List D} {vs:List V} {fr:Bool} {sd:SpD} {q:D → DSt → Prop} {Q:VK} {E:XK}
    (hn:C.np ≤ pd.length) (r:R C ow G ρ σ H (T.reverse ++ pd)) (ha:ik G σ ks ds vs T) (hf:dE ks ds ρ = some ds') (nd:(aO ks).Nodup) (hw:∀ i ∈ aO ks,ow[i]? = some true)
    (h:sd ds' fun d os => q d (iC ks os ρ))
    (k:∀ d ρ' v G' H',q d ρ' → aR G G' → Kp ow ρ ρ' → (if fr = true then R C ow G' ρ' σ H' ((d,v) :: pd) else R C ow G' ρ' σ H' pd ∧ Rep G' d v) → Q v H'):bd (ks.map AK.isM) fr sd vs H Q E:=by
  obtain ⟨O,ro⟩:=r
  have pn:=ro.pn
  obtain ⟨l1,l2,hat⟩:=gL (O:=O) (H:=H) (r:=pd.length) ha hf (fun j x e => kT pn e) (fun i hi d e => by
    obtain ⟨v,h1,h2⟩:=ro.sl i d e; rw [if_pos (hw i hi)] at h2; exact ⟨v,h1,h2⟩)
  let lb:=lbs ks pd.length
  let fin:Nat → Option Nat:=fun l => (fnd l lb 0).map (2 * ·)
  let fbk:Nat → Option Nat:=fun l => if l = 1 then some (2 * pd.length + 1) else if l % 2 = 0 then (match lb[l / 2]? with | some o => o | none => none) else none
  have uq:=fH (ks:=ks) (r:=pd.length) nd
  have fin_at:∀ (i l:Nat),lb[i]? = some (some l) → fin l = some (2 * i):=fun i l e => by
    show (fnd l lb 0).map _ = _
    rw [pV uq e]; simp
  have fin_of:∀ l l',fin l = some l' → ∃ i,l' = 2 * i ∧ lb[i]? = some (some l):=fun l l' e => by
    change (fnd l lb 0).map _ = _ at e
    cases z:fnd l lb 0 with
    | none => rw [z] at e; cases e
    | some j => rw [z] at e; cases e; obtain ⟨i,rfl,e2⟩:=ra z; exact ⟨i,by show 2 * (0 + i) = 2 * i; omega,e2⟩
  have fin_none:∀ l,(∀ i:Nat,lb[i]? ≠ some (some l)) → fin l = none:=fun l e => by
    show (fnd l lb 0).map _ = _
    rw [lg e]; rfl
  have ri:=ro.into (mu:=ks.map AK.isM) (fin:=fin) (ds:=ds') (vs:=vs) l1 (fun j d e => by
    obtain ⟨v,h1,h2⟩:=hat j d e
    refine ⟨v,h1,?_⟩
    rcases h2 with ⟨l,h2,h3,h4⟩ | ⟨h2,h3⟩
    · rw [if_pos h3]; exact ⟨l,h4,fin_at j l h2⟩
    · rw [if_neg (by rw [h2]; decide)]; exact h3) (fun l l' e => by
    obtain ⟨i,rfl,e2⟩:=fin_of l l' e
    exact ⟨i,rfl,fU e2,by have:=(List.getElem?_eq_some_iff.mp (fU e2)).1; rw [List.length_map] at this; omega⟩)
  refine ⟨_,G,ds',fun d os => q d (iC ks os ρ),rfl,rfl,⟨_,ri⟩,h,by rw [List.length_map,l1,l2],?_⟩
  intro d ρ2 σ2 v G2 H2 hq z hl hr
  rw [List.length_map] at hl
  rw [gJ hl] at hq
  have out:∀ (pd2 pd3:List (D × V)) (O2:Own),RO ⟨G,H,cM fin O,msV (ks.map AK.isM) vs,0⟩ (ks.map AK.isM) G2 ρ2 σ2 H2 pd2 O2 → C.np ≤ pd3.length →
      (∀ (O3:Own),(∀ a l π,O a = some (l,π) → fin l = none → O3 a = some (l,π) ∧ H2 a = H a) → (∀ a l l' π,O2 a = some (l',π) → fbk l' = some l → O3 a = some (l,π)) → cY G G2 → cn G2 H2 O3 pd3) →
      RO C ow G2 (cv ks ρ2 ρ) σ H2 pd3 (o5 fin fbk O O2):=fun pd2 pd3 O2 r2 hn3 hP => by
    refine ro.out (vs:=vs) r2 ?_ (by rw [ga]; exact ro.len) hn3 ?_ ?_ hP
    · intro l0 l' l e1 e2
      obtain ⟨i,rfl,e3⟩:=fin_of l0 l' e1
      change (if 2 * i = 1 then _ else if 2 * i % 2 = 0 then _ else _) = _ at e2
      rw [if_neg (by omega),if_pos (by omega),show 2 * i / 2 = i by omega,e3] at e2
      exact (Option.some.inj e2).symm
    · intro i d c e
      rcases fN e hl with ⟨_,h2⟩ | ⟨k,h1,_⟩
      · exact h2
      · exact absurd (hw i (sq h1)) c
    · intro i d c e
      rcases fN e hl with ⟨h1,h2⟩ | ⟨j,h1,h2⟩
      · refine .inl ⟨fin_none _ fun j e => ?_,h2⟩
        rcases cZ e with ⟨z,h3,h4⟩ | ⟨z,h3,h4⟩
        · exact h1 (by rw [show i = z by omega]; exact h3)
        · omega
      · obtain ⟨u,g1,g2⟩:=e9 ha h1
        have im:(ks.map AK.isM)[j]? = some true:=by rw [List.getElem?_map,h1]; rfl
        refine .inr ⟨j,u,?_,im,h2,g2,r2.mp j u (lZ im g1)⟩
        show (if 2 * j = 1 then _ else if 2 * j % 2 = 0 then _ else _) = _
        rw [if_neg (by omega),if_pos (by omega),show 2 * j / 2 = j by omega,nT h1]
  have pdk:∀ (O3:Own),(∀ a l π,O a = some (l,π) → fin l = none → O3 a = some (l,π) ∧ H2 a = H a) → cY G G2 → cn G2 H2 O3 pd:=fun O3 h1 ts =>
    cn.keep ts (fun a j π hj e => h1 a _ _ e (fin_none _ fun i e => by
      rcases cZ e with ⟨z,h3,h4⟩ | ⟨z,h3,h4⟩ <;> omega)) (e_ (T:=T.reverse) pn)
  have kp:Kp ow ρ (cv ks ρ2 ρ):=fun j hj => fY fun hs => hj (hw j hs)
  refine k d (cv ks ρ2 ρ) v G2 H2 hq z kp ?_
  unfold Ret at hr
  split at hr
  · rename_i c
    rw [if_pos c]
    obtain ⟨O2,r2⟩:=hr
    refine ⟨_,out _ ((d,v) :: pd) O2 r2 (Nat.le_succ_of_le hn) fun O3 h1 h2 ts => ⟨?_,pdk O3 h1 ts⟩⟩
    exact r2.pn.1.keep (fun _ _ z => z) fun a τ e => ⟨h2 a _ _ _ e (by show (if 2 * 0 + 1 = 1 then _ else _) = _; rw [if_pos rfl]),rfl⟩
  · rename_i c
    rw [if_neg c]
    obtain ⟨⟨O2,r2⟩,p⟩:=hr
    exact ⟨⟨_,out _ pd O2 r2 hn fun O3 h1 h2 ts => pdk O3 h1 ts⟩,p⟩
section
variable {X:Cx} {ow:List Bool} {a b c e tg:Expr} {ma mb mc:ME} {pos p':Pos} {mr:MA} {es:List Expr} {ks:List AK} {x:Str}
def uz (ks:List AK) (sd:SpD) (m:MA):ME:=fun ρ q => m ρ fun ds ρ1 => match dE ks ds ρ1 with
  | some ds' => sd ds' fun d os => q d (iC ks os ρ1)
  | none => False
theorem aj {k:Nat} {f:Addr} {fd:FuncData} {ps:List Str} {mu:List Bool} {sd:SpD} (F:FnOk X.prog X.w X.K X.mg X.base CX0 k f fd ps (bd mu false sd)) (hr:Room k X.A) (hg:Gl X x) (hm:X.mg x = some (.ref f)) (hk:PySem.W.keepIn X.K (.ref f) = true) (hb:aM X.K fd ps [])
    (ha:QAk X ow ks (e :: es) mr) (hmu:mu = ks.map AK.isM:=by rfl) (nd:(aO ks).Nodup:=by decide) (hw:∀ i ∈ aO ks,ow[i]? = some true:=by decide) (hdb:(x == ("__debug__":Str)) = false:=by decide)
    (he:starEach (e :: es) X.env = (false,eval e X.env) :: starEach es X.env:=by rfl) (hpl:(backTo pos (starEach es X.env)).any (·.1) = false:=by rfl):QE X ow (.Call (.Name x p') (e :: es) [] pos) (uz ks sd mr):=by
  obtain ⟨t,p,s⟩:=ha
  subst hmu
  refine ⟨_,nL F hr hg hm hk hb .nil ur p hdb he hpl,fun C G ρ σ H pd q Q r hm k => s C G ρ σ H pd _ _ r hm fun ds ρ' vs T G' H' hq z kp r' p => ?_⟩
  rw [List.append_nil]
  split at hq
  · rename_i ds' ef
    exact lv (fr:=false) r.np r' p ef nd hw hq fun d ρ2 v G2 H2 hq2 z2 kp2 h2 => by
      rw [if_neg (by decide)] at h2
      exact k d ρ2 v G2 H2 hq2 (z.trans z2) (kp.trans kp2) h2.1 h2.2
  · exact hq.elim
theorem a_ {k:Nat} {f:Addr} {fd:FuncData} {ps:List Str} {mu:List Bool} {sd:SpD} (F:FnOk X.prog X.w X.K X.mg X.base CX0 k f fd ps (bd mu true sd)) (hr:Room k X.A) (hg:Gl X x) (hm:X.mg x = some (.ref f)) (hk:PySem.W.keepIn X.K (.ref f) = true) (hb:aM X.K fd ps [])
    (ha:QAk X ow ks (e :: es) mr) (hmu:mu = ks.map AK.isM:=by rfl) (nd:(aO ks).Nodup:=by decide) (hw:∀ i ∈ aO ks,ow[i]? = some true:=by decide) (hdb:(x == ("__debug__":Str)) = false:=by decide)
    (he:starEach (e :: es) X.env = (false,eval e X.env) :: starEach es X.env:=by rfl) (hpl:(backTo pos (starEach es X.env)).any (·.1) = false:=by rfl):QF X ow (.Call (.Name x p') (e :: es) [] pos) (uz ks sd mr):=by
  obtain ⟨t,p,s⟩:=ha
  subst hmu
  refine ⟨_,nL F hr hg hm hk hb .nil ur p hdb he hpl,fun C G ρ σ H pd q Q r hm k => s C G ρ σ H pd _ _ r hm fun ds ρ' vs T G' H' hq z kp r' p => ?_⟩
  rw [List.append_nil]
  split at hq
  · rename_i ds' ef
    exact lv (fr:=true) r.np r' p ef nd hw hq fun d ρ2 v G2 H2 hq2 z2 kp2 h2 => by
      rw [if_pos rfl] at h2
      exact k d ρ2 v G2 H2 hq2 (z.trans z2) (kp.trans kp2) h2
  · exact hq.elim
end
theorem RO.grow {C:Ctx} {mu ow:List Bool} {G:Hp} {ds:List D} {vs:List V} {H:Hp} {O:Own} (n:Nat) (h:RO C mu G (ds.map some) (vs.map some) H [] O) (ho:∀ i:Nat,i < ds.length → ow[i]? = mu[i]?) :
    RO C ow G (ds.map some ++ List.replicate n none) (vs.map some ++ List.replicate n none) H [] O:=by
  have hl:ds.length = vs.length:=by simpa using h.len
  have up:∀ {α:Type} {l:List α} {i:Nat} {d : α},(l.map some ++ List.replicate n none)[i]? = some (some d) → i < l.length ∧ (l.map some)[i]? = some (some d):=fun {α l i d} e => by
    by_cases c:i < l.length
    · rw [List.getElem?_append_left (by simpa using c)] at e; exact ⟨c,e⟩
    · rw [List.getElem?_append_right (by simpa using c)] at e
      rw [List.getElem?_replicate] at e
      split at e <;> cases e
  refine ⟨by simp [hl],h.gh,h.g0,h.gn,h.og,h.cok,h.fr,h.al,?_,?_,h.pn,h.np⟩
  · intro i v e
    have:=h.mp i v e
    rw [List.getElem?_append_left (d9 this)]; exact this
  · intro i d e
    obtain ⟨c,e1⟩:=up e
    obtain ⟨v,h1,h2⟩:=h.sl i d e1
    exact ⟨v,by rw [List.getElem?_append_left (d9 h1)]; exact h1,by rw [ho i c]; exact h2⟩
theorem RO.trim {C:Ctx} {mu ow:List Bool} {G:Hp} {ρ:DSt} {σ:St} {H:Hp} {pd:List (D × V)} {O:Own} (h:RO C ow G ρ σ H pd O) (hm:gT C mu) (ho:∀ i:Nat,i < mu.length → ow[i]? = mu[i]?) :
    RO C mu G (cX mu.length ρ) (cX mu.length σ) H pd O:=by
  refine ⟨by rw [dD,dD],h.gh,h.g0,h.gn,h.og,h.cok,h.fr,h.al,?_,?_,h.pn,h.np⟩
  · intro i v e
    exact ko (lt_of_slot' (hm i v e)) (h.mp i v e)
  · intro i d e
    obtain ⟨c,e1⟩:=kS e
    obtain ⟨v,h1,h2⟩:=h.sl i d e1
    exact ⟨v,ko c h1,by rw [← ho i c]; exact h2⟩
where
  lt_of_slot' {l:List Bool} {i:Nat} {x:Bool} (h:l[i]? = some x):i < l.length:=(List.getElem?_eq_some_iff.mp h).1
def pR (mu:List Bool) (q:D → DSt → Prop):EndsD:=⟨fun ρ => q .non (mus mu ρ),fun d ρ => q d (mus mu ρ),fun _ => False,fun _ => False⟩
theorem fnD {P:Program} {w:World} {K:PySem.W.Frag} {mg:Str → Option Value} {base:Heap} {x qual:Str} {st:Stmt} {f:Addr} {fd:FuncData} {N ps:List Str} {k:Nat} (F:Fun K x qual st f fd) (S:FnScope N ps (af st)) (M:Md) (sd:SpD)
    (hl:∀ ds q,sd ds q → ds.length = ps.length) (ho:M.ow.take ps.length = M.mu) (hml:M.mu.length = ps.length)
    (hbody:∀ (cdv:Value) (A:Around) (outer:List Env) (s:Shared) (H:Hp) (E:XK),Room k (A.deeper (envOfC qual (af st) s.heap.objs.size f cdv)) →
      ∃ m,QSs (mH CX0 P w K mg base N qual (af st) f cdv A outer s H E).nox M (ar st) m ∧ ∀ ds q,sd ds q → m (pR M.mu q) (ds.map some ++ List.replicate (N.length - ps.length) none)) :
    FnOk P w K mg base CX0 (k + 1) f fd ps (bd M.mu M.fr sd):=by
  have hov:∀ i:Nat,i < M.mu.length → M.ow[i]? = M.mu[i]?:=fun i hi => by rw [← ho,List.getElem?_take_of_lt (by omega)]
  have hlen:∀ vs H Q E,bd M.mu M.fr sd vs H Q E → vs.length = ps.length:=fun vs H Q E ⟨C,G,ds,q,_,_,⟨O,ro⟩,h1,_,_⟩ => by
    have:=ro.len; simp at this; rw [← this]; exact hl ds q h1
  refine F.ok S hlen fun cdv A outer s H vs Q E hr hsp => ?_
  obtain ⟨m,⟨t,p,ss⟩,hm⟩:=hbody cdv A outer s H E hr
  have hvl:=hlen vs H Q E hsp
  obtain ⟨C,G,ds,q,hnp,hmu,⟨O,ro⟩,hsd,hml2,kk⟩:=hsp
  refine ⟨t,p,?_⟩
  have hmo:gT C M.mu:=fun i v e => by rw [hmu] at e; exact (mw e).1
  have r0:R C M.ow G (ds.map some ++ List.replicate (N.length - ps.length) none) (ev N vs) H []:=by
    unfold ev; rw [hvl]
    exact ⟨O,ro.grow _ fun i hi => hov i (by omega)⟩
  refine ss C G _ _ H (pR M.mu q) _ hmo hnp r0 (hm ds q hsd) ⟨?_,fun _ _ _ _ h => h.elim,fun _ _ _ _ h => h.elim,?_⟩
  · intro ρ σ G' H' h z ⟨O',r'⟩
    refine kk .non (cX M.mu.length ρ) (cX M.mu.length σ) .non G' H' (by rw [dL]; exact h) z (dD _ _) (R.non ⟨O',r'.trim hmo hov⟩)
  · intro d ρ σ v G' H' h z hr'
    refine kk d (cX M.mu.length ρ) (cX M.mu.length σ) v G' H' (by rw [dL]; exact h) z (dD _ _) ?_
    unfold Ret at hr' ⊢
    split at hr'
    · rename_i c; rw [if_pos c]; obtain ⟨O',r'⟩:=hr'; exact ⟨O',r'.trim hmo hov⟩
    · rename_i c; rw [if_neg c]; obtain ⟨⟨O',r'⟩,p⟩:=hr'; exact ⟨⟨O',r'.trim hmo hov⟩,p⟩
theorem Seps.mk {G H:Hp} {O:Own} {i:Nat}:∀ {T:List (D × V)} {k:Nat} {π:List Nat},(∀ (j:Nat) x,T[j]? = some x → Sep G H O i x.1 ((k + j) :: π) x.2) → Seps G H O i (T.map (·.1)) k π (T.map (·.2))
  | [],_,_,_ => by simp; rw [Seps]
  | x :: T,k,π,h => by
    simp only [List.map]; rw [Seps]
    exact ⟨x.2,_,rfl,by simpa using h 0 x rfl,Seps.mk fun j y e => by rw [show k + 1 + j = k + (j + 1) by omega]; exact h (j + 1) y (by simpa using e)⟩
section
variable {C:Ctx} {ow:List Bool} {G:Hp} {ρ:DSt} {σ:St} {H:Hp} {pd T:List (D × V)} {O:Own}
theorem RO.gather (h:RO C ow G ρ σ H (T.reverse ++ pd) O) (hn:C.np ≤ pd.length):∃ O',RO C ow G ρ σ H pd O' ∧ Seps G H O' (2 * pd.length + 1) (T.map (·.1)) 0 [] (T.map (·.2)):=by
  refine ⟨lab (fun l π => if l % 2 = 1 ∧ pd.length ≤ l / 2 then (2 * pd.length + 1,π ++ [l / 2 - pd.length]) else (l,π)) O,⟨h.len,h.gh,h.g0,h.gn,?_,h.cok,h.fr,h.al,h.mp,?_,?_,hn⟩,?_⟩
  · intro a m e
    obtain ⟨l,π,e1,rfl⟩:=ia e
    obtain ⟨q1,q2,q3⟩:=h.og a _ e1
    refine ⟨q1,q2,?_⟩
    split
    · rename_i z
      rcases q3 with q3 | ⟨_,q3⟩
      · exact .inl q3
      · rcases h.cok _ _ _ q3 with ⟨k,_,q4,_⟩ | ⟨k,q4,q5⟩
        · omega
        · omega
    · exact q3
  · intro j e q
    obtain ⟨u,h1,h2⟩:=h.sl j e q
    refine ⟨u,h1,?_⟩
    split at h2
    · rename_i c; rw [if_pos c]; exact h2.keep (fun _ _ z => z) fun a τ q => ⟨by rw [cf q,if_neg (by omega)],rfl⟩
    · rename_i c; rw [if_neg c]; exact h2
  · exact cn.keep (fun _ _ z => z) (fun a j π hj q => ⟨by rw [cf q,if_neg (by omega)],rfl⟩) (e_ (T:=T.reverse) h.pn)
  · refine Seps.mk fun j x e => ?_
    have:=kT h.pn e
    refine Sep.map (f:=fun π => π ++ [0 + j]) (fun _ _ z => z) (fun _ _ => rfl) x.1 [] x.2 (fun a τ q => ⟨?_,rfl⟩) this
    rw [cf q,if_pos (by omega)]
    rw [show (2 * (pd.length + j) + 1) / 2 - pd.length = 0 + j by omega]
theorem RO.newT (h:RO C ow G ρ σ H pd O) {p:Addr} (hp:H p = none) {ds:List D} {vs:List V} (hs:Seps G H O (2 * pd.length + 1) ds 0 [] vs):R C ow (upd G p (.tup vs)) ρ σ (upd H p (.tup vs)) ((.tup ds,.ref p) :: pd) ∧ aR G (upd G p (.tup vs)):=by
  obtain ⟨r,z⟩:=h.new hp (.tup vs)
  refine ⟨⟨O,r.len,r.gh,r.g0,r.gn,r.og,r.cok,r.fr,r.al,r.mp,r.sl,⟨?_,r.pn⟩,Nat.le_succ_of_le r.np⟩,z⟩
  rw [Sep]
  exact ⟨p,vs,rfl,aW,hs.keep z.ts fun a τ _ q => ⟨q,ax (fun e => by obtain ⟨_,⟨xs,w⟩,_⟩:=h.og a _ q; rw [e,hp] at w; cases w)⟩⟩
theorem RO.newS (h:RO C ow G ρ σ H pd O) {p:Addr} (hp:H p = none) {ds:List D} {vs:List V} (hs:Seps G H O (2 * pd.length + 1) ds 0 [] vs):R C ow G ρ σ (upd H p (.lst vs)) ((.lst ds,.ref p) :: pd):=by
  have gp:G p = none:=by
    cases e:G p with
    | none => rfl
    | some z => rw [h.gh _ _ e] at hp; cases hp
  have ne:∀ a l,O a = some l → a ≠ p:=fun a l e z => by
    obtain ⟨_,⟨xs,q⟩,_⟩:=h.og a l e
    rw [z,hp] at q; cases q
  let O':Own:=fun a => if a = p then some (2 * pd.length + 1,[]) else O a
  have old:∀ a l,O a = some l → O' a = some l:=fun a l e => by
    show (if a = p then _ else _) = _
    rw [if_neg (ne a _ e),e]
  refine ⟨O',h.len,?_,h.g0,h.gn,?_,h.cok,?_,?_,h.mp,?_,⟨?_,?_⟩,Nat.le_succ_of_le h.np⟩
  · intro a u e
    rw [ax (fun z => by rw [z,gp] at e; cases e)]
    exact h.gh _ _ e
  · intro a l e
    by_cases z:a = p
    · subst z; exact ⟨gp,⟨.inl vs,aW⟩,.inl (h.al _ hp)⟩
    · rw [ax z]
      change (if a = p then _ else _) = _ at e
      rw [if_neg z] at e
      exact h.og a _ e
  · intro a u e n
    rw [ax (av (h.fr a u e n) hp)]
    exact h.fr a u e n
  · intro a e
    by_cases z:a = p
    · subst z; rw [aW] at e; cases e
    · rw [ax z] at e; exact h.al a e
  · intro i d e
    obtain ⟨v,h1,h2⟩:=h.sl i d e
    refine ⟨v,h1,?_⟩
    split at h2
    · rename_i c; rw [if_pos c]; exact h2.keep (fun _ _ z => z) fun a τ q => ⟨old a _ q,ax (ne a _ q)⟩
    · rename_i c; rw [if_neg c]; exact h2
  · rw [Sep]
    exact ⟨p,vs,rfl,by show (if p = p then _ else _) = _; rw [if_pos rfl],aW,hs.keep (fun _ _ z => z) fun a τ _ q => ⟨old a _ q,ax (ne a _ q)⟩⟩
  · exact cn.keep (fun _ _ z => z) (fun a j π hj q => ⟨old a _ q,ax (ne a _ q)⟩) h.pn
end
def SFm (M:Md) (t:TE) (m:ME):Prop:=∀ (C:Ctx) (G:Hp) (ρ:DSt) (σ:St) (H:Hp) (pd:List (D × V)) (q:D → DSt → Prop) (Q:VK),gT C M.mu → R C M.ow G ρ σ H pd → m ρ q →
  (∀ d ρ' v G' H',q d ρ' → aR G G' → R C M.ow G' ρ' σ H' ((d,v) :: pd) → Q v H') → t σ H Q
structure QM (X:Cx) (M:Md) (e:Expr) (m:ME):Prop where
  ex:∃ t,PE X e t ∧ SFm M t m
def SAm (M:Md) (n:Nat) (t:TA) (m:MA):Prop:=∀ (C:Ctx) (G:Hp) (ρ:DSt) (σ:St) (H:Hp) (pd:List (D × V)) (q:List D → DSt → Prop) (Q:List V → Hp → Prop),gT C M.mu → R C M.ow G ρ σ H pd → m ρ q →
  (∀ (T:List (D × V)) ρ' G' H',q (T.map (·.1)) ρ' → aR G G' → R C M.ow G' ρ' σ H' (T.reverse ++ pd) → T.length = n → Q (T.map (·.2)) H') → t σ H Q
structure QMs (X:Cx) (M:Md) (es:List Expr) (m:MA):Prop where
  ex:∃ t,PA X es t ∧ SAm M es.length t m
section
variable {X:Cx} {M:Md} {a b c e:Expr} {ma mb mc:ME} {pos pos':Pos} {mr:MA} {es:List Expr}
theorem QF.qm (h:QF X M.ow e ma):QM X M e ma:=by
  obtain ⟨t,p,s⟩:=h
  exact ⟨_,p,fun C G ρ σ H pd q Q hm r h k => s C G ρ σ H pd q Q r h fun d ρ' v G' H' hq z kp r' => k d ρ' v G' H' hq z r'⟩
theorem cB (i:Nat) {x:Str} (ho:M.ow[i]? = some true:=by decide) (hu:M.mu[i]? ≠ some true:=by decide) (hN:X.N[i]? = some x:=by rfl) (hv:Vis X.env.scope x:=by first | exact Or.inl rfl | exact Or.inr (Or.inl rfl) | exact Or.inr (Or.inr rfl)) (hd:(x == ("__debug__":Str)) = false:=by decide)
    (hcd:(x == ("__classdict__":Str)) = false:=by decide):QM X M (.Name x pos) (uh i):=⟨_,d6 hN hv hd hcd,fun C G ρ σ H pd q Q hm r h k => by
  unfold uh at h
  split at h
  · rename_i d e
    obtain ⟨O,ro⟩:=r
    obtain ⟨v,h1,h2⟩:=ro.move e ho (hm.no hu)
    exact ⟨v,h1,k d _ v G H h (aR.refl _) h2⟩
  · exact h.elim⟩
theorem gG:QMs X M [] oz:=⟨_,fw,fun C G ρ σ H pd q Q hm r h k => k [] ρ G H h (aR.refl _) r rfl⟩
theorem cA (ha:QM X M e ma) (hr:QMs X M es mr) (hs:starEach (e :: es) X.env = (false,eval e X.env) :: starEach es X.env:=by rfl):QMs X M (e :: es) (fo ma mr):=by
  obtain ⟨t,p,s⟩:=ha; obtain ⟨t2,p2,s2⟩:=hr
  refine ⟨_,cD p p2 hs,fun C G ρ σ H pd q Q hm r h k => s C G ρ σ H pd _ _ hm r h fun d ρ' v G' H' hq z r' => ?_⟩
  exact s2 C G' ρ' σ H' _ _ _ hm r' hq fun T ρ2 G2 H2 hq2 z2 r2 hn => k ((d,v) :: T) ρ2 G2 H2 hq2 (z.trans z2) (by simpa using r2) (by simp [hn])
theorem mN {x1} (h:QMs X M es mr) (hl:es.length ≤ 1000:=by decide):QM X M (.Tuple es x1 pos) (mTup mr):=by
  obtain ⟨t,p,s⟩:=h
  refine ⟨_,qj p,fun C G ρ σ H pd q Q hm r h k => s C G ρ σ H pd _ _ hm r h fun T ρ' G' H' hq z r' hn => ⟨c_ (by simp; omega),fun a ha => ?_⟩⟩
  obtain ⟨O,r'⟩:=r'
  obtain ⟨O2,r2,s2⟩:=r'.gather r.np
  obtain ⟨r3,z3⟩:=r2.newT ha s2
  exact k _ ρ' _ _ _ hq (z.trans z3) r3
theorem xm (h:QMs X M es mr) (hl:es.length ≤ 1000:=by decide):QM X M (.List es pos) (mLst mr):=by
  obtain ⟨t,p,s⟩:=h
  refine ⟨_,mM p,fun C G ρ σ H pd q Q hm r h k => s C G ρ σ H pd _ _ hm r h fun T ρ' G' H' hq z r' hn => ⟨c_ (by simp; omega),fun a ha => ?_⟩⟩
  obtain ⟨O,r'⟩:=r'
  obtain ⟨O2,r2,s2⟩:=r'.gather r.np
  exact k _ ρ' _ _ _ hq z (r2.newS ha s2)
theorem bQ (h:QM X M e ma) (hf:M.fr = true:=by rfl):QS X M (.Return (some e) pos) (mRet ma):=by
  obtain ⟨t,p,s⟩:=h
  refine ⟨_,qa p,fun C G ρ σ H n D hm hn r h k => s C G ρ σ H [] _ _ hm r h fun d ρ' v G' H' hq z r' => k.rt d ρ' σ v G' H' hq z (by unfold Ret; rw [if_pos hf]; exact r')⟩
theorem tG {i:Nat} {x:Str} (hN:X.N.Nodup) (hi:X.N[i]? = some x) (hx:Loc X.env.scope x) (he:QM X M e ma) (ho:M.ow[i]? = some true:=by decide) (hu:M.mu[i]? ≠ some true:=by decide) (hs:swapsWith e (some (.Name x pos')) pos.line X.env = pure false:=by rfl) (hf:X.fn x = true ∨ X.env.scope.names.lookup x = some .local:=by first | exact .inl rfl | exact .inr rfl | assumption) :
    QS X M (.Assign [.Name x pos'] e pos) (pp i ma):=by
  obtain ⟨t,p,s⟩:=he
  refine ⟨_,mF hN hi hx p hs hf,fun C G ρ σ H n D hm hn r h k => s C G ρ σ H [] _ _ hm r h fun d ρ' v G' H' hq z r' => ?_⟩
  obtain ⟨O,r'⟩:=r'
  exact k.nx _ _ G' H' hq z (r'.setO ho (hm.no hu) (by rw [hn]; exact Nat.zero_le _))
end
def lu (g:MG) (mt:MT) (me:ME) (ρ0:DSt) (ds:List D) (K:List D → Prop):Prop:=∃ I:Nat → List D → Prop,I 0 [] ∧
  (∀ i d es,ds[i]? = some d → I i es → g d ρ0 fun ρ2 => mt ρ2 fun b ρ3 => if b = true then me ρ3 fun x _ => I (i + 1) (es ++ [x]) else I (i + 1) es) ∧ ∀ es,I ds.length es → K es
def eA (k:Nat) (js:List Nat) (ρ:DSt):DSt:=List.replicate k none ++ js.map fun j => (ρ[j]?).getD none
def ue (mi:MA) (g:MG) (mt:MT) (me:ME) (k:Nat) (js:List Nat):ME:=fun ρ q => mi ρ fun ds ρ1 => ds.length ≤ 1000 ∧ lu g mt me (eA k js ρ1) ds fun es => imms es = true ∧ q (.lst es) ρ1
def m9 (mi:MA) (g:MG) (mt:MT) (me:ME) (k:Nat) (js:List Nat):ME:=fun ρ q => mi ρ fun ds ρ1 => ds.length ≤ 1000 ∧ lu g mt me (eA k js ρ1) ds fun es => q (.lst es) ρ1
structure QIf (X:Cx) (ow:List Bool) (ifs:List Expr) (m:MT):Prop where
  ex:∃ t,PIf X ifs t ∧ STe ow t m
theorem b8 {X:Cx} {ow:List Bool}:QIf X ow [] (p0 true):=⟨_,sN,l4 true⟩
theorem fc {X:Cx} {ow:List Bool} {c:Expr} {mt:MT} (h:QT X ow c mt):QIf X ow [c] mt:=by obtain ⟨t,p,s⟩:=h; exact ⟨_,sS p,s⟩
section
variable {C:Ctx} {ow:List Bool} {G:Hp} {ρ:DSt} {σ:St} {H:Hp} {pd:List (D × V)} {O:Own}
theorem RO.inner (h:RO C ow G ρ σ H pd O) (own:List Str) (js:List Nat) (hj:∀ j ∈ js,ow[j]? ≠ some true) :
    RO ⟨G,H,cM (fun _ => none) O,[],0⟩ [] G (eA own.length js ρ) (ca own js σ) H [] (cM (fun _ => none) O):=by
  have no:∀ a,cM (fun _ => none) O a = none:=fun a => by unfold cM; cases O a <;> rfl
  refine ⟨by simp [eA,ca],h.gh,fun _ _ e => e,fun _ _ e => .inl e,fun a l e => ?_,fun a l π e => ?_,fun _ _ e _ => e,fun _ e => e,fun i v e => by simp at e,?_,trivial,Nat.le_refl _⟩
  · rw [no] at e; cases e
  · exact absurd (e.symm.trans (no a)) (by simp)
  · intro i d e
    unfold eA at e
    by_cases c:i < own.length
    · rw [List.getElem?_append_left (by simpa using c),List.getElem?_replicate] at e
      split at e <;> cases e
    · rw [List.getElem?_append_right (by simpa using c),List.getElem?_map] at e
      simp only [List.length_replicate] at e
      cases z:js[i - own.length]? with
      | none => rw [z] at e; cases e
      | some j =>
        rw [z] at e
        have e':(ρ[j]?).getD none = some d:=Option.some.inj e
        have e2 : ρ[j]? = some (some d):=by
          cases w : ρ[j]? with
          | none => rw [w] at e'; cases e'
          | some o => rw [w] at e'; exact congrArg some e'
        obtain ⟨v,h1,h2⟩:=h.sl j d e2
        rw [if_neg (hj j (List.mem_of_getElem? z))] at h2
        refine ⟨v,?_,by simpa using h2⟩
        unfold ca
        rw [List.getElem?_append_right (by simpa using c),List.getElem?_map]
        simp only [List.length_map]
        rw [z,show (some j).map _ = some ((σ[j]?).getD none) from rfl,h1]; rfl
end
theorem RO.back {C:Ctx} {ow:List Bool} {G G':Hp} {ρ0 ρ2:DSt} {σ0 σ2:St} {H H':Hp} {pd:List (D × V)} {O O':Own} (h0:RO C ow G ρ0 σ0 H pd O) (hn:∀ i:Nat,ow[i]? ≠ some true) (h:RO C ow G' ρ2 σ2 H' pd O') (z:aR G G'):RO C ow G' ρ0 σ0 H' pd O' :=
  ⟨h0.len,h.gh,h.g0,h.gn,h.og,h.cok,h.fr,h.al,h0.mp,fun i d e => by
    obtain ⟨v,h1,h2⟩:=h0.sl i d e
    rw [if_neg (hn i)] at h2
    exact ⟨v,h1,by rw [if_neg (hn i)]; exact h2.mono z⟩,h.pn,h.np⟩
theorem gQ {ow:List Bool} {J:It} {g:TG} {mg:MG} {tt:TT} {mt:MT} {te:TE} {me:ME} {C:Ctx} {G:Hp} {ρ:DSt} {σ:St} {H:Hp} {pd:List (D × V)} {ds:List D} {own:List Str} {js:List Nat} {K:List D → Prop} {Z:List V → Hp → Prop}
    (r:R C ow G ρ σ H pd) (hj:∀ j ∈ js,ow[j]? ≠ some true) (jo:l8 J G ds) (sg:SG ⟨[],[],false⟩ g mg) (st:STe [] tt mt) (se:SE [] te me) (hk:∀ x H k,g x (ca own js σ) H k → g x (ca own js σ) H fun σ2 H2 => kept (ca own js σ) σ2 ∧ k σ2 H2)
    (hl:ds.length ≤ 1000) (h:lu mg mt me (eA own.length js ρ) ds K)
    (k:∀ es vs G' H',K es → aR G G' → R C ow G' ρ σ H' pd → Reps G' es vs → vs.length ≤ 1000 → Z vs H'):nV J g tt te (ca own js σ) H Z:=by
  obtain ⟨O,ro⟩:=r
  have ri:=ro.inner own js hj
  obtain ⟨I,i0,turn,fin⟩:=h
  have nt:∀ i:Nat,([]:List Bool)[i]? ≠ some true:=fun i => by simp
  let C1:Ctx:=⟨G,H,cM (fun _ => none) O,[],0⟩
  have fnone:cM (fun _ => none) O = fun _ => none:=by funext a; unfold cM; cases O a <;> rfl
  refine ⟨fun i m acc H' => m = ds.length - i ∧ i ≤ ds.length ∧ acc.length ≤ i ∧ ∃ G' es,aR G G' ∧ R C1 [] G' (eA own.length js ρ) (ca own js σ) H' [] ∧ Reps G' es acc ∧ I i es,⟨_,rfl,Nat.zero_le _,Nat.le_refl _,G,[],aR.refl _,⟨_,ri⟩,bS,i0⟩,?_⟩
  rintro i m acc H' ⟨rfl,hi,ha,G',es,z,r',pa,w⟩
  obtain ⟨sp,go⟩:=jo C1 [] G' _ _ H' [] i z r'
  by_cases hlt:i < ds.length
  · obtain ⟨g1,g2⟩:=go ds[i] (List.getElem?_eq_getElem hlt)
    refine .inr ⟨g1,cL (by omega),fun acc' H2 => acc'.length ≤ i + 1 ∧ ∃ G2 es2,aR G G2 ∧ R C1 [] G2 (eA own.length js ρ) (ca own js σ) H2 [] ∧ Reps G2 es2 acc' ∧ I (i + 1) es2,fun acc' H2 h => ⟨ds.length - (i + 1),by omega,rfl,hlt,h.1,h.2⟩,fun x H1 hy => hk _ _ _ ?_⟩
    obtain ⟨G1,z1,r1,p1⟩:=g2 x H1 hy
    refine sg C1 G1 _ _ H1 [] ds[i] x _ _ (fun i v e => by simp [C1] at e) r1 p1 (turn i ds[i] es (List.getElem?_eq_getElem hlt) w) fun ρ2 σ2 h2 r2 => ?_
    refine st C1 G1 ρ2 σ2 H1 [] _ _ r2 h2 fun b ρ3 G3 H3 h3 z3 kp3 r3 => ?_
    have bk:∀ {G4:Hp} {ρ4:DSt} {H4:Hp},aR G3 G4 → R C1 [] G4 ρ4 σ2 H4 [] → R C1 [] G4 (eA own.length js ρ) (ca own js σ) H4 []:=fun z4 ⟨O4,r4⟩ => by
      obtain ⟨O1,r1'⟩:=r1
      exact ⟨_,r1'.back nt r4 (z3.trans z4)⟩
    cases b with
    | true =>
      rw [if_pos rfl] at h3 ⊢
      refine se C1 G3 ρ3 σ2 H3 [] _ _ r3 h3 fun d ρ4 v G4 H4 h4 z4 kp4 r4 p4 => ?_
      exact ⟨by simp; omega,G4,es ++ [d],z.trans (z1.trans (z3.trans z4)),bk z4 r4,eN (Reps.mono (z1.trans (z3.trans z4)) _ _ pa) (bG p4 bS),h4⟩
    | false =>
      rw [if_neg (by decide)] at h3 ⊢
      exact ⟨by omega,G3,es,z.trans (z1.trans z3),bk (aR.refl _) r3,Reps.mono (z1.trans z3) _ _ pa,h3⟩
  · have e:i = ds.length:=by omega
    subst e
    refine .inl ⟨sp (Nat.le_refl _),c_ (by omega),?_⟩
    obtain ⟨O2,r2⟩:=r'
    refine k es acc G' H' (fin es w) z ⟨o5 (fun _ => none) (fun _ => none) O O2,?_⟩ pa (by omega)
    refine ro.out (vs:=[]) r2 (fun _ _ _ e => by cases e) ro.len ro.np (fun i d _ e => e) (fun i d _ e => .inl ⟨rfl,e⟩) fun O3 h1 h2 ts => ?_
    exact cn.keep ts (fun a j π hj e => h1 a _ _ e rfl) ro.pn
section
variable {X:Cx} {ow:List Bool} {elt tg iter:Expr} {ifs:List Expr} {pos:Pos} {mi:MA} {mg:MG} {mt:MT} {me:ME} {scope:Scope} {cl:List (Str × Addr)}
def uI (n:Nat) (g:TG):Prop:=∀ (σ0:St),(∀ i,i < n → σ0[i]? = some none) → ∀ σ x H k,kept σ0 σ → g x σ H k → g x σ H fun σ2 H2 => kept σ0 σ2 ∧ k σ2 H2
def uW (n:Nat) (g:TGs):Prop:=∀ (σ0:St),(∀ i,i < n → σ0[i]? = some none) → ∀ σ x H k,kept σ0 σ → g x σ H k → g x σ H fun σ2 H2 => kept σ0 σ2 ∧ k σ2 H2
theorem fP:∀ {a b:St} {i:Nat} {v:V},kept a b → a[i]? = some none → kept a (b.set i (some v))
  | [],[],i,v,h,e => by simp at e
  | none :: r,y :: r',0,v,h,e => h
  | none :: r,y :: r',i + 1,v,h,e => by simp only [List.set_cons_succ]; exact fP (a:=r) (b:=r') h (by simpa using e)
  | some w :: r,y :: r',0,v,h,e => by simp at e
  | some w :: r,y :: r',i + 1,v,h,e => by simp only [List.set_cons_succ]; exact ⟨h.1,fP (a:=r) (b:=r') h.2 (by simpa using e)⟩
  | [],_ :: _,_,_,h,_ => h.elim
  | none :: _,[],_,_,h,_ => h.elim
  | some _ :: _,[],_,_,h,_ => h.elim
theorem dM:∀ (a:St),kept a a
  | [] => trivial
  | none :: r => dM r
  | some v :: r => ⟨rfl,dM r⟩
def MonG (g:TG):Prop:=∀ x σ H (k k':St → Hp → Prop),(∀ σ2 H2,k σ2 H2 → k' σ2 H2) → g x σ H k → g x σ H k'
def MonGs (g:TGs):Prop:=∀ x σ H (k k':St → Hp → Prop),(∀ σ2 H2,k σ2 H2 → k' σ2 H2) → g x σ H k → g x σ H k'
structure CG (n:Nat) (g:TG) (m:MG):Prop where
  sg:SG ⟨[],[],false⟩ g m
  kp:uI n g
  mn:MonG g
structure CGs (n:Nat) (g:TGs) (m:MGs):Prop where
  sg:SGs ⟨[],[],false⟩ g m
  kp:uW n g
  mn:MonGs g
theorem bC {n:Nat} (i:Nat) (h:i < n:=by decide):CG n (g6 i) (ge i) :=
  ⟨fun C G ρ σ H pd d v k K hm r p h kk => by obtain ⟨O,r⟩:=r; exact kk _ _ h ⟨O,r.setS (by simp) (fun v e => by have:=hm i v e; simp at this) p⟩,
   fun σ0 h0 σ x H k hk hg => ⟨fP hk (h0 i h),hg⟩,fun x σ H k k' hk h => hk _ _ h⟩
theorem tP {n:Nat}:CGs n gNil oe :=
  ⟨fun C G ρ σ H pd d v k K hm r p h kk => by
    cases d with
    | nil => rw [Reps] at p; exact ⟨p,kk _ _ h r⟩
    | cons _ _ => exact h.elim,fun σ0 h0 σ x H k hk hg => ⟨hg.1,hk,hg.2⟩,fun x σ H k k' hk h => ⟨h.1,hk _ _ h.2⟩⟩
theorem lA {n:Nat} {g:TG} {gs:TGs} {mg:MG} {mgs:MGs} (h1:CG n g mg) (h2:CGs n gs mgs):CGs n (t6 g gs) (ix mg mgs) :=
  ⟨fun C G ρ σ H pd d v k K hm r p h kk => by
    cases d with
    | nil => exact h.elim
    | cons d ds =>
      rw [Reps] at p
      obtain ⟨v,vs,rfl,p1,p3⟩:=p
      exact ⟨v,vs,rfl,h1.sg C G ρ σ H pd d v _ _ hm r p1 h fun ρ' σ' h' r' => h2.sg C G ρ' σ' H pd ds vs k K hm r' p3 h' kk⟩,
   fun σ0 h0 σ x H k hk hg => by
    obtain ⟨v,r,e,q⟩:=hg
    exact ⟨v,r,e,h1.mn _ _ _ _ _ (fun σ2 H2 z => h2.kp σ0 h0 σ2 r H2 k z.1 z.2) (h1.kp σ0 h0 σ v H _ hk q)⟩,
   fun x σ H k k' hk h => by
    obtain ⟨v,r,e,q⟩:=h
    exact ⟨v,r,e,h1.mn _ _ _ _ _ (fun σ2 H2 z => h2.mn _ _ _ _ _ hk z) q⟩⟩
theorem vv {n j:Nat} {K:PySem.W.Frag} {gs:TGs} {mgs:MGs} (h:CGs n gs mgs) (ht:jt j mgs):CG n (gTup K j gs) (rZ mgs) :=
  ⟨fun C G ρ σ H pd d v k K hm r p h' kk => by
    cases d with
    | tup ds =>
      obtain ⟨a,xs,rfl,h1,h2⟩:=d4 p
      exact ⟨a,xs,rfl,SqT.of (r.gh _ _ h1),by rw [h2.length]; exact ht _ _ _ h',h.sg C G ρ σ H pd ds xs k K hm r h2 h' kk⟩
    | _ => exact h'.elim,
   fun σ0 h0 σ x H k hk hg => by obtain ⟨a,xs,e,e1,e2,q⟩:=hg; exact ⟨a,xs,e,e1,e2,h.kp σ0 h0 σ xs H k hk q⟩,
   fun x σ H k k' hk hg => by obtain ⟨a,xs,e,e1,e2,q⟩:=hg; exact ⟨a,xs,e,e1,e2,h.mn _ _ _ _ _ hk q⟩⟩
def qs (ow:List Bool) (m:ME):TE:=fun σ H Q => ∃ (C:Ctx) (G:Hp) (ρ:DSt) (pd:List (D × V)) (q:D → DSt → Prop),R C ow G ρ σ H pd ∧ m ρ q ∧ ∀ d ρ' v G' H',q d ρ' → aR G G' → Kp ow ρ ρ' → R C ow G' ρ' σ H' pd → Rep G' d v → Q v H'
def qR (ow:List Bool) (m:MT):TT:=fun σ H Q => ∃ (C:Ctx) (G:Hp) (ρ:DSt) (pd:List (D × V)) (q:Bool → DSt → Prop),R C ow G ρ σ H pd ∧ m ρ q ∧ ∀ d ρ' G' H',q d ρ' → aR G G' → Kp ow ρ ρ' → R C ow G' ρ' σ H' pd → Q d H'
theorem nv {ow:List Bool} {m:ME}:SE ow (qs ow m) m:=fun C G ρ σ H pd q Q r h k => ⟨C,G,ρ,pd,q,r,h,k⟩
theorem m_ {ow:List Bool} {m:MT}:STe ow (qR ow m) m:=fun C G ρ σ H pd q Q r h k => ⟨C,G,ρ,pd,q,r,h,k⟩
theorem QE.can {X:Cx} {ow:List Bool} {e:Expr} {m:ME} (h:QE X ow e m):PE X e (qs ow m):=by
  obtain ⟨t,p,s⟩:=h
  exact ⟨fun pins s' σ H Q I ⟨C,G,ρ,pd,q,r,h,k⟩ => p.go pins s' σ H Q I (s C G ρ σ H pd q Q r h k)⟩
theorem QIf.can {X:Cx} {ow:List Bool} {e:List Expr} {m:MT} (h:QIf X ow e m):PIf X e (qR ow m):=by
  obtain ⟨t,p,s⟩:=h
  exact ⟨fun pins s' σ H Q I ⟨C,G,ρ,pd,q,r,h,k⟩ => p.go pins s' σ H Q I (s C G ρ σ H pd q Q r h k)⟩
theorem gi {own:List Str} {js:List Nat} {σ:St}:∀ i,i < own.length → (ca own js σ)[i]? = some none:=fun i h => by
  unfold ca
  rw [List.getElem?_append_left (by simpa using h),List.getElem?_map,List.getElem?_eq_getElem h]; rfl
theorem tZ {ow:List Bool} {wi:TI} {g:TG} {own:List Str} {js:List Nat} (si:SI ow wi mi) (cg:CG own.length g mg) (hj:∀ j ∈ js,ow[j]? ≠ some true):SF ow (lE wi g (qR [] mt) (qs [] me) own js) (ue mi mg mt me own.length js):=fun C G ρ σ H pd q Q r h k =>
  si C G ρ σ H pd _ _ r h fun ds ρ' G' H' J hq z kp r' jo => by
    refine gQ r' hj jo cg.sg m_ nv (fun x H k hg => cg.kp _ gi _ x H k (dM _) hg) hq.1 hq.2 fun es vs G2 H2 hK z2 r2 p2 hl p hp => ?_
    obtain ⟨O2,r2⟩:=r2
    exact k _ ρ' _ _ _ hK.2 (z.trans z2) kp (r2.newL hp hK.1 p2)
theorem nD {ow:List Bool} {wi:TI} {g:TG} {own:List Str} {js:List Nat} (si:SI ow wi mi) (cg:CG own.length g mg) (hj:∀ j ∈ js,ow[j]? ≠ some true):SE ow (lE wi g (qR [] mt) (qs [] me) own js) (m9 mi mg mt me own.length js):=fun C G ρ σ H pd q Q r h k =>
  si C G ρ σ H pd _ _ r h fun ds ρ' G' H' J hq z kp r' jo => by
    refine gQ r' hj jo cg.sg m_ nv (fun x H k hg => cg.kp _ gi _ x H k (dM _) hg) hq.1 hq.2 fun es vs G2 H2 hK z2 r2 p2 hl p hp => ?_
    obtain ⟨O2,r2⟩:=r2
    obtain ⟨r3,z3⟩:=r2.new hp (.lst vs)
    exact k _ ρ' _ _ _ hK (z.trans (z2.trans z3)) kp ⟨O2,r3⟩ (gK aW (Reps.mono z3 _ _ p2))
structure CInn (X:Cx) (tg:Expr) (ifs:List Expr) (elt:Expr) (g:TG) (mt:MT) (me:ME):Prop where
  pg:PG X tg g
  qi:QIf X [] ifs mt
  qe:QE X [] elt me
theorem nZ {g:TG} (own:List Str) (js:List Nat) (c:CompOk X scope cl own js) (hc:X.calm = true) (hi:QI X ow tg iter mi) (cg:CG own.length g mg)
    (inner:∀ (C:Addr) (s₀:Shared) (H₀:Hp) (ex:List Addr),CInn (bT X scope cl (dl X own js) C s₀ H₀ ex) tg ifs elt g mt me) (hj:∀ j ∈ js,ow[j]? ≠ some true:=by decide)
    (hs:∀ x,foldedSetIterable iter X.env x = pure x:=by intro _; rfl):QF X ow (.ListComp elt [⟨tg,iter,ifs,0⟩] scope pos) (ue mi mg mt me own.length js):=by
  obtain ⟨wi,pi,si⟩:=hi
  exact ⟨_,kw own js c hc pi (fun C s₀ H₀ ex => ⟨(inner C s₀ H₀ ex).pg,(inner C s₀ H₀ ex).qi.can,(inner C s₀ H₀ ex).qe.can⟩) hs,tZ si cg hj⟩
theorem b9 {g:TG} (own:List Str) (js:List Nat) (c:CompOk X scope cl own js) (hc:X.calm = true) (hi:QI X ow tg iter mi) (cg:CG own.length g mg)
    (inner:∀ (C:Addr) (s₀:Shared) (H₀:Hp) (ex:List Addr),CInn (bT X scope cl (dl X own js) C s₀ H₀ ex) tg ifs elt g mt me) (hj:∀ j ∈ js,ow[j]? ≠ some true:=by decide)
    (hs:∀ x,foldedSetIterable iter X.env x = pure x:=by intro _; rfl):QE X ow (.ListComp elt [⟨tg,iter,ifs,0⟩] scope pos) (m9 mi mg mt me own.length js):=by
  obtain ⟨wi,pi,si⟩:=hi
  exact ⟨_,kw own js c hc pi (fun C s₀ H₀ ex => ⟨(inner C s₀ H₀ ex).pg,(inner C s₀ H₀ ex).qi.can,(inner C s₀ H₀ ex).qe.can⟩) hs,nD si cg hj⟩
theorem fE {M:Md} {g:TG} {i:Nat} {y:Str} {spos py:Pos} (own:List Str) (js:List Nat) (c:CompOk X scope cl own js) (hc:X.calm = true) (hN:X.N.Nodup) (hy:X.N[i]? = some y) (hx:Loc X.env.scope y) (hi:QI X M.ow tg iter mi) (cg:CG own.length g mg)
    (inner:∀ (C:Addr) (s₀:Shared) (H₀:Hp) (ex:List Addr),CInn (bT X scope cl (dl X own js) C s₀ H₀ ex) tg ifs elt g mt me) (hj:∀ j ∈ js,M.ow[j]? ≠ some true:=by decide) (ho:M.ow[i]? ≠ some true:=by decide) (hu:M.mu[i]? ≠ some true:=by decide)
    (hsw:swapsWith (.ListComp elt [⟨tg,iter,ifs,0⟩] scope pos) (some (.Name y py)) spos.line X.env = pure true:=by rfl)
    (hs:∀ x,foldedSetIterable iter X.env x = pure x:=by intro _; rfl) (hf:X.fn y = true ∨ X.env.scope.names.lookup y = some .local:=by first | exact .inl rfl | exact .inr rfl | assumption) :
    QS X M (.Assign [.Name y py] (.ListComp elt [⟨tg,iter,ifs,0⟩] scope pos) spos) (pp i (m9 mi mg mt me own.length js)):=by
  obtain ⟨wi,pi,si⟩:=hi
  exact ⟨_,lX own js c hc hN hy hx pi (fun C s₀ H₀ ex => ⟨(inner C s₀ H₀ ex).pg,(inner C s₀ H₀ ex).qi.can,(inner C s₀ H₀ ex).qe.can⟩) hsw hs hf,qN (nD si cg hj) ho hu⟩
end
theorem dJ {g:MG} {mt:MT} {me:ME} {ρ0:DSt} {ds:List D} {K:List D → Prop} (f:D → Option D)
    (step:∀ (d:D),d ∈ ds → ∀ k:Option D → Prop,k (f d) → g d ρ0 fun ρ2 => mt ρ2 fun b ρ3 => if b = true then me ρ3 fun x _ => k (some x) else k none) (h:K (ds.filterMap f)):lu g mt me ρ0 ds K:=by
  refine ⟨fun i es => es = (ds.take i).filterMap f,rfl,?_,fun es e => by rw [e,List.take_length]; exact h⟩
  rintro i d es hd rfl
  have:=step d (List.mem_of_getElem? hd) (fun o => match o with | some x => (ds.take i).filterMap f ++ [x] = (ds.take (i + 1)).filterMap f | none => (ds.take i).filterMap f = (ds.take (i + 1)).filterMap f) (by
    rw [List.take_add_one,hd]
    simp only [Option.toList,List.filterMap_append]
    cases e:f d with
    | none => simp [e]
    | some x => simp [e])
  exact this
theorem bF {g:MG} {me:ME} {ρ0:DSt} {ds:List D} {K:List D → Prop} (f:D → D)
    (step:∀ (d:D),d ∈ ds → ∀ k:D → Prop,k (f d) → g d ρ0 fun ρ2 => me ρ2 fun x _ => k x) (h:K (ds.map f)):lu g (p0 true) me ρ0 ds K:=by
  refine ⟨fun i es => es = (ds.take i).map f,rfl,?_,fun es e => by rw [e,List.take_length]; exact h⟩
  rintro i d es hd rfl
  have:=step d (List.mem_of_getElem? hd) (fun x => (ds.take i).map f ++ [x] = (ds.take (i + 1)).map f) (by
    rw [List.take_add_one,hd]; simp)
  exact this
def mO (x:Int):List Int → List Int
  | [] => [x]
  | y :: r => if x ≤ y then x :: y :: r else y :: mO x r
def bO:List Int → List Int
  | [] => []
  | x :: r => mO x (bO r)
theorem gm (x:Int):∀ l:List Int,(mO x l).Perm (x :: l)
  | [] => List.Perm.refl _
  | y :: r => by
    unfold mO
    split
    · exact List.Perm.refl _
    · exact ((gm x r).cons y).trans (List.Perm.swap x y r)
theorem bN:∀ l:List Int,(bO l).Perm l
  | [] => List.Perm.refl _
  | x :: r => (gm x (bO r)).trans ((bN r).cons x)
theorem gB (x:Int):∀ {l:List Int},l.Pairwise (· ≤ ·) → (mO x l).Pairwise (· ≤ ·)
  | [],_ => by simp [mO]
  | y :: r,h => by
    unfold mO
    rw [List.pairwise_cons] at h
    split
    · rename_i c
      refine List.pairwise_cons.mpr ⟨fun z hz => ?_,List.pairwise_cons.mpr h⟩
      rcases List.mem_cons.mp hz with rfl | hz
      · exact c
      · exact Int.le_trans c (h.1 z hz)
    · rename_i c
      refine List.pairwise_cons.mpr ⟨fun z hz => ?_,gB x h.2⟩
      rcases List.mem_cons.mp ((gm x r).mem_iff.mp hz) with rfl | hz
      · omega
      · exact h.1 z hz
theorem db:∀ l:List Int,(bO l).Pairwise (· ≤ ·)
  | [] => List.Pairwise.nil
  | x :: r => gB x (db r)
theorem iq:∀ {a b:List Int},a.Perm b → a.Pairwise (· ≤ ·) → b.Pairwise (· ≤ ·) → a = b
  | [],b,p,_,_ => (List.Perm.nil_eq p)
  | x :: a,[],p,_,_ => by have:=p.length_eq; simp at this
  | x :: a,y :: b,p,ha,hb => by
    have hx:x = y:=by
      rw [List.pairwise_cons] at ha hb
      have h1:x ∈ y :: b:=p.mem_iff.mp (.head _)
      have h2:y ∈ x :: a:=p.mem_iff.mpr (.head _)
      rcases List.mem_cons.mp h1 with rfl | h1
      · rfl
      rcases List.mem_cons.mp h2 with h2 | h2
      · exact h2.symm
      have:=ha.1 y h2
      have:=hb.1 x h1
      omega
    subst hx
    rw [iq ((List.perm_cons x).mp p) (List.pairwise_cons.mp ha).2 (List.pairwise_cons.mp hb).2]
theorem lj {a b:List Int} (p:a.Perm b) (h:a.Pairwise (· ≤ ·)):a = bO b:=iq (p.trans (bN b).symm) h (db b)
theorem iQ (l:List Int):(bO l).length = l.length:=(bN l).length_eq
section
variable {X:Cx}
def q8 (K:PySem.W.Frag):List V → Hp → VK → Prop:=fun xs H Q => ∃ (p:Addr) (ns:List Int),xs = [.ref p] ∧ SqL K H p (ns.map V.int) ∧ ns.length < 64 ∧ ∀ l,H l = none → Q (.ref l) (upd H l (.lst ((bO ns).map V.int)))
theorem em:cC X (.builtin "sorted") (q8 X.K):=by
  intro pins s σ H xs us Q I r h
  obtain ⟨p,ns,rfl,hS,h64,q⟩:=h
  obtain ⟨u,rfl,ru⟩:=eW r
  cases ru
  obtain ⟨its,rv,pl,_⟩:=I.list hS
  have hI:IntsAre its ns:=d7 rv
  have hlen:its.length = ns.length:=by have:=rv.length; simp at this; exact this.symm
  refine sorted_ints (l:=p) (vs:=its) (ns:=ns) (isList_of pl) hI (by omega) fun out ns' a1 a2 a3 => ?_
  obtain ⟨e,he⟩:=sortedAll_at s.heap its out
  have hl:ns' = bO ns:=lj a2 a3
  subst hl
  refine ⟨.ref (s.heap.objs.size + 1),_,I.laid (a:=s.heap.objs.size + 1) (o:=.lst ((bO ns).map V.int)) (t':=s.toks) (fun _ _ q => sortedAll_old q) (Nat.le_succ _) ?_,rfl,q _ (I.hok.fresh (Nat.le_succ _))⟩
  refine ⟨Nat.le_of_lt (cL (by rw [List.length_map,iQ]; omega)),out.toList,e,gv a1,?_⟩
  simpa [seqObj] using he
where
  isList_of {h:Heap} {a:Addr} {its:List Value} (pl:PlainL h a its.toArray):h.IsList a its.toArray:=by
    first | exact pl.isList | exact pl.1 | exact pl
theorem dj {pins:List (Addr × Obj)} {σ:St} {H:Hp} {s:Shared} {p:Addr} {xs:List V} (I:Inv X pins σ H s) (h:SqL X.K H p xs):∃ its:List Value,aY xs its ∧ s.heap.IsList p its.toArray:=by
  obtain ⟨its,rv,⟨o,n,h1,h2,h3,h4⟩,_⟩:=I.list h
  exact ⟨its,rv,o,h1,h2,n,h4⟩
theorem i_ (hc:X.calm = true):cC X (.builtin "sum") (fun xs H Q => ∃ (p:Addr) (ns:List Int),xs = [.ref p] ∧ SqL X.K H p (ns.map V.int) ∧ Q (.int ns.sum) H):=by
  intro pins s σ H xs us Q I r h
  obtain ⟨p,ns,rfl,hS,q⟩:=h
  obtain ⟨u,rfl,ru⟩:=eW r
  cases ru
  obtain ⟨its,rv,hl⟩:=dj I hS
  have hI₂:IntsAre its ns:=d7 rv
  obtain ⟨ys,hys⟩:=hI₂.allInts.items
  have hlY:s.heap.IsList p (intItems ys):=hys ▸ hl
  refine sum_intListG (I.ok.hd hc) hlY fun hp tk₁ tk₂ kept => ?_
  have eY:ns = ys.toList.map (·.1):=by
    rw [← nums_intItems,← hys]; exact Eq.symm (show numsOf its.toArray.toList = ns from hI₂.numsOf)
  have eS:preSum (numAt ys) ys.size = ns.sum:=by rw [preSum_eq,List.take_of_length_le (by simp),eY]
  rw [eS]
  exact ⟨.int ns.sum,H,I.kept kept,⟨tk₂,rfl⟩,q⟩
theorem h9:∀ {bs:List Bool} {us:List Value},aY (bs.map V.bl) us → LSm.BoolsAre us bs
  | [],us,h => by cases h; exact .nil
  | b :: bs,us,h => by
    cases h with
    | cons r1 r2 => cases (show _ = Value.bool b from r1); exact .cons b (h9 r2)
theorem j7 (hc:X.calm = true):cC X (.builtin "all") (fun xs H Q => ∃ (p:Addr) (bs:List Bool),xs = [.ref p] ∧ SqL X.K H p (bs.map V.bl) ∧ Q (.bl (bs.all id)) H):=by
  intro pins s σ H xs us Q I r h
  obtain ⟨p,bs,rfl,hS,q⟩:=h
  obtain ⟨u,rfl,ru⟩:=eW r
  cases ru
  obtain ⟨its,rv,hl⟩:=dj I hS
  have truths:=h9 rv
  have below:p < s.heap.objs.size:=by obtain ⟨_,at_p,_⟩:=hl; exact Heap.lt_size at_p
  refine call_all_walk (wpAny_pyIter_list hl ⟨s.heap.objs.size,[s.heap.objs.size,p],[s.heap.objs.size],its.toArray.size,_,_,fun j => (bs[j]?).getD true,rfl,Walks.list (A:=X.A.in1) (I.ok.hd hc) _ p (Nat.ne_of_lt below) its.toArray,
    ⟨⟨_,Heap.get?_push_size _ rfl,rfl,rfl⟩,hl.push _⟩,fun j u s₁ Q₁ E₁ at_j want => ?_,fun hp tk₁ kept => ?_⟩)
  · obtain ⟨b,is_b,rfl⟩:=truths.get j u (by simpa using at_j)
    simp only [is_b,Option.getD_some] at want
    exact wpAny_truthy_bool want
  · have same:((List.range its.toArray.size).all fun j => (bs[j]?).getD true) = bs.all id:=by rw [List.size_toArray,truths.length]; exact LSm.range_all bs
    rw [same]
    exact ⟨.bl (bs.all id),H,I.kept (LSm.kept_iter kept),rfl,q⟩
theorem oQ (hc:X.calm = true):cC X (.builtin "any") (fun xs H Q => ∃ (p:Addr) (bs:List Bool),xs = [.ref p] ∧ SqL X.K H p (bs.map V.bl) ∧ Q (.bl (bs.any id)) H):=by
  intro pins s σ H xs us Q I r h
  obtain ⟨p,bs,rfl,hS,q⟩:=h
  obtain ⟨u,rfl,ru⟩:=eW r
  cases ru
  obtain ⟨its,rv,hl⟩:=dj I hS
  have truths:=h9 rv
  have below:p < s.heap.objs.size:=by obtain ⟨_,at_p,_⟩:=hl; exact Heap.lt_size at_p
  refine call_any_walk (wpAny_pyIter_list hl ⟨s.heap.objs.size,[s.heap.objs.size,p],[s.heap.objs.size],its.toArray.size,_,_,fun j => (bs[j]?).getD false,rfl,Walks.list (A:=X.A.in1) (I.ok.hd hc) _ p (Nat.ne_of_lt below) its.toArray,
    ⟨⟨_,Heap.get?_push_size _ rfl,rfl,rfl⟩,hl.push _⟩,fun j u s₁ Q₁ E₁ at_j want => ?_,fun hp tk₁ kept => ?_⟩)
  · obtain ⟨b,is_b,rfl⟩:=truths.get j u (by simpa using at_j)
    simp only [is_b,Option.getD_some] at want
    exact wpAny_truthy_bool want
  · have same:((List.range its.toArray.size).any fun j => (bs[j]?).getD false) = bs.any id:=by rw [List.size_toArray,truths.length]; exact LSm.range_any bs
    rw [same]
    exact ⟨.bl (bs.any id),H,I.kept (LSm.kept_iter kept),rfl,q⟩
end
theorem bV {G:Hp}:∀ {ns:List Int} {xs:List V},Reps G (ns.map D.int) xs → xs = ns.map V.int
  | [],xs,h => by rw [List.map_nil,Reps] at h; subst h; rfl
  | n :: r,xs,h => by rw [List.map_cons,Reps] at h; obtain ⟨v,vs,rfl,h1,h2⟩:=h; rw [aA h1,bV h2]; rfl
theorem eB {G:Hp}:∀ {ns:List Bool} {xs:List V},Reps G (ns.map D.bl) xs → xs = ns.map V.bl
  | [],xs,h => by rw [List.map_nil,Reps] at h; subst h; rfl
  | n :: r,xs,h => by rw [List.map_cons,Reps] at h; obtain ⟨v,vs,rfl,h1,h2⟩:=h; rw [cc h1,eB h2]; rfl
def qw:List D → (List D → Prop) → Prop:=fun ds q => match ds with
  | [.lst xs] => ∃ ns:List Int,xs = ns.map D.int ∧ ns.length < 64 ∧ q ((bO ns).map D.int)
  | _ => False
theorem nb {K:PySem.W.Frag}:gb (q8 K) qw:=fun G H xs ds q Q s p hf k => by
  unfold qw at hf
  split at hf
  · obtain ⟨v,rfl,p1⟩:=bA p
    obtain ⟨a,xs,rfl,h1,h2⟩:=bi p1
    obtain ⟨ns,rfl,hl,hq⟩:=hf
    rw [bV h2] at h1
    exact ⟨a,ns,rfl,SqL.of (s _ _ h1),hl,fun l hl => k _ _ l hq (gt _) hl⟩
  · exact hf.elim
def fSum:List D → (D → Prop) → Prop:=fun ds q => match ds with
  | [.lst xs] => ∃ ns:List Int,xs = ns.map D.int ∧ q (.int ns.sum)
  | _ => False
theorem dSum {K:PySem.W.Frag}:dW (fun xs H Q => ∃ (p:Addr) (ns:List Int),xs = [.ref p] ∧ SqL K H p (ns.map V.int) ∧ Q (.int ns.sum) H) fSum:=fun G H xs ds q Q s p hf k => by
  unfold fSum at hf
  split at hf
  · obtain ⟨v,rfl,p1⟩:=bA p
    obtain ⟨a,xs,rfl,h1,h2⟩:=bi p1
    obtain ⟨ns,rfl,hq⟩:=hf
    rw [bV h2] at h1
    exact ⟨a,ns,rfl,SqL.of (s _ _ h1),k _ _ hq (bq _)⟩
  · exact hf.elim
def fAny:List D → (D → Prop) → Prop:=fun ds q => match ds with
  | [.lst xs] => ∃ bs:List Bool,xs = bs.map D.bl ∧ q (.bl (bs.any id))
  | _ => False
def fAll:List D → (D → Prop) → Prop:=fun ds q => match ds with
  | [.lst xs] => ∃ bs:List Bool,xs = bs.map D.bl ∧ q (.bl (bs.all id))
  | _ => False
theorem dAny {K:PySem.W.Frag}:dW (fun xs H Q => ∃ (p:Addr) (bs:List Bool),xs = [.ref p] ∧ SqL K H p (bs.map V.bl) ∧ Q (.bl (bs.any id)) H) fAny:=fun G H xs ds q Q s p hf k => by
  unfold fAny at hf
  split at hf
  · obtain ⟨v,rfl,p1⟩:=bA p
    obtain ⟨a,xs,rfl,h1,h2⟩:=bi p1
    obtain ⟨bs,rfl,hq⟩:=hf
    rw [eB h2] at h1
    exact ⟨a,bs,rfl,SqL.of (s _ _ h1),k _ _ hq (cm _)⟩
  · exact hf.elim
theorem dAll {K:PySem.W.Frag}:dW (fun xs H Q => ∃ (p:Addr) (bs:List Bool),xs = [.ref p] ∧ SqL K H p (bs.map V.bl) ∧ Q (.bl (bs.all id)) H) fAll:=fun G H xs ds q Q s p hf k => by
  unfold fAll at hf
  split at hf
  · obtain ⟨v,rfl,p1⟩:=bA p
    obtain ⟨a,xs,rfl,h1,h2⟩:=bi p1
    obtain ⟨bs,rfl,hq⟩:=hf
    rw [eB h2] at h1
    exact ⟨a,bs,rfl,SqL.of (s _ _ h1),k _ _ hq (cm _)⟩
  · exact hf.elim
section
variable {C:Ctx} {ow:List Bool} {G:Hp} {ρ:DSt} {σ:St} {H:Hp} {pd:List (D × V)} {O:Own}
end
section
variable {ow:List Bool} {t:TE} {m:ME}
end
section
variable {X:Cx} {M:Md} {a b c e:Expr} {ma mb mc:ME} {pos pos':Pos} {mr:MA} {es:List Expr}
theorem bZ (ns:List Int):imms (ns.map D.int) = true:=by
  induction ns with
  | nil => rfl
  | cons n r ih => simp only [List.map,imms,imm,ih]; rfl
end
def mCut (m:MS):MS:=fun n ρ => ∃ I:DSt → Prop,m { n with nx:=I } ρ ∧ ∀ ρ',I ρ' → n.nx ρ'
theorem cG {X:Cx} {M:Md} {st:Stmt} {m:MS} (h:QS X M st m):QS X M st (mCut m):=by
  obtain ⟨t,p,s⟩:=h
  refine ⟨_,p,fun C G ρ σ H n D hm hn r h k => ?_⟩
  obtain ⟨I,h1,h2⟩:=h
  exact s C G ρ σ H _ D hm hn r h1 ⟨fun ρ' σ' G' H' hi => k.nx ρ' σ' G' H' (h2 ρ' hi),k.bk,k.ct,k.rt⟩
mutual
theorem Sep.strip {G H:Hp} {O O':Own} {i i':Nat} {sfx:List Nat} :
    ∀ (d:D) (π:List Nat) (v:V),(∀ a τ,O a = some (i,(τ ++ π) ++ sfx) → O' a = some (i',τ ++ π)) → Sep G H O i d (π ++ sfx) v → Sep G H O' i' d π v
  | .non,_,_,_,h => by rw [Sep] at *; exact h
  | .bl b,_,_,_,h => by rw [Sep] at *; exact h
  | .int n,_,_,_,h => by rw [Sep] at *; exact h
  | .str x,_,_,_,h => by rw [Sep] at *; exact h
  | .tup ds,π,v,hO,h => by
    rw [Sep] at *
    obtain ⟨a,xs,h1,h2,h3⟩:=h
    exact ⟨a,xs,h1,h2,Seps.strip ds 0 π xs (fun a τ => hO a τ) h3⟩
  | .lst ds,π,v,hO,h => by
    rw [Sep] at *
    obtain ⟨a,xs,h1,h2,h3,h4⟩:=h
    exact ⟨a,xs,h1,hO a [] h2,h3,Seps.strip ds 0 π xs (fun a τ => hO a τ) h4⟩
  | .dic ks ds,π,v,hO,h => by
    rw [Sep] at *
    obtain ⟨a,xs,h1,h2,h3,h5,h4⟩:=h
    exact ⟨a,xs,h1,hO a [] h2,h3,h5,Seps.strip ds 0 π xs (fun a τ => hO a τ) h4⟩
  | .dct,_,_,_,h => by rw [Sep] at h; exact h.elim
  | .scr _ _,_,_,_,h => by rw [Sep] at h; exact h.elim
  | .ext _,_,_,_,h => by rw [Sep] at h; exact h.elim
theorem Seps.strip {G H:Hp} {O O':Own} {i i':Nat} {sfx:List Nat} :
    ∀ (ds:List D) (k:Nat) (π:List Nat) (xs:List V),(∀ a τ,O a = some (i,(τ ++ π) ++ sfx) → O' a = some (i',τ ++ π)) → Seps G H O i ds k (π ++ sfx) xs → Seps G H O' i' ds k π xs
  | [],_,_,_,_,h => by rw [Seps] at *; exact h
  | d :: ds,k,π,xs,hO,h => by
    rw [Seps] at *
    obtain ⟨v,vs,h1,h2,h3⟩:=h
    refine ⟨v,vs,h1,Sep.strip d (k :: π) v (fun a τ e => ?_) h2,Seps.strip ds (k + 1) π vs hO h3⟩
    have e' : τ ++ k :: π = (τ ++ [k]) ++ π:=by simp
    rw [e'] at e ⊢
    exact hO a (τ ++ [k]) e
end
section
variable {C:Ctx} {ow:List Bool} {G:Hp} {ρ:DSt} {σ:St} {H:Hp} {pd:List (D × V)} {O:Own}
theorem RO.split {ds:List D} {v:V} (h:RO C ow G ρ σ H ((.tup ds,v) :: pd) O) (hn:C.np ≤ pd.length):∃ a xs,v = .ref a ∧ G a = some (.tup xs) ∧ xs.length = ds.length ∧ R C ow G ρ σ H (ds.zip xs ++ pd):=by
  obtain ⟨s,pn⟩:=h.pn
  rw [Sep] at s
  obtain ⟨a,xs,rfl,hG,hs⟩:=s
  have hl:=hs.length
  refine ⟨a,xs,rfl,hG,hl,lab (fun l π => if l = 2 * pd.length + 1 then (2 * (pd.length + (ds.length - 1 - π.getLastD 0)) + 1,π.dropLast) else (l,π)) O,h.len,h.gh,h.g0,h.gn,?_,h.cok,h.fr,h.al,h.mp,?_,?_,by simp; omega⟩
  · intro b m e
    obtain ⟨l,π,e1,rfl⟩:=ia e
    obtain ⟨q1,q2,q3⟩:=h.og b _ e1
    refine ⟨q1,q2,?_⟩
    split
    · rename_i z
      rcases q3 with q3 | ⟨_,q3⟩
      · exact .inl q3
      · rcases h.cok _ _ _ q3 with ⟨k,_,q4,_⟩ | ⟨k,q4,q5⟩
        · exact absurd (q4.symm.trans z) cO
        · omega
    · exact q3
  · intro j e q
    obtain ⟨u,h1,h2⟩:=h.sl j e q
    refine ⟨u,h1,?_⟩
    split at h2
    · rename_i c; rw [if_pos c]; exact h2.keep (fun _ _ z => z) fun a τ q => ⟨by rw [cf q,if_neg cO],rfl⟩
    · rename_i c; rw [if_neg c]; exact h2
  · have old:∀ (O':Own),(∀ b j π,j < pd.length → O b = some (2 * j + 1,π) → O' b = some (2 * j + 1,π)) → cn G H O' pd:=fun O' hO => cn.keep (fun _ _ z => z) (fun b j π hj q => ⟨hO b j π hj q,rfl⟩) pn
    have key:∀ (ds0:List D) (k:Nat) (xs0:List V) (O':Own),k + ds0.length = ds.length → Seps G H O (2 * pd.length + 1) ds0 k [] xs0 →
        (∀ b j π,j < pd.length → O b = some (2 * j + 1,π) → O' b = some (2 * j + 1,π)) → (∀ b τ k',O b = some (2 * pd.length + 1,τ ++ [k']) → O' b = some (2 * (pd.length + (ds.length - 1 - k')) + 1,τ)) → cn G H O' (ds0.zip xs0 ++ pd):=by
      intro ds0
      induction ds0 with
      | nil => intro k xs0 O' _ _ ho _; exact old O' ho
      | cons d0 r ih =>
        intro k xs0 O' hk hh ho hnw
        rw [Seps] at hh
        obtain ⟨w,ws,rfl,w1,w2⟩:=hh
        have hwl:=w2.length
        refine ⟨?_,ih (k + 1) ws O' (by simp at hk; omega) w2 ho hnw⟩
        have e:(List.zip r ws ++ pd).length = pd.length + (ds.length - 1 - k):=by simp at hk ⊢; omega
        show Sep G H O' (2 * (List.zip r ws ++ pd).length + 1) d0 [] w
        rw [e]
        exact Sep.strip (sfx:=[k]) d0 [] w (fun b τ q => by simpa using hnw b τ k (by simpa using q)) w1
    refine key ds 0 xs _ (by omega) hs (fun b j π hj q => by rw [cf q,if_neg (by omega)]) (fun b τ k' q => ?_)
    rw [cf q,if_pos rfl]
    simp
end
def SGF (M:Md) (g:TGs) (m:MGs):Prop:=∀ (C:Ctx) (G:Hp) (ρ:DSt) (σ:St) (H:Hp) (T pd:List (D × V)) (k:DSt → Prop) (K:St → Hp → Prop),gT C M.mu → C.np ≤ pd.length → R C M.ow G ρ σ H (T ++ pd) → m (T.map (·.1)) ρ k →
  (∀ ρ' σ' G',k ρ' → aR G G' → R C M.ow G' ρ' σ' H pd → K σ' H) → g (T.map (·.2)) σ H K
structure QGF (X:Cx) (M:Md) (e:List Expr) (m:MGs):Prop where
  ex:∃ t,PGs X e t ∧ SGF M t m
section
variable {X:Cx} {M:Md} {a b c e:Expr} {ma mb mc:ME} {pos pos':Pos} {mr:MA} {es:List Expr} {mgs:MGs}
theorem nW:QGF X M [] oe:=⟨_,kH,fun C G ρ σ H T pd k K hm hn r h kk => by
  cases T with
  | nil => exact ⟨rfl,kk _ _ G h (aR.refl _) r⟩
  | cons _ _ => exact h.elim⟩
theorem kz {i:Nat} {x:Str} (hN:X.N.Nodup) (hi:X.N[i]? = some x) (hx:Loc X.env.scope x) (h2:QGF X M es mgs) (ho:M.ow[i]? = some true:=by decide) (hu:M.mu[i]? ≠ some true:=by decide) (hf:X.fn x = true ∨ X.env.scope.names.lookup x = some .local:=by first | exact .inl rfl | exact .inr rfl | assumption)
    (hs:(assignEach (.Name x pos :: es) X.env).map (·.2) = assign (.Name x pos) X.env :: (assignEach es X.env).map (·.2):=by rfl):QGF X M (.Name x pos :: es) (ix (ge i) mgs):=by
  obtain ⟨t2,p2,s2⟩:=h2
  refine ⟨_,eT (bh hN hi hx hf) p2 hs,fun C G ρ σ H T pd k K hm hn r h kk => ?_⟩
  cases T with
  | nil => exact h.elim
  | cons x T =>
    obtain ⟨O,r⟩:=r
    exact ⟨_,_,rfl,s2 C G _ _ H T pd k K hm hn (r.setO ho (hm.no hu) (by simp; omega)) h kk⟩
theorem pU {i:Nat} {x:Str} (hN:X.N.Nodup) (hi:X.N[i]? = some x) (hx:Loc X.env.scope x) (h2:QGF X M es mgs) (ho:M.ow[i]? ≠ some true:=by decide) (hu:M.mu[i]? ≠ some true:=by decide) (hf:X.fn x = true ∨ X.env.scope.names.lookup x = some .local:=by first | exact .inl rfl | exact .inr rfl | assumption)
    (hs:(assignEach (.Name x pos :: es) X.env).map (·.2) = assign (.Name x pos) X.env :: (assignEach es X.env).map (·.2):=by rfl):QGF X M (.Name x pos :: es) (ix (ge i) mgs):=by
  obtain ⟨t2,p2,s2⟩:=h2
  refine ⟨_,eT (bh hN hi hx hf) p2 hs,fun C G ρ σ H T pd k K hm hn r h kk => ?_⟩
  cases T with
  | nil => exact h.elim
  | cons x T =>
    obtain ⟨O,r⟩:=r
    obtain ⟨G2,z2,⟨O2,r2⟩,p⟩:=r.share (by simp; omega)
    exact ⟨_,_,rfl,s2 C G2 _ _ H T pd k K hm hn ⟨O2,r2.setS ho (hm.no hu) p⟩ h fun ρ' σ' G' hk z r' => kk ρ' σ' G' hk (z2.trans z) r'⟩
theorem nQ {kk:Nat} {n:Nat} {tpos:Pos} (hc:X.calm = true) (he:QM X M e ma) (hg:QGF X M es mgs) (ht:jt n mgs)
    (hn:(assignEach es X.env).length = n:=by rfl) (hst:(assignEach es X.env).findIdx? (·.1) = none:=by rfl)
    (hs:swapsWithSole [.Tuple es kk tpos] e pos.line X.env = pure false:=by rfl) (hw:swappedStores [.Tuple es kk tpos] e X.env = pure none:=by rfl)
    (h1:(assignEach [.Tuple es kk tpos] X.env).map (·.2) = [assign (.Tuple es kk tpos) X.env]:=by rfl):QS X M (.Assign [.Tuple es kk tpos] e pos) (mAsg ma (rZ mgs)):=by
  obtain ⟨t,p,s⟩:=he; obtain ⟨t2,p2,s2⟩:=hg
  refine ⟨_,mK p (mj hc p2 hn hst) hs hw h1,fun C G ρ σ H n D hm hn r h k => s C G ρ σ H [] _ _ hm r h fun d ρ' v G' H' hq z r' => ?_⟩
  cases d with
  | tup ds =>
    obtain ⟨O,r'⟩:=r'
    obtain ⟨a,xs,rfl,h1,h2,r2⟩:=r'.split (by rw [hn]; exact Nat.zero_le _)
    have hl:=ht _ _ _ hq
    have e1:(ds.zip xs).map (·.1) = ds:=List.map_fst_zip (by omega)
    have e2:(ds.zip xs).map (·.2) = xs:=List.map_snd_zip (by omega)
    refine ⟨a,xs,rfl,SqT.of (r2.gh _ _ h1),by omega,?_⟩
    have:=s2 C G' ρ' σ H' (ds.zip xs) [] n.nx D.nx hm (by rw [hn]; exact Nat.zero_le _) r2 (by rw [e1]; exact hq) fun ρ3 σ3 G3 h3 z3 r3 => k.nx ρ3 σ3 G3 H' h3 (z.trans z3) r3
    rw [e2] at this
    exact this
  | _ => exact hq.elim
end
def rGetL (K:PySem.W.Frag):V → V → Hp → VK → Prop:=fun x y H Q => ∃ p xs i v,x = .ref p ∧ y = .int i ∧ SqL K H p xs ∧ 0 ≤ i ∧ atI xs i = some v ∧ Q v H
theorem rW {X:Cx}:PGet X (rGetL X.K):=fun pins s σ H o i ov iv Q I ro ri h => by
  obtain ⟨p,xs,k,v,rfl,rfl,hS,h0,ha,q⟩:=h
  cases ro
  obtain ⟨t,rfl⟩:=ri
  obtain ⟨its,r,pl,hz⟩:=I.list hS
  obtain ⟨j,h1,h2,h3,h4,h5⟩:=f8 ha
  obtain ⟨w,ew,rw'⟩:=r.get h2
  have hn:=ft
  have hj:k.toNat = j:=by
    rw [seqIndex_of h0 h5] at h1
    exact Option.some.inj h1
  exact wpAny_getItem_list pl.isList h0 (by omega) (by rw [hj]; simpa using ew) ⟨v,H,I,rw',q⟩
section
variable {X:Cx} {M:Md} {a b c e:Expr} {ma mb mc:ME} {pos pos':Pos}
def uc (i:Nat) (mk m:ME):MS:=fun n ρ => match ρ[i]? with
  | some (some (.lst _)) => mk ρ fun k ρ1 => match k with
    | .int j => match ρ1[i]? with
      | some (some (.lst ds)) => 0 ≤ j ∧ match atI ds j with
        | some (.int x) => m ρ1 fun d ρ2 => match d with
          | .int y => match ρ2[i]? with
            | some (some (.lst ds2)) => match ixN ds2.length j with
              | some p => n.nx (ρ2.set i (some (.lst (ds2.set p (.int (x + y))))))
              | none => False
            | _ => False
          | _ => False
        | _ => False
      | _ => False
    | _ => False
  | _ => False
theorem sY {i:Nat} {x:Str} {npos spos:Pos} (hN:X.N[i]? = some x) (he:QE X M.ow e ma) (hk:QE X M.ow b mb) (ho:M.ow[i]? = some true:=by decide)
    (hv:Vis X.env.scope x:=by first | exact Or.inl rfl | exact Or.inr (Or.inl rfl) | exact Or.inr (Or.inr rfl)) (hd:(x == ("__debug__":Str)) = false:=by decide) (hcd:(x == ("__classdict__":Str)) = false:=by decide)
    (ha:∀ ov iv new,augStore b ov iv new = (do holding [new,ov,iv] (setItem ov iv new); release [new,ov,iv] []; pure .next):=by intros; rfl) :
    QS X M (.AugAssign (.Subscript (.Name x npos) b spos) .Add e pos) (uc i mb ma):=by
  obtain ⟨t,p,s⟩:=he; obtain ⟨t2,p2,s2⟩:=hk
  refine ⟨_,sj (d6 hN hv hd hcd) p2 rW p vx ln ha,fun C G ρ σ H n D hm hn r h k => ?_⟩
  unfold uc at h
  split at h
  · rename_i ds0 e0
    obtain ⟨O0,ro⟩:=r
    obtain ⟨a,xs0,hu,g0,_,_⟩:=ro.write e0 ho
    refine ⟨.ref a,hu,?_⟩
    refine s2 C G ρ σ H [] _ _ ⟨O0,ro⟩ h fun dk ρ1 jv G1 H1 hq1 z1 kp1 r1 pj => ?_
    cases dk with
    | int j =>
      dsimp only at hq1
      split at hq1
      · rename_i ds1 e1
        obtain ⟨j0,hq1⟩:=hq1
        obtain ⟨O1,r1⟩:=r1
        obtain ⟨a1,xs1,hu1,g1,g2,_⟩:=r1.write e1 ho
        rw [hu] at hu1; cases hu1
        split at hq1
        · rename_i x ex
          have exx:=ex
          obtain ⟨jj,q1,q2,q3,q4,q5⟩:=f8 ex
          obtain ⟨v,w1,w2⟩:=g2.at q2
          have hv:atI xs1 j = some v:=by
            unfold atI at ex ⊢
            rw [g2.length]
            cases z:ixN ds1.length j with
            | none => rw [z] at ex; cases ex
            | some j' =>
              have:j' = jj:=by
                have:=(kJ z).1; rw [this] at q1; exact Option.some.inj q1
              subst this; exact w1
          have hv2:v = .int x:=by rw [Sep] at w2; exact w2
          subst hv2
          refine ⟨a,xs1,j,.int x,rfl,aA pj,SqL.of g1,j0,hv,?_⟩
          refine s C G1 ρ1 σ H1 [] _ _ ⟨O1,r1⟩ hq1 fun dy ρ2 yv G2 H2 hq2 z2 kp2 r2 py => ?_
          cases dy with
          | int y =>
            dsimp only at hq2
            split at hq2
            · rename_i ds2 e2
              split at hq2
              · rename_i pl e3
                obtain ⟨O2,r2⟩:=r2
                obtain ⟨a2,xs2,f1,f2,f3,f4⟩:=r2.write e2 ho
                rw [hu] at f1; cases f1
                refine ⟨x,y,rfl,aA py,a,xs2,j,pl,rfl,aA pj,f2,by rw [f3.length]; exact e3,?_⟩
                exact k.nx _ _ G2 _ hq2 (z1.trans z2) ⟨O2,f4 _ _ (f3.set (by rw [Sep]))⟩
              · exact hq2.elim
            · exact hq2.elim
          | _ => exact hq2.elim
        · exact hq1.elim
      · exact hq1.elim
    | _ => exact hq1.elim
  · exact h.elim
end
def uu (g:MG) (mt:MT) (me:ME) (ρ0:DSt) (k0:Nat) (ds:List D) (d0:D) (K:List D → D → Prop):Prop:=∃ I:Nat → List D → D → Prop,I 0 [] d0 ∧
  (∀ i x es d,ds[i]? = some x → I i es d → g x (ρ0.set k0 (some d)) fun ρ2 => mt ρ2 fun b ρ3 => if b = true then me ρ3 fun y ρ4 => (match ρ4[k0]? with | some (some d') => I (i + 1) (es ++ [y]) d' | _ => False) else match ρ3[k0]? with | some (some d') => I (i + 1) es d' | _ => False) ∧
  ∀ es d,I ds.length es d → K es d
def rm (mi:MA) (g:MG) (mt:MT) (me:ME) (k:Nat) (js:List Nat) (j0 k0:Nat):ME:=fun ρ q => mi ρ fun ds ρ1 => ds.length ≤ 1000 ∧ match ρ1[j0]? with
  | some (some d0) => uu g mt me (eA k js ρ1) k0 ds d0 fun es d => imms es = true ∧ q (.lst es) (ρ1.set j0 (some d))
  | _ => False
def owM (k0:Nat):List Bool:=List.replicate k0 false ++ [true]
theorem e8 {k0 i:Nat}:(owM k0)[i]? = some true ↔ i = k0:=by
  unfold owM
  by_cases h:i < k0
  · rw [List.getElem?_append_left (by simpa using h),List.getElem?_replicate,if_pos h]
    constructor
    · intro z; cases z
    · intro z; omega
  · rw [List.getElem?_append_right (by simpa using h),List.length_replicate]
    cases e:i - k0 with
    | zero => simp; omega
    | succ m => simp; omega
def muM (k0:Nat) (v:V):List (Option V):=List.replicate k0 none ++ [some v]
theorem nI {k0 i:Nat} {v w:V} (h:(muM k0 v)[i]? = some (some w)):i = k0 ∧ w = v:=by
  unfold muM at h
  by_cases c:i < k0
  · rw [List.getElem?_append_left (by simpa using c),List.getElem?_replicate,if_pos c] at h; cases h
  · rw [List.getElem?_append_right (by simpa using c),List.length_replicate] at h
    cases e:i - k0 with
    | zero => rw [e] at h; simp at h; exact ⟨by omega,h.symm⟩
    | succ m => rw [e] at h; simp at h
theorem vG (k0:Nat) (v:V):(muM k0 v)[k0]? = some (some v):=by unfold muM; rw [List.getElem?_append_right (by simp)]; simp
theorem tF {k:Nat} {js:List Nat} {ρ:DSt} {i:Nat} {d:D} (e:(eA k js ρ)[i]? = some (some d)):k ≤ i ∧ ∃ j,js[i - k]? = some j ∧ ρ[j]? = some (some d):=by
  unfold eA at e
  by_cases c:i < k
  · rw [List.getElem?_append_left (by simpa using c),List.getElem?_replicate] at e
    split at e <;> cases e
  · rw [List.getElem?_append_right (by simpa using c),List.getElem?_map] at e
    simp only [List.length_replicate] at e
    refine ⟨by omega,?_⟩
    cases z:js[i - k]? with
    | none => rw [z] at e; cases e
    | some j =>
      rw [z] at e
      have e':(ρ[j]?).getD none = some d:=Option.some.inj e
      refine ⟨j,rfl,?_⟩
      cases w : ρ[j]? with
      | none => rw [w] at e'; cases e'
      | some o => rw [w] at e'; exact congrArg some e'
theorem oo {own:List Str} {js:List Nat} {σ:St} {i j:Nat} {v:V} (hi:own.length ≤ i) (hj:js[i - own.length]? = some j) (hv : σ[j]? = some (some v)):(ca own js σ)[i]? = some (some v):=by
  unfold ca
  rw [List.getElem?_append_right (by simpa using hi),List.getElem?_map]
  simp only [List.length_map]
  rw [hj,show (some j).map _ = some ((σ[j]?).getD none) from rfl,hv]; rfl
structure CGM (k0 n:Nat) (g:TG) (m:MG):Prop where
  sg:SG ⟨owM k0,owM k0,false⟩ g m
  kp:uI n g
  mn:MonG g
theorem re {k0 n:Nat} (i:Nat) (h:i < n:=by decide) (hk:n ≤ k0:=by decide):CGM k0 n (g6 i) (ge i) :=
  ⟨fun C G ρ σ H pd d v k K hm r p hh kk => by
    have hn:(owM k0)[i]? ≠ some true:=fun z => by have:=e8.mp z; omega
    obtain ⟨O,r⟩:=r; exact kk _ _ hh ⟨O,r.setS hn (hm.no hn) p⟩,
   fun σ0 h0 σ x H k hk hg => ⟨fP hk (h0 i h),hg⟩,fun x σ H k k' hk h => hk _ _ h⟩
theorem lR {ow:List Bool} {J:It} {g:TG} {mg:MG} {tt:TT} {mt:MT} {te:TE} {me:ME} {C:Ctx} {G:Hp} {ρ:DSt} {σ:St} {H:Hp} {pd:List (D × V)} {ds:List D} {own:List Str} {js:List Nat} {j0 k0:Nat} {d0:D} {K:List D → D → Prop} {Z:List V → Hp → Prop}
    (r:R C ow G ρ σ H pd) (ho:ow[j0]? = some true) (hk0:own.length ≤ k0) (hjk:js[k0 - own.length]? = some j0) (hj:∀ (i j:Nat),js[i]? = some j → i ≠ k0 - own.length → ow[j]? ≠ some true) (he : ρ[j0]? = some (some d0)) (jo:l8 J G ds) (cg:CGM k0 own.length g mg) (st:STe (owM k0) tt mt) (se:SE (owM k0) te me)
    (hl:ds.length ≤ 1000) (h:uu mg mt me (eA own.length js ρ) k0 ds d0 K)
    (k:∀ es d vs G' H',K es d → aR G G' → R C ow G' (ρ.set j0 (some d)) σ H' pd → Reps G' es vs → vs.length ≤ 1000 → Z vs H'):nV J g tt te (ca own js σ) H Z:=by
  obtain ⟨O,ro⟩:=r
  obtain ⟨v0,hv0,sv0⟩:=ro.sl j0 d0 he
  rw [if_pos ho] at sv0
  let fin:Nat → Option Nat:=fun l => if l = 2 * j0 then some (2 * k0) else none
  let fbk:Nat → Option Nat:=fun l => if l = 2 * k0 then some (2 * j0) else none
  let C1:Ctx:=⟨G,H,cM fin O,muM k0 v0,0⟩
  let ρ0:=eA own.length js ρ
  have s0k:(ca own js σ)[k0]? = some (some v0):=oo hk0 hjk hv0
  have r0l:k0 < ρ0.length:=by
    have:k0 - own.length < js.length:=(List.getElem?_eq_some_iff.mp hjk).1
    show k0 < (eA own.length js ρ).length
    unfold eA; simp; omega
  have fino:∀ l l',fin l = some l' → l = 2 * j0 ∧ l' = 2 * k0:=fun l l' e => by
    change (if l = 2 * j0 then _ else _) = _ at e
    split at e
    · rename_i c; exact ⟨c,(Option.some.inj e).symm⟩
    · cases e
  have finj:fin (2 * j0) = some (2 * k0):=by show (if _ then _ else _) = _; rw [if_pos rfl]
  -- the inner state,by the owned slot's value
  have inner:∀ {G':Hp} {H':Hp} {O':Own} {d:D},aR G G' → aR G' H' → (∀ a o,G' a = some o → G a = some o ∨ H a = none) → (∀ a l,O' a = some l → G' a = none ∧ (∃ xs:WrO,H' a = some xs.ho) ∧ Nw C1 a l.1) →
      (∀ a o,H a = some o → cM fin O a = none → H' a = some o) → (∀ a,H' a = none → H a = none) → Sep G' H' O' (2 * k0) d [] v0 → RO C1 (owM k0) G' (ρ0.set k0 (some d)) (ca own js σ) H' [] O':=by
    intro G' H' O' d z gh gn og fr al sp
    refine ⟨by rw [List.length_set]; show (eA own.length js ρ).length = _; unfold eA ca; simp,gh,z,gn,og,?_,fr,al,?_,?_,trivial,Nat.le_refl _⟩
    · intro a l π e
      obtain ⟨l0,e1,e2⟩:=ff e
      obtain ⟨_,rfl⟩:=fino _ _ e2
      exact .inl ⟨k0,v0,rfl,vG k0 v0⟩
    · intro i w e
      obtain ⟨rfl,rfl⟩:=nI e
      exact s0k
    · intro i d' e
      rcases dZ e with ⟨rfl,e'⟩ | ⟨hne,e'⟩
      · cases e'
        exact ⟨v0,s0k,by rw [if_pos (e8.mpr rfl)]; exact sp⟩
      · obtain ⟨hi,j,h1,h2⟩:=tF e'
        obtain ⟨v,g1,g2⟩:=ro.sl j d' h2
        rw [if_neg (hj _ j h1 (by omega))] at g2
        exact ⟨v,oo hi h1 g1,by rw [if_neg (fun zz => hne (e8.mp zz))]; exact g2.mono z⟩
  have og1:∀ a l,cM fin O a = some l → G a = none ∧ (∃ xs:WrO,H a = some xs.ho) ∧ Nw C1 a l.1:=fun a l e => by
    obtain ⟨l',π⟩:=l
    obtain ⟨l0,e1,e2⟩:=ff e
    obtain ⟨q1,q2,_⟩:=ro.og a _ e1
    exact ⟨q1,q2,.inr ⟨π,e⟩⟩
  have ev:R C1 (owM k0) G (ρ0.set k0 (some d0)) (ca own js σ) H []:=⟨_,inner (aR.refl _) ro.gh (fun _ _ e => .inl e) og1 (fun _ _ e _ => e) (fun _ e => e) (sv0.keep (fun _ _ z => z) fun a τ q => ⟨nO q finj,rfl⟩)⟩
  obtain ⟨I,i0,turn,fini⟩:=h
  have hmu:gT C1 (owM k0):=fun i v e => by obtain ⟨rfl,_⟩:=nI e; exact e8.mpr rfl
  refine ⟨fun i m acc H' => m = ds.length - i ∧ i ≤ ds.length ∧ acc.length ≤ i ∧ ∃ G' es d,aR G G' ∧ R C1 (owM k0) G' (ρ0.set k0 (some d)) (ca own js σ) H' [] ∧ Reps G' es acc ∧ I i es d,⟨_,rfl,Nat.zero_le _,Nat.le_refl _,G,[],d0,aR.refl _,ev,bS,i0⟩,?_⟩
  rintro i m acc H' ⟨rfl,hi,ha,G',es,d,z,r',pa,w⟩
  obtain ⟨sp,go⟩:=jo C1 (owM k0) G' _ _ H' [] i z r'
  by_cases hlt:i < ds.length
  · obtain ⟨g1,g2⟩:=go ds[i] (List.getElem?_eq_getElem hlt)
    refine .inr ⟨g1,cL (by omega),fun acc' H2 => acc'.length ≤ i + 1 ∧ ∃ G2 es2 d2,aR G G2 ∧ R C1 (owM k0) G2 (ρ0.set k0 (some d2)) (ca own js σ) H2 [] ∧ Reps G2 es2 acc' ∧ I (i + 1) es2 d2,fun acc' H2 h => ⟨ds.length - (i + 1),by omega,rfl,hlt,h.1,h.2⟩,fun x H1 hy => ?_⟩
    obtain ⟨G1,z1,r1,p1⟩:=g2 x H1 hy
    have step1:=cg.sg C1 G1 _ _ H1 [] ds[i] x _ (fun σ2 H2 => ∃ ρ2,(mt ρ2 fun b ρ3 => if b = true then me ρ3 fun y ρ4 => (match ρ4[k0]? with | some (some d') => I (i + 1) (es ++ [y]) d' | _ => False) else match ρ3[k0]? with | some (some d') => I (i + 1) es d' | _ => False) ∧ R C1 (owM k0) G1 ρ2 σ2 H2 []) hmu r1 p1 (turn i ds[i] es d (List.getElem?_eq_getElem hlt) w) (fun ρ2 σ2 h2 r2 => ⟨ρ2,h2,r2⟩)
    refine cg.mn _ _ _ _ _ ?_ (cg.kp (ca own js σ) gi (ca own js σ) x H1 _ (dM _) step1)
    rintro σ2 H2 ⟨hkp,ρ2,h2,r2⟩
    refine ⟨hkp,st C1 G1 ρ2 σ2 H2 [] _ _ r2 h2 fun b ρ3 G3 H3 h3 z3 kp3 r3 => ?_⟩
    have bk:∀ {G4:Hp} {ρ4:DSt} {H4:Hp} {d':D},ρ4[k0]? = some (some d') → R C1 (owM k0) G4 ρ4 σ2 H4 [] → R C1 (owM k0) G4 (ρ0.set k0 (some d')) (ca own js σ) H4 []:=fun e4 ⟨O4,r4⟩ => by
      obtain ⟨v,q1,q2⟩:=r4.sl k0 _ e4
      rw [if_pos (e8.mpr rfl)] at q2
      rw [eL hkp k0 v0 s0k] at q1
      cases q1
      exact ⟨O4,inner r4.g0 r4.gh r4.gn r4.og r4.fr r4.al q2⟩
    cases b with
    | true =>
      rw [if_pos rfl] at h3 ⊢
      refine se C1 G3 ρ3 σ2 H3 [] _ _ r3 h3 fun y ρ4 v G4 H4 h4 z4 kp4 r4 p4 => ?_
      split at h4
      · rename_i d' e4
        exact ⟨by simp; omega,G4,es ++ [y],d',z.trans (z1.trans (z3.trans z4)),bk e4 r4,eN (Reps.mono (z1.trans (z3.trans z4)) _ _ pa) (bG p4 bS),h4⟩
      · exact h4.elim
    | false =>
      rw [if_neg (by decide)] at h3 ⊢
      split at h3
      · rename_i d' e4
        exact ⟨by omega,G3,es,d',z.trans (z1.trans z3),bk e4 r3,Reps.mono (z1.trans z3) _ _ pa,h3⟩
      · exact h3.elim
  · have e:i = ds.length:=by omega
    subst e
    refine .inl ⟨sp (Nat.le_refl _),c_ (by omega),?_⟩
    obtain ⟨O2,r2⟩:=r'
    refine k es d acc G' H' (fini es d w) z ⟨o5 fin fbk O O2,?_⟩ pa (by omega)
    refine ro.out (vs:=[]) r2 ?_ (by rw [List.length_set]; exact ro.len) ro.np ?_ ?_ fun O3 h1 h2 ts => ?_
    · intro l0 l' l e1 e2
      obtain ⟨rfl,rfl⟩:=fino _ _ e1
      change (if 2 * k0 = 2 * k0 then _ else _) = _ at e2
      rw [if_pos rfl] at e2
      exact (Option.some.inj e2).symm
    · intro i d' c e
      rcases dZ e with ⟨rfl,_⟩ | ⟨_,e'⟩
      · exact absurd ho c
      · exact e'
    · intro i d' c e
      rcases dZ e with ⟨rfl,e'⟩ | ⟨hne,e'⟩
      · cases e'
        exact .inr ⟨k0,v0,by show (if _ then _ else _) = _; rw [if_pos rfl],e8.mpr rfl,by rw [List.getElem?_set_self r0l],hv0,s0k⟩
      · exact .inl ⟨by show (if _ then _ else _) = _; rw [if_neg (by omega)],e'⟩
    · exact cn.keep ts (fun a j π hj e => h1 a _ _ e (by show (if _ then _ else _) = _; rw [if_neg (by omega)])) ro.pn
section
variable {X:Cx} {ow:List Bool} {elt tg iter:Expr} {ifs:List Expr} {pos:Pos} {mi:MA} {mg:MG} {mt:MT} {me:ME} {scope:Scope} {cl:List (Str × Addr)}
theorem rk {wi:TI} {g:TG} {own:List Str} {js:List Nat} {j0 k0:Nat} (si:SI ow wi mi) (cg:CGM k0 own.length g mg) (ho:ow[j0]? = some true) (hk0:own.length ≤ k0) (hjk:js[k0 - own.length]? = some j0) (hj:∀ (i j:Nat),js[i]? = some j → i ≠ k0 - own.length → ow[j]? ≠ some true) :
    SF ow (lE wi g (qR (owM k0) mt) (qs (owM k0) me) own js) (rm mi mg mt me own.length js j0 k0):=fun C G ρ σ H pd q Q r h k =>
  si C G ρ σ H pd _ _ r h fun ds ρ' G' H' J hq z kp r' jo => by
    obtain ⟨hl,hq⟩:=hq
    split at hq
    · rename_i d0 e0
      refine lR r' ho hk0 hjk hj e0 jo cg m_ nv hl hq fun es d vs G2 H2 hK z2 r2 p2 hl p hp => ?_
      obtain ⟨O2,r2⟩:=r2
      exact k _ _ _ _ _ hK.2 (z.trans z2) (kp.trans fun j hj => List.getElem?_set_ne (fun (zz:j0 = j) => hj (zz ▸ ho))) (r2.newL hp hK.1 p2)
    · exact hq.elim
structure CInnM (X:Cx) (k0:Nat) (tg:Expr) (ifs:List Expr) (elt:Expr) (g:TG) (mt:MT) (me:ME):Prop where
  pg:PG X tg g
  qi:QIf X (owM k0) ifs mt
  qe:QE X (owM k0) elt me
theorem rz {g:TG} (own:List Str) (js:List Nat) (j0 k0:Nat) (c:CompOk X scope cl own js) (hc:X.calm = true) (hi:QI X ow tg iter mi) (cg:CGM k0 own.length g mg)
    (inner:∀ (C:Addr) (s₀:Shared) (H₀:Hp) (ex:List Addr),CInnM (bT X scope cl (dl X own js) C s₀ H₀ ex) k0 tg ifs elt g mt me) (ho:ow[j0]? = some true:=by decide) (hk0:own.length ≤ k0:=by decide) (hjk:js[k0 - own.length]? = some j0:=by rfl)
    (hj:(js.mapIdx fun i j => decide (i = k0 - own.length) || !decide (ow[j]? = some true)).all id = true:=by decide)
    (hs:∀ x,foldedSetIterable iter X.env x = pure x:=by intro _; rfl):QF X ow (.ListComp elt [⟨tg,iter,ifs,0⟩] scope pos) (rm mi mg mt me own.length js j0 k0):=by
  obtain ⟨wi,pi,si⟩:=hi
  have hj':∀ (i j:Nat),js[i]? = some j → i ≠ k0 - own.length → ow[j]? ≠ some true:=fun i j e hne z => by
    rw [List.all_eq_true] at hj
    have:=hj (decide (i = k0 - own.length) || !decide (ow[j]? = some true)) (List.mem_of_getElem? (i:=i) (by rw [List.getElem?_mapIdx,e]; rfl))
    simp [hne,z] at this
  exact ⟨_,kw own js c hc pi (fun C s₀ H₀ ex => ⟨(inner C s₀ H₀ ex).pg,(inner C s₀ H₀ ex).qi.can,(inner C s₀ H₀ ex).qe.can⟩) hs,rk si cg ho hk0 hjk hj'⟩
end
section
variable {X:Cx} {M:Md} {a b c e:Expr} {ma mb mc:ME} {pos pos' p1 p2 p3:Pos} {te:TE} {j1:Nat} {ow:List Bool}
end
def isW:D → Bool
  | .int _ => true
  | _ => false
def btw (lo hi:Int):D → Bool
  | .int i => decide (lo ≤ i) && decide (i ≤ hi)
  | _ => false
structure Tree (ps rs:List Int):Prop where
  len:ps.length = rs.length
  lo : 1 ≤ ps.length
  hi:ps.length ≤ 23
  par:∀ (i:Nat) (x:Int),ps[i]? = some x → 0 ≤ x ∧ x ≤ i
  room:∀ (i:Nat) (x:Int),rs[i]? = some x → 1 ≤ x ∧ x ≤ 1000000
def so:SpD:=fun ds q => ∃ d,ds = [d] ∧ d.isS = false ∧ q (.bl (isW d)) []
def ph:SpD:=fun ds q => ∃ d lo hi,ds = [d,.int lo,.int hi] ∧ d.isS = false ∧ q (.bl (btw lo hi d)) []
def wS:SpD:=fun ds q => ∃ ps rs,ds = [aN ps rs] ∧ Tree ps rs ∧ q (.bl true) []
def w4:SpD:=fun ds q => ∃ ps rs,ds = [aN ps rs] ∧ Tree ps rs ∧ q .non []
def n_ (K:PySem.W.Frag) (φ:Addr → Prop) (ns:List Int):Prop:=∀ a H,φ a → SqL K H a (ns.map V.int)
def vI (K:PySem.W.Frag):SpD:=fun ds q => ∃ φ ns k,ds = [.scr φ ns,.int k] ∧ n_ K φ ns ∧ 0 ≤ k ∧ k ≤ 1000 ∧ ∀ c m,0 ≤ c → q (ap [c,m]) []
def wE:SpD:=fun ds q => ∃ c m many,ds = [ap [c,m],.int many] ∧ 0 ≤ c ∧ 0 < many ∧ Sm many ∧ ∀ r c' m',0 ≤ r → r < many → 0 ≤ c' → q (.int r) [some (ap [c',m'])]
def qT (K:PySem.W.Frag):SpD:=fun ds q => ∃ φ ns,ds = [.scr φ ns] ∧ n_ K φ ns ∧ ns.length ≤ 63 ∧ q (.bl true) []
def nS (K:PySem.W.Frag):Sp:=fun vs H Q _ => ∃ (a:Addr) (ns:List Int),vs = [.ref a] ∧ Only H ∧ SqL K H a (ns.map V.int) ∧ ns.length ≤ 63 ∧ ∀ H',Q (.bl true) H'
theorem qg {K:PySem.W.Frag} {vs:List V} {H:Hp} {Q:VK} {E:XK} (h:nS K vs H Q E):bd [false] false (qT K) vs H Q E:=by
  obtain ⟨a,ns,rfl,hO,hS,hl,hq⟩:=h
  have main:∀ φ:Addr → Prop,n_ K φ ns → Rep H (.scr φ ns) (.ref a) → bd [false] false (qT K) [.ref a] H Q E:=fun φ hφ r => by
    refine ⟨⟨H,H,fun _ => none,[none],0⟩,H,[.scr φ ns],fun d _ => d = .bl true,rfl,rfl,⟨fun _ => none,rfl,aR.refl _,aR.refl _,fun _ _ e => .inl e,fun a l e => by (first | cases e),fun a l π e => by (first | cases e),fun _ _ e _ => e,fun _ e => e,fun i v e => ?_,?_,trivial,Nat.le_refl _⟩,⟨φ,ns,rfl,hφ,hl,rfl⟩,rfl,?_⟩
    · cases i with
      | zero => simp at e
      | succ i => simp at e
    · intro i d e
      cases i with
      | zero => simp at e; subst e; exact ⟨_,rfl,by simpa using r⟩
      | succ i => simp at e
    · intro d ρ' σ' v G' H' hd _ _ hr
      subst hd
      unfold Ret at hr
      rw [if_neg (by decide)] at hr
      rw [cc hr.2]
      exact hq H'
  rcases hS with (h1 | ⟨o,h1⟩) | h1
  · rcases hO a with z | ⟨o,xs,z⟩
    · rw [h1] at z; cases z
    · rw [h1] at z; cases z
  · exact main (fun _ => False) (fun _ _ z => z.elim) (by rw [Rep]; exact ⟨a,rfl,.inl ⟨o,h1⟩⟩)
  · exact main (fun b => b = a) (fun b H' z => by subst z; exact .inr h1) (by rw [Rep]; exact ⟨a,rfl,.inr rfl⟩)
theorem bX {ns:List Int} {k:Int} (h0 : 0 ≤ k) (h1:k < ns.length):atI (ns.map D.int) k = some (.int (ns.getD k.toNat 0)):=by
  have ek:k = ((k.toNat:Nat):Int):=by omega
  have hl:k.toNat < ns.length:=by omega
  have:atI (ns.map D.int) ((k.toNat:Nat):Int) = some (.int (ns.getD k.toNat 0)):=fe (by rw [List.getElem?_map,List.getD_eq_getElem?_getD,List.getElem?_eq_getElem hl]; rfl)
  rw [← ek] at this
  exact this
theorem vV {ns:List Int} {k:Int} (h0 : 0 ≤ k) (h1:k < ns.length):atI ns k = some (ns.getD k.toNat 0):=by
  have ek:k = ((k.toNat:Nat):Int):=by omega
  have hl:k.toNat < ns.length:=by omega
  have:atI ns ((k.toNat:Nat):Int) = some (ns.getD k.toNat 0):=fe (by rw [List.getD_eq_getElem?_getD,List.getElem?_eq_getElem hl]; rfl)
  rw [← ek] at this
  exact this
theorem bg {ds:List D} {k:Int} {d:D} {q:D → Prop} (h:atI ds k = some d) (hq:q d):atD ds k q:=by unfold atD; rw [h]; exact hq
theorem eU {ns:List Int} {i:Nat} {d:D} (h:(ns.map D.int)[i]? = some d):∃ z,ns[i]? = some z ∧ d = .int z:=by
  rw [List.getElem?_map] at h
  cases e:ns[i]? with
  | none => rw [e] at h; cases h
  | some z => rw [e] at h; exact ⟨z,rfl,(Option.some.inj h).symm⟩
theorem d5 {lo hi z:Int} (h1:lo ≤ z) (h2:z ≤ hi):btw lo hi (.int z) = true:=by show (decide (lo ≤ z) && decide (z ≤ hi)) = true; rw [decide_eq_true h1,decide_eq_true h2]; rfl
abbrev d8 (ps:List Int) (k:Int):Int:=ps.getD (k - 1).toNat 0
theorem Tree.up {ps rs:List Int} (hT:Tree ps rs) {k:Int} (h0 : 0 < k) (h1:k ≤ ps.length) : 0 ≤ d8 ps k ∧ d8 ps k < k:=by
  have hl:(k - 1).toNat < ps.length:=by omega
  have e:ps[(k - 1).toNat]? = some (d8 ps k):=by unfold d8; rw [List.getD_eq_getElem?_getD,List.getElem?_eq_getElem hl]; rfl
  have:=hT.par _ _ e
  omega
inductive Up (ps:List Int):Int → List Int → Prop
  | zero:Up ps 0 [0]
  | step {k:Int} {u:List Int} (h : 0 < k):Up ps (d8 ps k) u → Up ps k (k :: u)
theorem Up.det {ps:List Int} {k:Int} {u:List Int} (h:Up ps k u):∀ {v:List Int},Up ps k v → u = v:=by
  induction h with
  | zero => intro v h; cases h with | zero => rfl | step h0 _ => omega
  | step h0 _ ih => intro v h; cases h with | zero => omega | step _ h => rw [ih h]
theorem Up.all {ps rs:List Int} (hT:Tree ps rs):∀ (n:Nat) (k:Int),k.toNat = n → 0 ≤ k → k ≤ ps.length → ∃ u,Up ps k u
  | n,k,hn,h0,h1 => by
    by_cases hk:k = 0
    · subst hk; exact ⟨_,.zero⟩
    · have hp:=hT.up (k:=k) (by omega) h1
      obtain ⟨u,hu⟩:=Up.all hT (d8 ps k).toNat (d8 ps k) rfl hp.1 (by omega)
      exact ⟨_,.step (by omega) hu⟩
termination_by n k hn => n
decreasing_by omega
theorem Up.le {ps rs:List Int} (hT:Tree ps rs) {k:Int} {u:List Int} (h:Up ps k u):k ≤ ps.length → ∀ x ∈ u,0 ≤ x ∧ x ≤ k:=by
  induction h with
  | zero => intro _ x hx; simp at hx; omega
  | step h0 _ ih =>
    intro h1 x hx
    have hp:=hT.up h0 h1
    rcases List.mem_cons.mp hx with rfl | hx
    · omega
    · have:=ih (by omega) x hx; omega
theorem Up.dec {ps rs:List Int} (hT:Tree ps rs) {k:Int} {u:List Int} (h:Up ps k u):k ≤ ps.length → u.Pairwise (· > ·):=by
  induction h with
  | zero => intro _; simp
  | step h0 hu ih =>
    intro h1
    have hp:=hT.up h0 h1
    refine List.pairwise_cons.mpr ⟨fun x hx => ?_,ih (by omega)⟩
    have:=hu.le hT (by omega) x hx
    omega
theorem Up.len {ps rs:List Int} (hT:Tree ps rs) {k:Int} {u:List Int} (h:Up ps k u):k ≤ ps.length → (u.length:Int) ≤ k + 1:=by
  induction h with
  | zero => intro _; simp
  | step h0 hu ih => intro h1; have hp:=hT.up h0 h1; have:=ih (by omega); simp; omega
theorem Up.head {ps:List Int} {k:Int} {u:List Int} (h:Up ps k u):k ∈ u:=by cases h <;> simp
inductive Climb (ps:List Int):Int → Int → List Int → Int → Prop
  | same (a:Int):Climb ps a a [] a
  | left {a b:Int} {w:List Int} {m:Int} (h:b < a):Climb ps b (d8 ps a) w m → Climb ps a b (a :: w) m
  | right {a b:Int} {w:List Int} {m:Int} (h:a < b):Climb ps a (d8 ps b) w m → Climb ps a b (b :: w) m
theorem Climb.meet {ps rs:List Int} (hT:Tree ps rs) {a b m:Int} {w:List Int} (h:Climb ps a b w m) : 0 ≤ a → 0 ≤ b → a ≤ ps.length → b ≤ ps.length → ∀ {ua ub:List Int},Up ps a ua → Up ps b ub → m ∈ ua ∧ m ∈ ub ∧ ∀ x ∈ ua,x ∈ ub → x ≤ m:=by
  induction h with
  | same a => intro a0 _ a1 _ ua ub ha hb; have:=ha.det hb; subst this; exact ⟨ha.head,ha.head,fun x hx _ => (ha.le hT a1 x hx).2⟩
  | left hlt hc ih =>
    intro a0 b0 a1 b1 ua ub ha hb
    cases ha with
    | zero => omega
    | step h0 hu =>
      have hp:=hT.up h0 a1
      obtain ⟨m1,m2,m3⟩:=ih b0 hp.1 b1 (by omega) hb hu
      refine ⟨List.mem_cons_of_mem _ m2,m1,fun x hx hxb => ?_⟩
      rcases List.mem_cons.mp hx with rfl | hx
      · have:=(hb.le hT b1 _ hxb).2; omega
      · exact m3 x hxb hx
  | right hlt hc ih =>
    intro a0 b0 a1 b1 ua ub ha hb
    cases hb with
    | zero => omega
    | step h0 hu =>
      have hp:=hT.up h0 b1
      obtain ⟨m1,m2,m3⟩:=ih a0 hp.1 a1 (by omega) ha hu
      refine ⟨m1,List.mem_cons_of_mem _ m2,fun x hx hxb => ?_⟩
      rcases List.mem_cons.mp hxb with rfl | hxb
      · have:=(ha.le hT a1 _ hx).2; omega
      · exact m3 x hx hxb
theorem Climb.low {ps rs:List Int} (hT:Tree ps rs) {a b m:Int} {w:List Int} (h:Climb ps a b w m) : 0 ≤ a → 0 ≤ b → a ≤ ps.length → b ≤ ps.length → 0 ≤ m ∧ m ≤ a ∧ m ≤ b:=by
  induction h with
  | same a => intro a0 _ _ _; omega
  | left hlt hc ih => intro a0 b0 a1 b1; have hp:=hT.up (show 0 < _ by omega) a1; have:=ih b0 hp.1 b1 (by omega); omega
  | right hlt hc ih => intro a0 b0 a1 b1; have hp:=hT.up (show 0 < _ by omega) b1; have:=ih a0 hp.1 a1 (by omega); omega
theorem Climb.perm {ps rs:List Int} (hT:Tree ps rs) {a b m:Int} {w:List Int} (h:Climb ps a b w m) : 0 ≤ a → 0 ≤ b → a ≤ ps.length → b ≤ ps.length → ∀ {ua ub um:List Int},Up ps a ua → Up ps b ub → Up ps m um → w.Perm ((ua ++ ub).filter fun x => !um.contains x):=by
  induction h with
  | same a =>
    intro a0 _ a1 _ ua ub um ha hb hm
    have:=ha.det hb; subst this
    have:=ha.det hm; subst this
    have:(ua ++ ua).filter (fun x => !ua.contains x) = []:=by
      rw [List.filter_eq_nil_iff]; intro x hx; simp at hx; simp [hx]
    rw [this]
  | @left a b w m hlt hc ih =>
    intro a0 b0 a1 b1 ua ub um ha hb hm
    cases ha with
    | zero => omega
    | step h0 hu =>
      have hp:=hT.up h0 a1
      have hl:=hc.low hT b0 hp.1 b1 (by omega)
      have ih':=ih b0 hp.1 b1 (by omega) hb hu hm
      have hn : ¬ um.contains a = true:=fun z => by
        have:=(hm.le hT (by omega) _ (List.contains_iff_mem.mp z)).2
        omega
      rw [List.cons_append,List.filter_cons_of_pos (by simpa using hn)]
      refine List.Perm.cons _ (ih'.trans ?_)
      exact List.Perm.filter _ List.perm_append_comm
  | @right a b w m hlt hc ih =>
    intro a0 b0 a1 b1 ua ub um ha hb hm
    cases hb with
    | zero => omega
    | step h0 hu =>
      have hp:=hT.up h0 b1
      have hl:=hc.low hT a0 hp.1 a1 (by omega)
      have ih':=ih a0 hp.1 a1 (by omega) ha hu hm
      have hn : ¬ um.contains b = true:=fun z => by
        have:=(hm.le hT (by omega) _ (List.contains_iff_mem.mp z)).2
        omega
      refine (List.Perm.cons _ ih').trans ?_
      refine List.Perm.trans ?_ (List.Perm.filter _ (List.perm_middle (l₁:=_)).symm)
      rw [List.filter_cons_of_pos (by simpa using hn)]
theorem Climb.mem {ps rs:List Int} (hT:Tree ps rs) {a b m:Int} {w:List Int} (h:Climb ps a b w m) : 0 ≤ a → 0 ≤ b → a ≤ ps.length → b ≤ ps.length → ∀ x ∈ w,0 < x ∧ x ≤ ps.length:=by
  induction h with
  | same a => intro _ _ _ _ x hx; cases hx
  | left hlt hc ih =>
    intro a0 b0 a1 b1 x hx
    have hp:=hT.up (show 0 < _ by omega) a1
    rcases List.mem_cons.mp hx with rfl | hx
    · omega
    · exact ih b0 hp.1 b1 (by omega) x hx
  | right hlt hc ih =>
    intro a0 b0 a1 b1 x hx
    have hp:=hT.up (show 0 < _ by omega) b1
    rcases List.mem_cons.mp hx with rfl | hx
    · omega
    · exact ih a0 hp.1 a1 (by omega) x hx
theorem Climb.len {ps rs:List Int} (hT:Tree ps rs) {a b m:Int} {w:List Int} (h:Climb ps a b w m) : 0 ≤ a → 0 ≤ b → a ≤ ps.length → b ≤ ps.length → (w.length:Int) ≤ a + b:=by
  induction h with
  | same a => intro _ _ _ _; simp; omega
  | left hlt hc ih => intro a0 b0 a1 b1; have hp:=hT.up (show 0 < _ by omega) a1; have:=ih b0 hp.1 b1 (by omega); simp; omega
  | right hlt hc ih => intro a0 b0 a1 b1; have hp:=hT.up (show 0 < _ by omega) b1; have:=ih a0 hp.1 a1 (by omega); simp; omega
theorem Climb.det {ps:List Int} {a b m:Int} {w:List Int} (h:Climb ps a b w m):∀ {m':Int} {w':List Int},Climb ps a b w' m' → w = w' ∧ m = m':=by
  induction h with
  | same a => intro m' w' h; cases h with | same => exact ⟨rfl,rfl⟩ | left h _ => omega | right h _ => omega
  | left hlt hc ih => intro m' w' h; cases h with | same => omega | left _ h => have:=ih h; exact ⟨by rw [this.1],this.2⟩ | right h _ => omega
  | right hlt hc ih => intro m' w' h; cases h with | same => omega | right _ h => have:=ih h; exact ⟨by rw [this.1],this.2⟩ | left h _ => omega
structure Ends2 (ps:List Int) (a b:Int):Prop where
  a0 : 0 ≤ a
  a1:a ≤ ps.length
  b0 : 0 ≤ b
  b1:b ≤ ps.length
  ne:a ≠ b
def t4:SpD:=fun ds q => ∃ ps rs d,ds = [aN ps rs,d] ∧ d.isS = false ∧ q (.bl (btw 0 ps.length d)) []
def wn:SpD:=fun ds q => ∃ ps rs a b,ds = [aN ps rs,.int a,.int b] ∧ Ends2 ps a b ∧ q (.bl true) []
def mQ:SpD:=fun ds q => ∃ ps rs a b,ds = [aN ps rs,.int a,.int b] ∧ Tree ps rs ∧ Ends2 ps a b ∧ q .non []
def sU:SpD:=fun ds q => ∃ ps rs a b,ds = [aN ps rs,.int a,.int b] ∧ Tree ps rs ∧ 0 ≤ a ∧ a ≤ ps.length ∧ 0 ≤ b ∧ b ≤ ps.length ∧ ∀ w m,Climb ps a b w m → q (.tup [ap (bO w),.int m]) []
def sdWay:SpD:=fun ds q => ∃ ps rs a b,ds = [aN ps rs,.int a,.int b] ∧ Tree ps rs ∧ Ends2 ps a b ∧ ∀ w m,Climb ps a b w m → q (ap (bO w)) []
theorem dR (ps:List Int) (y:Int):D.lst (ps.map D.int ++ [D.int y]) = ap (ps ++ [y]):=by unfold ap; rw [List.map_append]; rfl
theorem aJ (ps:List Int):(ps.map D.int).length = ps.length:=List.length_map _
theorem nK {P:Nat → Int → Prop} {ps:List Int} {y:Int} (h:∀ (j:Nat) (x:Int),ps[j]? = some x → P j x) (hy:P ps.length y):∀ (j:Nat) (x:Int),(ps ++ [y])[j]? = some x → P j x:=by
  intro j x hj
  by_cases hjl:j < ps.length
  · rw [List.getElem?_append_left hjl] at hj; exact h j x hj
  · rw [List.getElem?_append_right (by omega)] at hj
    cases e:j - ps.length with
    | zero => rw [e] at hj; have:y = x:=by simpa using hj
              subst this; rw [show j = ps.length by omega]; exact hy
    | succ q => rw [e] at hj; simp at hj
def filD (p:Int → Bool):D → Option D
  | .int x => if p x = true then some (.int x) else none
  | _ => none
theorem gf {p:Int → Bool}:∀ (ns:List Int),(ns.map D.int).filterMap (filD p) = (ns.filter p).map D.int
  | [] => rfl
  | n :: r => by
    have ih:=gf (p:=p) r
    have e0:filD p (.int n) = if p n = true then some (.int n) else none:=rfl
    cases e:p n with
    | true => rw [e,if_pos rfl] at e0; rw [List.map_cons,List.filterMap_cons,e0,List.filter_cons_of_pos e,List.map_cons,← ih]
    | false => rw [e,if_neg (by decide)] at e0; rw [List.map_cons,List.filterMap_cons,e0,List.filter_cons_of_neg (by rw [e]; decide),← ih]
theorem dU (ns:List Int):(ns.map D.int).all dF = true:=by
  induction ns with
  | nil => rfl
  | cons n r ih => rw [List.map_cons,List.all_cons,ih]; rfl
theorem eG (x:Int) (ns:List Int):inD (.int x) (ns.map D.int) = ns.contains x:=by
  unfold inD
  induction ns with
  | nil => rfl
  | cons n r ih =>
    rw [List.map_cons,List.any_cons,ih,List.contains_cons]
    show ((n == x) || _) = _
    rw [Bool.beq_comm]
theorem ck {ns:List Int} {d:D} (h:d ∈ ns.map D.int):∃ x ∈ ns,d = .int x:=by
  obtain ⟨x,h1,h2⟩:=List.mem_map.mp h
  exact ⟨x,h1,h2.symm⟩
theorem gP (ns:List Int):okD (ap ns) = true:=lm ns
theorem eqDi (ns ms:List Int):eqD (ap ns) (ap ms) = decide (ns = ms):=rB ns ms
def lay:Nat → D → Bool
  | _,.int _ => true
  | _,.bl _ => true
  | _,.non => true
  | n + 1,.tup ds => ds.all (lay n)
  | n + 1,.lst ds => ds.all (lay n)
  | _,_ => false
theorem ke {n:Nat} (ih:∀ d,lay n d = true → (toP d).canLay0 = true ∧ (toP d).depth ≤ n + 1):∀ ds:List D,ds.all (lay n) = true → PyData.canLayAll0 (toPs ds) = true ∧ PyData.depthAll (toPs ds) ≤ n + 1
  | [],_ => by rw [toPs]; simp [PyData.canLayAll0,PyData.depthAll]
  | d :: ds,h => by
    rw [List.all_cons,Bool.and_eq_true] at h
    have h1:=ih d h.1
    have h2:=ke ih ds h.2
    rw [toPs]
    simp only [PyData.canLayAll0,PyData.depthAll,h1.1,h2.1,Bool.and_self,true_and]
    omega
theorem m8:∀ (n:Nat) (d:D),lay n d = true → (toP d).canLay0 = true ∧ (toP d).depth ≤ n + 1
  | n,.int _,_ => by rw [toP]; simp [PyData.canLay0,PyData.depth]
  | n,.bl _,_ => by rw [toP]; simp [PyData.canLay0,PyData.depth]
  | n,.non,_ => by rw [toP]; simp [PyData.canLay0,PyData.depth]
  | n + 1,.tup ds,h => by
    have:=ke (m8 n) ds (by simpa [lay] using h)
    rw [toP]; simp only [PyData.canLay0,PyData.depth,this.1,true_and]; omega
  | n + 1,.lst ds,h => by
    have:=ke (m8 n) ds (by simpa [lay] using h)
    rw [toP]; simp only [PyData.canLay0,PyData.depth,this.1,true_and]; omega
  | 0,.tup _,h => by simp [lay] at h
  | 0,.lst _,h => by simp [lay] at h
  | n,.str _,h => by cases n <;> simp [lay] at h
  | n,.dct,h => by cases n <;> simp [lay] at h
  | n,.dic _ _,h => by cases n <;> simp [lay] at h
  | n,.scr _ _,h => by cases n <;> simp [lay] at h
  | n,.ext _,h => by cases n <;> simp [lay] at h
theorem nA {n:Nat} {d:D} (h:lay n d = true) (hn:n ≤ 60):okD d = true:=by
  have:=m8 n d h
  unfold okD SeqAt.shaped
  rw [this.1,Bool.true_and]
  exact decide_eq_true (by omega)
theorem kC {n:Nat} (ih:∀ d,lay n d = true → PyData.eqv (toP d) (toP d) = true):∀ ds:List D,ds.all (lay n) = true → PyData.eqvAll (toPs ds) (toPs ds) = true
  | [],_ => by rw [toPs]; simp [PyData.eqvAll]
  | d :: ds,h => by
    rw [List.all_cons,Bool.and_eq_true] at h
    rw [toPs,PyData.eqvAll,ih d h.1,kC ih ds h.2]; rfl
theorem fK:∀ (n:Nat) (d:D),lay n d = true → eqD d d = true
  | n,.int _,_ => by unfold eqD; rw [toP,PyData.eqv]; simp
  | n,.bl _,_ => by unfold eqD; rw [toP,PyData.eqv]; simp
  | n,.non,_ => by unfold eqD; rw [toP,PyData.eqv]
  | n + 1,.tup ds,h => by unfold eqD; rw [toP,PyData.eqv]; exact kC (fK n) ds (by simpa [lay] using h)
  | n + 1,.lst ds,h => by unfold eqD; rw [toP,PyData.eqv]; exact kC (fK n) ds (by simpa [lay] using h)
  | 0,.tup _,h => by simp [lay] at h
  | 0,.lst _,h => by simp [lay] at h
  | n,.str _,h => by cases n <;> simp [lay] at h
  | n,.dct,h => by cases n <;> simp [lay] at h
  | n,.dic _ _,h => by cases n <;> simp [lay] at h
  | n,.scr _ _,h => by cases n <;> simp [lay] at h
  | n,.ext _,h => by cases n <;> simp [lay] at h
theorem pD (n:Nat) (ns:List Int):(ns.map D.int).all (lay n) = true:=by
  rw [List.all_eq_true]; intro d hd; obtain ⟨x,_,rfl⟩:=ck hd; cases n <;> rfl
structure Ask where
  one:Int
  other:Int
  size:Int
  worth:Int
def bY (a:Ask):D:=.tup [.int a.one,.int a.other,.int a.size,.int a.worth]
def aT (as:List Ask):D:=.lst (as.map bY)
structure AskOk (ps:List Int) (a:Ask):Prop where
  ends:Ends2 ps a.one a.other
  s0 : 1 ≤ a.size
  s1:a.size ≤ 1000000
  w0 : 1 ≤ a.worth
  w1:a.worth ≤ 1000000000000
structure AsksOk (ps:List Int) (as:List Ask):Prop where
  len:as.length ≤ 30
  ok:∀ a ∈ as,AskOk ps a
theorem ou (n:Nat) (as:List Ask):lay (n + 2) (aT as) = true:=by
  unfold aT; rw [lay,List.all_eq_true]; intro d hd
  obtain ⟨a,_,rfl⟩:=List.mem_map.mp hd
  rw [bY,lay]
  exact pD n [a.one,a.other,a.size,a.worth]
theorem kg {as:List Ask} {i:Nat} {d:D} (h:(as.map bY)[i]? = some d):∃ a,as[i]? = some a ∧ d = bY a:=by
  rw [List.getElem?_map] at h
  cases e:as[i]? with
  | none => rw [e] at h; cases h
  | some z => rw [e] at h; exact ⟨z,rfl,(Option.some.inj h).symm⟩
def cw:Ask:=⟨0,0,0,0⟩
theorem dO {as:List Ask} {k:Int} (h0 : 0 ≤ k) (h1:k < as.length):atI (as.map bY) k = some (bY (as.getD k.toNat cw)):=by
  have ek:k = ((k.toNat:Nat):Int):=by omega
  have hl:k.toNat < as.length:=by omega
  have:atI (as.map bY) ((k.toNat:Nat):Int) = some (bY (as.getD k.toNat cw)):=fe (by rw [List.getElem?_map,List.getD_eq_getElem?_getD,List.getElem?_eq_getElem hl]; rfl)
  rw [← ek] at this
  exact this
theorem cj {as:List Ask} {k:Nat} (h:k < as.length):as.getD k cw ∈ as:=by rw [List.getD_eq_getElem?_getD,List.getElem?_eq_getElem h]; exact List.getElem_mem h
theorem bx (as:List Ask):(as.map bY).length = as.length:=List.length_map _
def tN:SpD:=fun ds q => ∃ ps rs a,ds = [aN ps rs,bY a] ∧ AskOk ps a ∧ q (.bl true) []
def mZ:SpD:=fun ds q => ∃ ps rs as,ds = [aN ps rs,aT as] ∧ Tree ps rs ∧ AsksOk ps as ∧ q .non []
def g_ (ps:List Int):Nat → Int → Int → List Int
  | 0,_,_ => []
  | f + 1,a,b => if b < a then a :: g_ ps f b (d8 ps a) else if a < b then b :: g_ ps f a (d8 ps b) else []
def iy (ps:List Int):Nat → Int → Int → Int
  | 0,a,_ => a
  | f + 1,a,b => if b < a then iy ps f b (d8 ps a) else if a < b then iy ps f a (d8 ps b) else a
theorem fV {ps rs:List Int} (hT:Tree ps rs):∀ (f:Nat) (a b:Int),(a + b).toNat ≤ f → 0 ≤ a → 0 ≤ b → a ≤ ps.length → b ≤ ps.length → Climb ps a b (g_ ps f a b) (iy ps f a b)
  | 0,a,b,hf,a0,b0,_,_ => by
    have:a = b:=by omega
    subst this
    exact .same a
  | f + 1,a,b,hf,a0,b0,a1,b1 => by
    unfold g_ iy
    by_cases h1:b < a
    · rw [if_pos h1,if_pos h1]
      have hp:=hT.up (show 0 < a by omega) a1
      exact .left h1 (fV hT f b _ (by omega) b0 hp.1 b1 (by omega))
    · rw [if_neg h1,if_neg h1]
      by_cases h2:a < b
      · rw [if_pos h2,if_pos h2]
        have hp:=hT.up (show 0 < b by omega) b1
        exact .right h2 (fV hT f a _ (by omega) a0 hp.1 a1 (by omega))
      · rw [if_neg h2,if_neg h2]
        have:a = b:=by omega
        subst this
        exact .same a
def gx (ps:List Int) (a b:Int):List Int:=bO (g_ ps 100 a b)
def gC (ps:List Int) (a b:Int):Int:=iy ps 100 a b
theorem Climb.way {ps rs:List Int} (hT:Tree ps rs) {a b m:Int} {w:List Int} (h:Climb ps a b w m) (a0 : 0 ≤ a) (b0 : 0 ≤ b) (a1:a ≤ ps.length) (b1:b ≤ ps.length):bO w = gx ps a b ∧ m = gC ps a b:=by
  have hi:=hT.hi
  have:=h.det (fV hT 100 a b (by omega) a0 b0 a1 b1)
  exact ⟨by rw [this.1]; rfl,this.2⟩
theorem fR {ps rs:List Int} (hT:Tree ps rs) {a b:Int} (a0 : 0 ≤ a) (b0 : 0 ≤ b) (a1:a ≤ ps.length) (b1:b ≤ ps.length):∃ w,Climb ps a b w (gC ps a b) ∧ gx ps a b = bO w:=by
  have hi:=hT.hi
  exact ⟨_,fV hT 100 a b (by omega) a0 b0 a1 b1,rfl⟩
theorem cb {ps rs:List Int} (hT:Tree ps rs) {a b:Int} (he:Ends2 ps a b) {x:Int} (hx:x ∈ gx ps a b) : 0 < x ∧ x ≤ ps.length:=by
  obtain ⟨w,hw,e⟩:=fR hT he.a0 he.b0 he.a1 he.b1
  rw [e] at hx
  exact hw.mem hT he.a0 he.b0 he.a1 he.b1 x ((bN w).mem_iff.mp hx)
def az (ps:List Int) (a:Ask):List Int:=gx ps a.one a.other
def sI:SpD:=fun ds q => ∃ ps rs a,ds = [aN ps rs,bY a] ∧ Tree ps rs ∧ Ends2 ps a.one a.other ∧ q (ap (az ps a)) []
structure KeepOk (n:Nat) (ks:List Int):Prop where
  up:ks.Pairwise (· < ·)
  lo:∀ k ∈ ks,0 ≤ k ∧ k < n
theorem KeepOk.len {n:Nat} {ks:List Int} (h:KeepOk n ks):ks.length ≤ n:=by
  have:∀ (l:List Int) (a:Int),l.Pairwise (· < ·) → (∀ k ∈ l,a ≤ k ∧ k < n) → 0 ≤ a → (l.length:Int) ≤ max 0 (n - a):=by
    intro l
    induction l with
    | nil => intro a _ _ _; simp; omega
    | cons x r ih =>
      intro a hp hb ha
      rw [List.pairwise_cons] at hp
      have hx:=hb x (.head _)
      have:=ih (x + 1) hp.2 (fun k hk => by have h1:=hp.1 k hk; have h2:=hb k (List.mem_cons_of_mem _ hk); omega) (by omega)
      simp; omega
  have:=this ks 0 h.up (fun k hk => h.lo k hk) (Int.le_refl 0)
  omega
def mJ:SpD:=fun ds q => ∃ ps rs as ks,ds = [aN ps rs,aT as,ap ks] ∧ Tree ps rs ∧ AsksOk ps as ∧ KeepOk as.length ks ∧ q .non []
def gF (s:Int) (l:List Int) (t:Int):List Int:=l.set (t - 1).toNat (l.getD (t - 1).toNat 0 + s)
def cF (l:List Int) (ts:List Int) (s:Int):List Int:=ts.foldl (gF s) l
theorem h8 (s:Int) (l:List Int) (t:Int):(gF s l t).length = l.length:=by unfold gF; simp
theorem dc (s:Int):∀ (ts l:List Int),(cF l ts s).length = l.length
  | [],l => rfl
  | t :: ts,l => by show (cF (gF s l t) ts s).length = _; rw [dc s ts,h8]
theorem pz (l ts:List Int) (t s:Int):cF l (ts ++ [t]) s = gF s (cF l ts s) t:=by unfold cF; rw [List.foldl_append]; rfl
def eJ (ps:List Int) (as:List Ask) (l:List Int) (k:Int):List Int:=cF l (az ps (as.getD k.toNat cw)) (as.getD k.toNat cw).size
def aZ (ps:List Int) (as:List Ask) (ks:List Int):List Int:=ks.foldl (eJ ps as) (List.replicate ps.length 0)
theorem bD (ps:List Int) (as:List Ask) (ks:List Int):(aZ ps as ks).length = ps.length:=by
  have:∀ (ks l:List Int),(ks.foldl (eJ ps as) l).length = l.length:=by
    intro ks
    induction ks with
    | nil => intro l; rfl
    | cons k r ih => intro l; rw [List.foldl_cons,ih]; unfold eJ; rw [dc]
  unfold aZ; rw [this]; simp
theorem eC (ps:List Int) (as:List Ask) (ks:List Int) (k:Int):aZ ps as (ks ++ [k]) = eJ ps as (aZ ps as ks) k:=by unfold aZ; rw [List.foldl_append]; rfl
def l3:SpD:=fun ds q => ∃ ps rs a l,ds = [aN ps rs,bY a,ap l] ∧ Tree ps rs ∧ Ends2 ps a.one a.other ∧ l.length = ps.length ∧ q (ap (cF l (az ps a) a.size)) []
def tY:SpD:=fun ds q => ∃ ps rs as ks,ds = [aN ps rs,aT as,ap ks] ∧ Tree ps rs ∧ AsksOk ps as ∧ KeepOk as.length ks ∧ q (ap (aZ ps as ks)) []
def ig (ld rs:List Int):List Int:=((List.range ld.length).filter fun k => decide (ld.getD k 0 > rs.getD k 0)).map fun (k:Nat) => (k:Int) + 1
def dY (ld rs:List Int):D:=match ig ld rs with
  | [] => .non
  | x :: _ => .int x
theorem iH {ld rs:List Int} {i:Nat} (hi:i < ld.length) (h:ld.getD i 0 > rs.getD i 0) (hj:∀ j:Nat,j < i → ¬ ld.getD j 0 > rs.getD j 0):∃ r,ig ld rs = ((i:Int) + 1) :: r:=by
  obtain ⟨m,hm⟩:∃ m,ld.length = i + (m + 1):=⟨ld.length - i - 1,by omega⟩
  unfold ig
  rw [hm,List.range_add,List.range_succ_eq_map,List.map_cons,List.filter_append,List.filter_eq_nil_iff.mpr (fun k hk => by simpa using hj k (List.mem_range.mp hk)),List.nil_append,Nat.add_zero,List.filter_cons_of_pos (by simpa using h)]
  exact ⟨_,rfl⟩
def tV:SpD:=fun ds q => ∃ ps rs as ks,ds = [aN ps rs,aT as,ap ks] ∧ Tree ps rs ∧ AsksOk ps as ∧ KeepOk as.length ks ∧ q (dY (aZ ps as ks) rs) []
def cx (as:List Ask) (ks:List Int):Int:=(ks.map fun k => (as.getD k.toNat cw).worth).sum
def tX:SpD:=fun ds q => ∃ ps rs as ks,ds = [aN ps rs,aT as,ap ks] ∧ Tree ps rs ∧ AsksOk ps as ∧ KeepOk as.length ks ∧ q (.int (cx as ks)) []
theorem gZ (n:Nat) (d:D):(List.replicate n [d]).flatten = List.replicate n d:=by
  induction n with
  | zero => rfl
  | succ n ih => rw [List.replicate_succ,List.flatten_cons,ih,List.replicate_succ]; rfl
theorem j6 (n:Nat) (x:Int):List.replicate n (D.int x) = (List.replicate n x).map D.int:=by rw [List.map_replicate]
theorem nG {n:Nat} {k:Int} (h0 : 0 ≤ k) (h1:k < n):ixN n k = some k.toNat:=by unfold ixN; rw [if_pos h0,if_pos h1]
theorem oR (l:List Int) (i:Nat) (x:Int):D.lst ((l.map D.int).set i (.int x)) = ap (l.set i x):=by unfold ap; rw [List.map_set]
theorem lY {ps:List Int} {a r:Int} (a0 : 0 ≤ a) (a1:a < 1 + (ps.length:Int)) (r0 : 0 ≤ r) (r1:r < ps.length):Ends2 ps a ((a + 1 + r) % (1 + (ps.length:Int))):=by
  refine ⟨a0,by omega,Int.emod_nonneg _ (by omega),?_,?_⟩
  · have:=Int.emod_lt_of_pos (a + 1 + r) (show 0 < 1 + (ps.length:Int) by omega); omega
  · intro he
    by_cases hlt:a + 1 + r < 1 + (ps.length:Int)
    · rw [Int.emod_eq_of_lt (by omega) hlt] at he; omega
    · have e:(a + 1 + r) % (1 + (ps.length:Int)) = a + 1 + r - (1 + (ps.length:Int)):=by
        rw [← Int.sub_emod_right,Int.emod_eq_of_lt (by omega) (by omega)]
      omega
theorem Climb.nodup {ps rs:List Int} (hT:Tree ps rs) {a b m:Int} {w:List Int} (h:Climb ps a b w m) : 0 ≤ a → 0 ≤ b → a ≤ ps.length → b ≤ ps.length → w.Nodup ∧ ∀ x ∈ w,x ≤ max a b:=by
  induction h with
  | same a => intro _ _ _ _; exact ⟨List.nodup_nil,fun x h => by cases h⟩
  | @left a b w m hlt hc ih =>
    intro a0 b0 a1 b1
    have hp:=hT.up (show 0 < a by omega) a1
    obtain ⟨h1,h2⟩:=ih b0 hp.1 b1 (by omega)
    refine ⟨List.nodup_cons.mpr ⟨fun z => by have:=h2 a z; omega,h1⟩,fun x hx => ?_⟩
    rcases List.mem_cons.mp hx with rfl | hx
    · omega
    · have:=h2 x hx; omega
  | @right a b w m hlt hc ih =>
    intro a0 b0 a1 b1
    have hp:=hT.up (show 0 < b by omega) b1
    obtain ⟨h1,h2⟩:=ih a0 hp.1 a1 (by omega)
    refine ⟨List.nodup_cons.mpr ⟨fun z => by have:=h2 b z; omega,h1⟩,fun x hx => ?_⟩
    rcases List.mem_cons.mp hx with rfl | hx
    · omega
    · have:=h2 x hx; omega
theorem i5 {ps rs:List Int} (hT:Tree ps rs) {a b:Int} (he:Ends2 ps a b):(gx ps a b).Nodup:=by
  obtain ⟨w,hw,e⟩:=fR hT he.a0 he.b0 he.a1 he.b1
  rw [e]
  exact (bN w).nodup_iff.mpr (hw.nodup hT he.a0 he.b0 he.a1 he.b1).1
def cnt (t:Int) (w:List Int) (s:Int):Int:=if w.contains t = true then s else 0
theorem sM {s:Int} {l:List Int} {t:Int} {j:Nat} (ht : 0 < t) (hl:t ≤ l.length):(gF s l t).getD j 0 = l.getD j 0 + if (j:Int) + 1 = t then s else 0:=by
  unfold gF
  simp only [List.getD_eq_getElem?_getD]
  rw [List.getElem?_set]
  by_cases h:(t - 1).toNat = j
  · rw [if_pos h,if_pos (by omega),if_pos (by omega),h]; rfl
  · rw [if_neg h,if_neg (by omega)]; simp
theorem fM {s:Int} {j:Nat}:∀ {w l:List Int},w.Nodup → (∀ x ∈ w,0 < x ∧ x ≤ l.length) → (cF l w s).getD j 0 = l.getD j 0 + cnt ((j:Int) + 1) w s
  | [],l,_,_ => by simp [cF,cnt]
  | t :: w,l,hn,hm => by
    rw [List.nodup_cons] at hn
    have ht:=hm t (.head _)
    show (cF (gF s l t) w s).getD j 0 = _
    rw [fM hn.2 (fun x hx => by rw [h8]; exact hm x (List.mem_cons_of_mem _ hx)),sM ht.1 ht.2]
    unfold cnt
    rw [List.contains_cons]
    by_cases e:(j:Int) + 1 = t
    · have:w.contains ((j:Int) + 1) = false:=by
        cases z:w.contains ((j:Int) + 1) with
        | false => rfl
        | true => rw [e] at z; exact absurd (List.contains_iff_mem.mp z) hn.1
      rw [if_pos e,this,if_neg (by decide),show ((j:Int) + 1 == t) = true by simpa using e]; simp
    · rw [if_neg e,show ((j:Int) + 1 == t) = false by simpa using e,Bool.false_or]; omega
def gD (ps:List Int) (as:List Ask) (t k:Int):Int:=cnt t (az ps (as.getD k.toNat cw)) (as.getD k.toNat cw).size
theorem lI {ps rs:List Int} {as:List Ask} (hT:Tree ps rs) (ha:AsksOk ps as) {j:Nat} (hj:j < ps.length):∀ (ks:List Int),(∀ k ∈ ks,0 ≤ k ∧ k < as.length) → (aZ ps as ks).getD j 0 = (ks.map (gD ps as ((j:Int) + 1))).sum:=by
  have main:∀ (ks l:List Int),l.length = ps.length → (∀ k ∈ ks,0 ≤ k ∧ k < as.length) → (ks.foldl (eJ ps as) l).getD j 0 = l.getD j 0 + (ks.map (gD ps as ((j:Int) + 1))).sum:=by
    intro ks
    induction ks with
    | nil => intro l _ _; simp
    | cons k r ih =>
      intro l hl hb
      have hk:=hb k (.head _)
      have hm:=cj (as:=as) (k:=k.toNat) (by omega)
      have he:=(ha.ok _ hm).ends
      rw [List.foldl_cons,ih _ (by unfold eJ; rw [dc]; exact hl) (fun x hx => hb x (List.mem_cons_of_mem _ hx)),List.map_cons,List.sum_cons]
      unfold eJ
      rw [fM (w:=az ps (as.getD k.toNat cw)) (i5 hT he) (fun x hx => by rw [hl]; exact cb hT he hx)]
      unfold gD
      omega
  intro ks hb
  unfold aZ
  rw [main ks _ (by simp) hb]
  simp only [List.getD_eq_getElem?_getD,List.getElem?_replicate,if_pos hj,Option.getD_some]
  omega
theorem qc {a b:List Int} (hl:a.length = b.length) (h:∀ j:Nat,j < a.length → a.getD j 0 = b.getD j 0):a = b:=by
  apply List.ext_getElem hl
  intro j h1 h2
  have:=h j h1
  simp only [List.getD_eq_getElem?_getD,List.getElem?_eq_getElem h1,List.getElem?_eq_getElem h2,Option.getD_some] at this
  exact this
theorem lM {ps rs:List Int} {as:List Ask} (hT:Tree ps rs) (ha:AsksOk ps as) {ks:List Int} (hb:∀ k ∈ ks,0 ≤ k ∧ k < as.length):aZ ps as ks = (List.range ps.length).map fun (j:Nat) => (ks.map (gD ps as ((j:Int) + 1))).sum:=by
  apply qc
  · rw [bD]; simp
  · intro j hj
    rw [bD] at hj
    rw [lI hT ha hj ks hb]
    simp [List.getD_eq_getElem?_getD,hj]
theorem rX {f:Int → Int}:∀ {l:List Int},(∀ x ∈ l,0 ≤ f x) → 0 ≤ (l.map f).sum
  | [],_ => by simp
  | x :: l,h => by
    have:=h x (.head _)
    have:=rX (f:=f) (l:=l) (fun y hy => h y (List.mem_cons_of_mem _ hy))
    simp only [List.map_cons,List.sum_cons]; omega
theorem qL {a b:List Int} (h:a.Perm b):a.sum = b.sum:=by
  induction h with
  | nil => rfl
  | cons x _ ih => simp [ih]
  | swap x y l => simp only [List.sum_cons]; omega
  | trans _ _ ih1 ih2 => exact ih1.trans ih2
theorem gX:∀ {ns:List Int} {us:List Value},aY (ns.map V.int) us → us.length = ns.length ∧ ∀ (i:Nat) (h:i < us.length),∃ t,us[i] = .int (ns.getD i 0) t
  | [],_,.nil => ⟨rfl,fun i h => absurd h (Nat.not_lt_zero _)⟩
  | k :: ns,_,.cons r t => by
    obtain ⟨h1,h2⟩:=gX (ns:=ns) t
    refine ⟨by rw [List.length_cons,List.length_cons,h1],fun i h => ?_⟩
    cases i with
    | zero => obtain ⟨z,rfl⟩:=r; exact ⟨z,rfl⟩
    | succ i => exact h2 i (Nat.lt_of_succ_lt_succ h)
section
variable {X:Cx}
end
section
variable {X:Cx} {M:Md} {e:Expr} {ma:ME} {pos:Pos}
end
section
variable {X:Cx}
variable {ow:List Bool} {e:Expr} {ma:ME}
end
section
variable {X:Cx}
variable {ow:List Bool} {e:Expr} {ma:ME} {pos p1 p2 p3:Pos}
end
end L2
namespace L2
open PySem
theorem Up.chain {ps rs:List Int} (hT:Tree ps rs) {b:Int} {u:List Int} (h:Up ps b u):b ≤ ps.length → ∀ {x y:Int},x ∈ u → y ∈ u → x ≤ y → ∃ uy,Up ps y uy ∧ x ∈ uy ∧ ∀ z ∈ uy,z ∈ u:=by
  induction h with
  | zero =>
    intro _ x y hx hy _
    have e:y = 0:=by simpa using hy
    subst e
    exact ⟨[0],.zero,hx,fun z hz => hz⟩
  | @step k u h0 hu ih =>
    intro h1 x y hx hy hxy
    have hp:=hT.up h0 h1
    have hle:=hu.le hT (by omega)
    rcases List.mem_cons.mp hy with hy' | hy'
    · subst hy'; exact ⟨_,.step h0 hu,hx,fun z hz => hz⟩
    · rcases List.mem_cons.mp hx with hx' | hx'
      · have:=(hle y hy').2; omega
      · obtain ⟨uy,g1,g2,g3⟩:=ih (by omega) hx' hy' hxy
        exact ⟨uy,g1,g2,fun z hz => .tail _ (g3 z hz)⟩
end L2
namespace L2
open PySem PySem.Spec PyProof.Rows
section
variable {prog:Program} {w:World} {A:Around} {E:Value → Shared → Prop} {s:Shared}
end
section
variable {X:Cx} {M:Md} {e:Expr} {es:List Expr} {mgs:MGs} {pos:Pos}
end
section
variable {X:Cx} {M:Md} {pos:Pos}
end
def Itz (a b:Addr):It :=
  ⟨fun i H => ∃ xs ys x y,H a = some (.lst xs) ∧ H b = some (.lst ys) ∧ xs[i]? = some x ∧ ys[i]? = some y,
   fun i H v H' => ∃ p x y,H p = none ∧ v = .ref p ∧ H' = upd H p (.tup [x,y]) ∧ (∀ xs,H a = some (.lst xs) → xs[i]? = some x) ∧ ∀ ys,H b = some (.lst ys) → ys[i]? = some y,
   fun i H => ∃ xs ys,H a = some (.lst xs) ∧ H b = some (.lst ys) ∧ (xs.length ≤ i ∨ ys.length ≤ i)⟩
theorem mem5 {c a1 a2 a3 a4 a5:Addr} (h:c ∈ [a1,a2,a3,a4,a5]):c = a1 ∨ c = a2 ∨ c = a3 ∨ c = a4 ∨ c = a5:=by simpa using h
theorem mem4 {c a1 a2 a3 a4:Addr} (h:c ∈ [a1,a2,a3,a4]):c = a1 ∨ c = a2 ∨ c = a3 ∨ c = a4:=by simpa using h
theorem iR {c a1 a2 a3 a4:Addr} (h:c ∉ [a1,a2,a3,a4]):c ≠ a1 ∧ c ≠ a2 ∧ c ≠ a3 ∧ c ≠ a4:=by simpa using h
theorem nd5 {z TI TO i1 i2:Addr} (h : [z,TI,TO,i1,i2].Nodup):(z ≠ TI ∧ z ≠ TO ∧ z ≠ i1 ∧ z ≠ i2) ∧ (TI ≠ TO ∧ TI ≠ i1 ∧ TI ≠ i2) ∧ (TO ≠ i1 ∧ TO ≠ i2) ∧ i1 ≠ i2:=by simpa using h
theorem gI {z TI TO i1 i2:Addr}:z ∈ [z,TI,TO,i1,i2] ∧ TI ∈ [z,TI,TO,i1,i2] ∧ TO ∈ [z,TI,TO,i1,i2] ∧ i1 ∈ [z,TI,TO,i1,i2] ∧ i2 ∈ [z,TI,TO,i1,i2]:=by simp
structure ZipSt (z TI TO i1 i2 a b:Addr) (i:Nat) (h:Heap):Prop where
  hz:IsZip h z TI TO .none
  ti:IsPair h TI (.ref i1) (.ref i2)
  to:∃ x y,IsPair h TO x y
  t1:h.IsListIter i1 a i
  t2:h.IsListIter i2 b i
theorem qG {P:Program} {w:World} {K:PySem.W.Frag} {es:List Expr} {k:Nat} {pos:Pos} (a b z TI TO i1 i2:Addr) (nd : [z,TI,TO,i1,i2].Nodup) :
    Turn P w K (.Tuple es k pos) (Itz a b) [z,TI,TO,i1,i2] z (ZipSt z TI TO i1 i2 a b) where
  mem:=gI.1
  obj:=fun i h st c hc => by
    obtain ⟨hz,ti,⟨x,y,to⟩,⟨o1,e1,c1,d1⟩,⟨o2,e2,c2,d2⟩⟩:=st
    rcases mem5 hc with rfl | rfl | rfl | rfl | rfl
    · exact ⟨_,hz,fun v q => by cases q⟩
    · exact ⟨_,ti,fun v q => by cases q⟩
    · exact ⟨_,to,fun v q => by cases q⟩
    · exact ⟨o1,e1,fun v q => by rw [d1] at q; cases q⟩
    · exact ⟨o2,e2,fun v q => by rw [d2] at q; cases q⟩
  keep:=fun i h h' st kp => by
    obtain ⟨m1,m2,m3,m4,m5⟩:=gI (z:=z) (TI:=TI) (TO:=TO) (i1:=i1) (i2:=i2)
    obtain ⟨x,y,q⟩:=st.to
    exact ⟨kp z m1 _ st.hz,kp TI m2 _ st.ti,⟨x,y,kp TO m3 _ q⟩,st.t1.at fun o q => kp i1 m4 o q,st.t2.at fun o q => kp i2 m5 o q⟩
  item:=by
    intro X hP hw hK hc i pins s σ H E I hf st hg
    subst hP hw hK
    obtain ⟨xs,ys,x,y,hq1,hq2,hx,hy⟩:=hg
    obtain ⟨hz,ti,⟨ox,oy,to⟩,t1,t2⟩:=st
    obtain ⟨its1,rv1,p1,hz1⟩:=I.list (SqL.of hq1)
    obtain ⟨its2,rv2,p2,hz2⟩:=I.list (SqL.of hq2)
    obtain ⟨u,hu,ru⟩:=rv1.get hx
    obtain ⟨v,hv,rv⟩:=rv2.get hy
    obtain ⟨m1,m2,m3,m4,m5⟩:=gI (z:=z) (TI:=TI) (TO:=TO) (i1:=i1) (i2:=i2)
    have fz:=hf z m1; have fO:=hf TO m3; have f1:=hf i1 m4; have f2:=hf i2 m5
    obtain ⟨⟨n1,n2,n3,n4⟩,⟨n5,n6,n7⟩,⟨n8,n9⟩,n10⟩:=nd5 nd
    have la:∀ {c:Addr},H c = none → a ≠ c:=fun h => av hq1 h
    have lb:∀ {c:Addr},H c = none → b ≠ c:=fun h => av hq2 h
    have AP:ZipApart z TI TO i1 i2 a b:=⟨Ne.symm n1,Ne.symm n2,Ne.symm n3,Ne.symm n4,n5,n6,n7,n8,n9,n10,la fz.1,la fO.1,la f1.1,la f2.1,lb fz.1,lb fO.1,lb f1.1,lb f2.1⟩
    refine wpAny_pyNext_zip_item AP hz ti to t1 t2 p1.isList p2.isList (x:=u) (y:=v) (by simpa using hu) (by simpa using hv) fun h' zo to' t1' t2' ht hsz hk => ?_
    refine ⟨.ref s.heap.objs.size,rfl,?_⟩
    refine wpAny_letOwnedTupleGo_zip zo fun h2 he2 hs2 => ?_
    have fr:H s.heap.objs.size = none:=I.hok.fresh (Nat.le_refl _)
    have ne2:∀ b,b < s.heap.objs.size → b ≠ s.heap.objs.size:=fun b hb => Nat.ne_of_lt hb
    have ee:z < s.heap.objs.size:=Heap.lt_size hz
    have k2:∀ c o,c ≠ z → c ≠ TO → c ≠ i1 → c ≠ i2 → s.heap.get? c = some o → h2.get? c = some o:=fun c o c1 c2 c3 c4 q => (hs2.2 c c1).trans (hk c o c1 c2 c3 c4 q)
    have ht2:h2.get? s.heap.objs.size = some { cls:=.type "tuple",data:=.seq #[u,v] }:=(hs2.2 _ (Nat.ne_of_gt ee)).trans ht
    have trk:∀ c o,H c = some o → c ≠ z ∧ c ≠ TO ∧ c ≠ i1 ∧ c ≠ i2:=fun c o q => ⟨av q fz.1,av q fO.1,av q f1.1,av q f2.1⟩
    have hok0:HOk X.prog X.w H h2:=fun c o q => (I.hok c o q).stay (fun d v' hc q' => by
      rcases hc with rfl | hc
      · obtain ⟨z1,z2,z3,z4⟩:=trk d _ q; exact k2 d v' z1 z2 z3 z4 q'
      · obtain ⟨z1,z2,z3,z4⟩:=trk d _ hc; exact k2 d v' z1 z2 z3 z4 q') (fun _ z => z) fun _ _ z => z
    have I1:Inv X pins σ (upd H s.heap.objs.size (.tup [x,y])) { s with heap:=h2,toks:=s.toks }:=by
      refine I.step (g':=s.gens) (d':=s.drawn) (ch:=[z,TO,i1,i2]) (fun c hc => ?_) (fun c o _ _ hc q _ => by obtain ⟨z1,z2,z3,z4⟩:=iR hc; exact k2 c o z1 z2 z3 z4 q) (fun c o _ _ hc q _ => by obtain ⟨z1,z2,z3,z4⟩:=iR hc; exact ⟨o.slots,k2 c o z1 z2 z3 z4 q⟩)
        (fun c o _ q n => by rw [ax (ne2 c (Heap.lt_size q))]; exact n) (fun c o hc q => by obtain ⟨z1,z2,z3,z4⟩:=iR hc; exact ⟨o,k2 c o z1 z2 z3 z4 q⟩) (fun c ys q => by rw [ax (av q fr)]; exact q) (fun c o v q => by rw [ax (av q fr)]; exact q)
        (fun c ps q => ⟨#[],by rw [ax (av q fr),q]; simp⟩) (fun m hm => ?_) ?_ I.bare
      · rcases mem4 hc with rfl | rfl | rfl | rfl
        · exact ⟨fz.2.2.2.1,fz.2.1,fz.2.2.2.2.1,fz.2.2.2.2.2⟩
        · exact ⟨fO.2.2.2.1,fO.2.1,fO.2.2.2.2.1,fO.2.2.2.2.2⟩
        · exact ⟨f1.2.2.2.1,f1.2.1,f1.2.2.2.2.1,f1.2.2.2.2.2⟩
        · exact ⟨f2.2.2.2.1,f2.2.1,f2.2.2.2.2.1,f2.2.2.2.2.2⟩
      · obtain ⟨o,es',ep,ho,r⟩:=hm
        exact ⟨o,es',ep,k2 _ o (Ne.symm fz.2.1) (Ne.symm fO.2.1) (Ne.symm f1.2.1) (Ne.symm f2.2.1) ho,r⟩
      · exact hok0.adopt fr ⟨by show 2 ≤ sizeLine; decide,[u,v],.cons ru (.cons rv .nil),⟨_,ht2,rfl,_,rfl⟩⟩
    have lt:∀ c ∈ [z,TI,TO,i1,i2],c < s.heap.objs.size:=fun c hc => by
      rcases mem5 hc with rfl | rfl | rfl | rfl | rfl
      · exact ee
      · exact Heap.lt_size ti
      · exact Heap.lt_size to
      · obtain ⟨o,q,_⟩:=t1; exact Heap.lt_size q
      · obtain ⟨o,q,_⟩:=t2; exact Heap.lt_size q
    refine ⟨.ref s.heap.objs.size,_,I1,rfl,⟨_,x,y,fr,rfl,rfl,fun ws hw => by rw [hq1] at hw; cases hw; exact hx,fun ws hw => by rw [hq2] at hw; cases hw; exact hy⟩,⟨he2,(hs2.2 _ (Ne.symm n1)).trans (hk TI _ (Ne.symm n1) n5 n6 n7 ti),⟨_,_,(hs2.2 _ (Ne.symm n2)).trans to'⟩,t1'.extBut hs2.extBut (Ne.symm n3),t2'.extBut hs2.extBut (Ne.symm n4)⟩,fun c hc => ?_⟩
    rw [ax (ne2 c (lt c hc))]
    exact (hf c hc).1
  done:=by
    intro X hP hw hK hc i pins s σ H E I hf st hg
    subst hP hw hK
    obtain ⟨xs,ys,hq1,hq2,hend⟩:=hg
    obtain ⟨hz,ti,⟨ox,oy,to⟩,t1,t2⟩:=st
    obtain ⟨its1,rv1,p1,hz1⟩:=I.list (SqL.of hq1)
    obtain ⟨its2,rv2,p2,hz2⟩:=I.list (SqL.of hq2)
    obtain ⟨m1,m2,m3,m4,m5⟩:=gI (z:=z) (TI:=TI) (TO:=TO) (i1:=i1) (i2:=i2)
    have fz:=hf z m1; have fO:=hf TO m3; have f1:=hf i1 m4; have f2:=hf i2 m5
    obtain ⟨⟨n1,n2,n3,n4⟩,⟨n5,n6,n7⟩,⟨n8,n9⟩,n10⟩:=nd5 nd
    have la:∀ {c:Addr},H c = none → a ≠ c:=fun h => av hq1 h
    have lb:∀ {c:Addr},H c = none → b ≠ c:=fun h => av hq2 h
    have AP:ZipApart z TI TO i1 i2 a b:=⟨Ne.symm n1,Ne.symm n2,Ne.symm n3,Ne.symm n4,n5,n6,n7,n8,n9,n10,la fz.1,la fO.1,la f1.1,la f2.1,lb fz.1,lb fO.1,lb f1.1,lb f2.1⟩
    have l1:=rv1.length
    have l2:=rv2.length
    refine wpAny_pyNext_zip_end (I.ok.hd hc) AP hz ti to t1 t2 p1.isList p2.isList (by rcases hend with h | h; exact .inl (by simp; omega); exact .inr (by simp; omega)) fun h' hk => ⟨rfl,?_⟩
    have trk:∀ c o,H c = some o → c ≠ z ∧ c ≠ TO ∧ c ≠ i1 ∧ c ≠ i2:=fun c o q => ⟨av q fz.1,av q fO.1,av q f1.1,av q f2.1⟩
    refine I.step (g':=s.gens) (d':=s.drawn) (t':=s.toks) (ch:=[z,TO,i1,i2]) (fun c hc => ?_) (fun c o _ _ hc q _ => by obtain ⟨z1,z2,z3,z4⟩:=iR hc; exact hk c o z1 z2 z3 z4 q) (fun c o _ _ hc q _ => by obtain ⟨z1,z2,z3,z4⟩:=iR hc; exact ⟨o.slots,hk c o z1 z2 z3 z4 q⟩)
      (fun _ _ _ _ n => n) (fun c o hc q => by obtain ⟨z1,z2,z3,z4⟩:=iR hc; exact ⟨o,hk c o z1 z2 z3 z4 q⟩) (fun _ _ e => e) (fun _ _ _ e => e) (fun c ps e => ⟨#[],by rw [e]; simp⟩) (fun m hm => ?_) (fun c o q => ?_) I.bare
    · rcases mem4 hc with rfl | rfl | rfl | rfl
      · exact ⟨fz.2.2.2.1,fz.2.1,fz.2.2.2.2.1,fz.2.2.2.2.2⟩
      · exact ⟨fO.2.2.2.1,fO.2.1,fO.2.2.2.2.1,fO.2.2.2.2.2⟩
      · exact ⟨f1.2.2.2.1,f1.2.1,f1.2.2.2.2.1,f1.2.2.2.2.2⟩
      · exact ⟨f2.2.2.2.1,f2.2.1,f2.2.2.2.2.1,f2.2.2.2.2.2⟩
    · obtain ⟨o,es',ep,ho,r⟩:=hm
      exact ⟨o,es',ep,hk _ o (Ne.symm fz.2.1) (Ne.symm fO.2.1) (Ne.symm f1.2.1) (Ne.symm f2.2.1) ho,r⟩
    · refine (I.hok c o q).stay (fun d v' hc q' => ?_) (fun _ z => z) fun _ _ z => z
      rcases hc with rfl | hc
      · obtain ⟨z1,z2,z3,z4⟩:=trk d _ q; exact hk d v' z1 z2 z3 z4 q'
      · obtain ⟨z1,z2,z3,z4⟩:=trk d _ hc; exact hk d v' z1 z2 z3 z4 q'
  self:=fun _ _ _ _ _ st h => wpAny_pyIter_zip st.hz h
section
variable {X:Cx} {es:List Expr} {k:Nat} {tpos:Pos}
def iZip (ta:TA):TI:=fun σ H R => ta σ H fun vs H1 => ∃ a b,vs = [.ref a,.ref b] ∧ (∃ xs,H1 a = some (.lst xs)) ∧ (∃ ys,H1 b = some (.lst ys)) ∧ R (Itz a b) H1
theorem u6 {l m:Expr} {ta:TA} {p pos:Pos} (hg:Gl X "zip") (hm:X.mg "zip" = none) (ha:PA X [l,m] ta) (hs:starEach [l,m] X.env = [(false,eval l X.env),(false,eval m X.env)]:=by rfl) (hs2:(backTo pos (starEach [m] X.env)).any (·.1) = false:=by rfl) (hs3:starEach [l,m] X.env = (false,eval l X.env) :: starEach [m] X.env:=by rfl):PI X (.Tuple es k tpos) (.Call (.Name "zip" p) [l,m] [] pos) (iZip ta):=by
  refine ⟨fun pins s σ H R I h => ?_⟩
  refine wpAny_Call_Name_kw (fq I hg hm vF ?_)
  refine PyProof.Rows.callWith_type1 (thn (ha pos pins s σ H _ I h) fun us s1 ⟨vs,H1,I1,r1,a,b,e,⟨xs,hx⟩,⟨ys,hy⟩,q⟩ => ?_) hs3 hs2
  subst e
  obtain ⟨u,v,rfl,ru,rv⟩:=lN r1
  cases ru; cases rv
  obtain ⟨its1,rv1,p1,_⟩:=I1.list (SqL.of hx)
  obtain ⟨its2,rv2,p2,_⟩:=I1.list (SqL.of hy)
  refine call_zip_2 p1.isList p2.isList fun h' hz ti to t1 t2 hsz hk => ?_
  have I2:Inv X pins σ H1 { s1 with heap:=h' }:=I1.kept (t':=s1.toks) hk
  have nd : [s1.heap.objs.size + 4,s1.heap.objs.size + 2,s1.heap.objs.size + 3,s1.heap.objs.size,s1.heap.objs.size + 1].Nodup:=by
    simp only [List.nodup_cons,List.mem_cons,List.not_mem_nil,or_false,not_or,not_false_eq_true,List.nodup_nil,and_true]
    refine ⟨⟨?_,?_,?_,?_⟩,⟨?_,?_,?_⟩,⟨?_,?_⟩,?_⟩ <;> omega
  refine wpAny_pyIter_zip hz ⟨s1.heap.objs.size + 4,_,_,Itz a b,H1,rfl,I2,qG a b _ _ _ _ _ nd,⟨hz,ti,⟨_,_,to⟩,t1,t2⟩,fun c hc => ?_,q⟩
  have hc':s1.heap.objs.size ≤ c:=by
    rcases mem5 hc with rfl | rfl | rfl | rfl | rfl
    · exact Nat.le_add_right _ 4
    · exact Nat.le_add_right _ 2
    · exact Nat.le_add_right _ 3
    · exact Nat.le_refl _
    · exact Nat.le_add_right _ 1
  exact I1.fpOk (H':=H1) hc' (I1.hok.fresh hc')
variable {ow:List Bool} {a b:Expr} {mr:MA} {pos:Pos}
def kP (ds es:List D):List D:=List.zipWith (fun a b => .tup [a,b]) ds es
theorem nH {ds es:List D} {i:Nat} {d:D} (h:(kP ds es)[i]? = some d):∃ x y,ds[i]? = some x ∧ es[i]? = some y ∧ d = .tup [x,y]:=by
  unfold kP at h
  rw [List.getElem?_zipWith] at h
  cases e1:ds[i]? with
  | none => rw [e1] at h; cases h
  | some x =>
    cases e2:es[i]? with
    | none => rw [e1,e2] at h; cases h
    | some y => rw [e1,e2] at h; exact ⟨x,y,rfl,rfl,(Option.some.inj h).symm⟩
theorem w9 {G:Hp} {p q:Addr} {xs ys:List V} {ds es:List D} (h1:G p = some (.lst xs)) (h2:Reps G ds xs) (h3:G q = some (.lst ys)) (h4:Reps G es ys):l8 (Itz p q) G (kP ds es):=fun C ow G' ρ σ H pd i z r => by
  have hp:=r.gh _ _ (z _ _ h1)
  have hq:=r.gh _ _ (z _ _ h3)
  refine ⟨fun hl => ⟨xs,ys,hp,hq,?_⟩,fun d e => ?_⟩
  · rw [h2.length,h4.length]
    unfold kP at hl
    rw [List.length_zipWith] at hl
    omega
  · obtain ⟨x,y,e1,e2,rfl⟩:=nH e
    obtain ⟨v,g1,g2⟩:=dS h2 e1
    obtain ⟨u,g3,g4⟩:=dS h4 e2
    refine ⟨⟨xs,ys,v,u,hp,hq,g1,g3⟩,fun w H' hy => ?_⟩
    obtain ⟨t,x',y',ht,rfl,rfl,hy1,hy2⟩:=hy
    have z1:=hy1 xs hp
    rw [g1] at z1; cases z1
    have z2:=hy2 ys hq
    rw [g3] at z2; cases z2
    obtain ⟨O,r⟩:=r
    obtain ⟨r2,s2⟩:=r.new ht (.tup [v,u])
    exact ⟨_,s2,⟨O,r2⟩,kN aW (bG (Rep.mono (z.trans s2) _ _ g2) (bG (Rep.mono (z.trans s2) _ _ g4) bS))⟩
def miZip (m:MA):MA:=fun ρ q => m ρ fun ds ρ' => match ds with
  | [.lst ds,.lst es] => q (kP ds es) ρ'
  | _ => False
theorem wN {p:Pos} (hg:Gl X "zip") (hm:X.mg "zip" = none) (ha:QA X ow [a,b] mr) (hs:starEach [a,b] X.env = [(false,eval a X.env),(false,eval b X.env)]:=by rfl) (hs2:(backTo pos (starEach [b] X.env)).any (·.1) = false:=by rfl) (hs3:starEach [a,b] X.env = (false,eval a X.env) :: starEach [b] X.env:=by rfl):QI X ow (.Tuple es k tpos) (.Call (.Name "zip" p) [a,b] [] pos) (miZip mr):=by
  obtain ⟨t,p,s⟩:=ha
  refine ⟨_,u6 hg hm p hs hs2 hs3,fun C G ρ σ H pd q Q r hm k => s C G ρ σ H pd _ _ r hm fun ds ρ' vs G' H' hq z kp r' p hn => ?_⟩
  split at hq
  · obtain ⟨v,u,rfl,p1,p2⟩:=dg p
    obtain ⟨a1,xs,rfl,h1,h2⟩:=bi p1
    obtain ⟨a2,ys,rfl,h3,h4⟩:=bi p2
    exact ⟨a1,a2,rfl,⟨xs,r'.gh _ _ h1⟩,⟨ys,r'.gh _ _ h3⟩,k _ ρ' G' H' _ hq z kp r' (w9 h1 h2 h3 h4)⟩
  · exact hq.elim
end
end L2
namespace L2
open PySem
def dQ (r:Rat):D:=.tup [.int r.num,.int r.den]
def dQs (rs:List Rat):D:=.lst (rs.map dQ)
theorem kI {t b:Int} (hb : 0 < b):ce t b = (b.gcd t:Int):=by
  unfold ce; rw [if_neg (by omega),Int.gcd_comm]
theorem kE {t b:Int} (hb : 0 < b):t / ce t b = (Rat.divInt t b).num:=by
  rw [Rat.num_divInt,Int.sign_eq_one_of_pos hb,Int.one_mul,kI hb]
theorem kQ {t b:Int} (hb : 0 < b):b / ce t b = ((Rat.divInt t b).den:Int):=by
  rw [Rat.den_divInt,if_neg (by omega),kI hb]
  have:(b.natAbs:Int) = b:=by omega
  rw [Int.natCast_ediv,this]
theorem bH (r:Rat):(0:Int) < r.den:=by have:=r.den_pos; omega
theorem cJ (r:Rat):Rat.divInt r.num r.den = r:=Rat.num_divInt_den r
structure Bt (r:Rat) (n:Nat):Prop where
  num:r.num.natAbs < 2 ^ n
  den:r.den < 2 ^ n
theorem cq {m n:Nat} (h:m ≤ n):(2:Nat) ^ m ≤ 2 ^ n:=Nat.pow_le_pow_right (by decide) h
theorem Bt.mono {r:Rat} {m n:Nat} (h:Bt r m) (hm:m ≤ n):Bt r n:=⟨Nat.lt_of_lt_of_le h.num (cq hm),Nat.lt_of_lt_of_le h.den (cq hm)⟩
theorem Bt.smN {r:Rat} {m:Nat} (h:Bt r m) (hm:m ≤ 8000):Sm r.num:=Nat.lt_of_lt_of_le h.num (cq hm)
theorem Bt.smD {r:Rat} {m:Nat} (h:Bt r m) (hm:m ≤ 8000):Sm (r.den:Int):=by
  show ((r.den:Int)).natAbs < _
  rw [Int.natAbs_natCast]; exact Nat.lt_of_lt_of_le h.den (cq hm)
theorem eE {a b:Int} (hb : 0 < b):(a / b).natAbs ≤ a.natAbs:=by
  have h1:=Int.ediv_mul_le a (show b ≠ 0 by omega)
  have h2:=Int.lt_ediv_add_one_mul_self a hb
  rcases Int.lt_or_le a 0 with h | h
  · have h3:a ≤ a / b:=by
      rcases Int.lt_or_le (a / b) a with z | z
      · exfalso
        have:(a / b + 1) * b ≤ (a / b + 1) * 1:=Int.mul_le_mul_of_nonpos_left (by omega) (by omega)
        omega
      · exact z
    have h4:a / b < 0:=Int.ediv_neg_of_neg_of_pos h hb
    omega
  · have:=Int.ediv_nonneg h (show 0 ≤ b by omega)
    have:=Int.ediv_le_self b h
    omega
theorem oJ {t b:Int} (hb : 0 < b):(Rat.divInt t b).num.natAbs ≤ t.natAbs ∧ (Rat.divInt t b).den ≤ b.natAbs:=by
  have g:=e7 (n:=t) hb
  constructor
  · rw [← kE hb]; exact eE g
  · have e:=kQ (t:=t) hb
    have:=eE (a:=b) g
    omega
theorem Bt.divInt {t b:Int} {n:Nat} (hb : 0 < b) (h1:t.natAbs < 2 ^ n) (h2:b.natAbs < 2 ^ n):Bt (Rat.divInt t b) n:=by
  have:=oJ (t:=t) hb
  exact ⟨by omega,by omega⟩
theorem vE (r s:Rat):r + s = Rat.divInt (r.num * s.den + s.num * r.den) (r.den * s.den):=by
  have h:=Rat.divInt_add_divInt r.num s.num (d₁:=r.den) (d₂:=s.den) (by have:=bH r; omega) (by have:=bH s; omega)
  rw [cJ,cJ] at h; exact h
theorem pT (r s:Rat):r - s = Rat.divInt (r.num * s.den - s.num * r.den) (r.den * s.den):=by
  have h:=Rat.divInt_sub_divInt r.num s.num (d₁:=r.den) (d₂:=s.den) (by have:=bH r; omega) (by have:=bH s; omega)
  rw [cJ,cJ] at h; exact h
theorem qX (r s:Rat):r * s = Rat.divInt (r.num * s.num) (r.den * s.den):=by
  have h:=Rat.divInt_mul_divInt r.num s.num (d₁:=r.den) (d₂:=s.den)
  rw [cJ,cJ] at h; exact h
theorem bL (a b:Int):(a * b).natAbs = a.natAbs * b.natAbs:=Int.natAbs_mul a b
theorem bj {a b m n:Nat} (h1:a < 2 ^ m) (h2:b < 2 ^ n):a * b < 2 ^ (m + n):=by
  rw [Nat.pow_add]
  exact Nat.mul_lt_mul_of_lt_of_le h1 (Nat.le_of_lt h2) (Nat.pow_pos (by decide))
theorem cQ (r s:Rat):(0:Int) < r.den * s.den:=Int.mul_pos (bH r) (bH s)
theorem Bt.add {r s:Rat} {m n:Nat} (h1:Bt r m) (h2:Bt s n):Bt (r + s) (m + n + 1):=by
  rw [vE]
  have e1:(r.num * s.den).natAbs < 2 ^ (m + n):=by rw [bL,Int.natAbs_natCast]; exact bj h1.num h2.den
  have e2:(s.num * r.den).natAbs < 2 ^ (m + n):=by rw [bL,Int.natAbs_natCast,Nat.mul_comm]; exact bj h1.den h2.num
  have e3:((r.den:Int) * s.den).natAbs < 2 ^ (m + n):=by rw [bL,Int.natAbs_natCast,Int.natAbs_natCast]; exact bj h1.den h2.den
  have e4:(2:Nat) ^ (m + n + 1) = 2 ^ (m + n) + 2 ^ (m + n):=by rw [Nat.pow_succ]; omega
  exact Bt.divInt (cQ r s) (Nat.lt_of_le_of_lt (Int.natAbs_add_le _ _) (by rw [e4]; exact Nat.add_lt_add e1 e2)) (Nat.lt_of_lt_of_le e3 (by rw [e4]; exact Nat.le_add_left _ _))
theorem Bt.sub {r s:Rat} {m n:Nat} (h1:Bt r m) (h2:Bt s n):Bt (r - s) (m + n + 1):=by
  rw [pT]
  have e1:(r.num * s.den).natAbs < 2 ^ (m + n):=by rw [bL,Int.natAbs_natCast]; exact bj h1.num h2.den
  have e2:(s.num * r.den).natAbs < 2 ^ (m + n):=by rw [bL,Int.natAbs_natCast,Nat.mul_comm]; exact bj h1.den h2.num
  have e3:((r.den:Int) * s.den).natAbs < 2 ^ (m + n):=by rw [bL,Int.natAbs_natCast,Int.natAbs_natCast]; exact bj h1.den h2.den
  have e4:(2:Nat) ^ (m + n + 1) = 2 ^ (m + n) + 2 ^ (m + n):=by rw [Nat.pow_succ]; omega
  exact Bt.divInt (cQ r s) (Nat.lt_of_le_of_lt (Int.natAbs_sub_le _ _) (by rw [e4]; exact Nat.add_lt_add e1 e2)) (Nat.lt_of_lt_of_le e3 (by rw [e4]; exact Nat.le_add_left _ _))
theorem Bt.mul {r s:Rat} {m n:Nat} (h1:Bt r m) (h2:Bt s n):Bt (r * s) (m + n):=by
  rw [qX]
  exact Bt.divInt (cQ r s) (by rw [bL]; exact bj h1.num h2.num) (by rw [bL,Int.natAbs_natCast,Int.natAbs_natCast]; exact bj h1.den h2.den)
theorem bt0 {n:Nat} (h : 0 < n):Bt 0 n:=⟨by show 0 < 2 ^ n; exact Nat.pow_pos (by decide),by show 1 < 2 ^ n; exact Nat.one_lt_two_pow (by omega)⟩
theorem bt1 {n:Nat} (h : 0 < n):Bt 1 n:=⟨by show 1 < 2 ^ n; exact Nat.one_lt_two_pow (by omega),by show 1 < 2 ^ n; exact Nat.one_lt_two_pow (by omega)⟩
theorem btI {i:Int} {n:Nat} (h:i.natAbs < 2 ^ n) (hn : 0 < n):Bt (i:Rat) n:=⟨by rw [Rat.num_intCast]; exact h,by rw [Rat.den_intCast]; exact Nat.one_lt_two_pow (by omega)⟩
theorem mL (i:Int):D.tup [.int i,.int 1] = dQ (i:Rat):=by unfold dQ; rw [Rat.num_intCast,Rat.den_intCast]; rfl
theorem Sm.of {i:Int} {n:Nat} (h:i.natAbs < 2 ^ n) (hn:n ≤ 8000):Sm i:=Nat.lt_of_lt_of_le h (cq hn)
def sdGcd:SpD:=fun ds q => ∃ n b,ds = [.int n,.int b] ∧ 0 ≤ b ∧ q (.int (ce n b)) []
def xa:SpD:=fun ds q => ∃ t b,ds = [.int t,.int b] ∧ b ≠ 0 ∧ Sm b ∧ q (dQ (Rat.divInt t b)) []
def sk:SpD:=fun ds q => ∃ r s,ds = [dQ r,dQ s] ∧ Bt r 3950 ∧ Bt s 3950 ∧ q (dQ (r - s)) []
def sD:SpD:=fun ds q => ∃ r s,ds = [dQ r,dQ s] ∧ Bt r 3950 ∧ Bt s 3950 ∧ q (dQ (r * s)) []
def t5:SpD:=fun ds q => ∃ r s,ds = [dQ r,dQ s] ∧ Bt r 3950 ∧ Bt s 3950 ∧ q (.bl (decide (r < s))) []
def aX (rs:List Rat):Nat:=(rs.map (·.den)).foldr (· * ·) 1
def wW:SpD:=fun ds q => ∃ (rs:List Rat) (M:Nat),ds = [dQs rs] ∧ rs.length ≤ 200 ∧ (∀ r ∈ rs,r.num.natAbs < 2 ^ 3900 ∧ r.den ∣ M) ∧ 0 < M ∧ M < 2 ^ 3900 ∧ q (dQ rs.sum) []
theorem oH:aX [] = 1:=rfl
theorem d_ (r:Rat) (rs:List Rat):aX (r :: rs) = r.den * aX rs:=rfl
theorem cu (rs:List Rat) : 0 < aX rs:=by
  induction rs with
  | nil => decide
  | cons r rs ih => rw [d_]; exact Nat.mul_pos r.den_pos ih
theorem jE {rs:List Rat} {r:Rat} (h:r ∈ rs):r.den ∣ aX rs:=by
  induction rs with
  | nil => cases h
  | cons x rs ih =>
    rw [d_]
    rcases List.mem_cons.mp h with rfl | h
    · exact Nat.dvd_mul_right _ _
    · exact Nat.dvd_trans (ih h) (Nat.dvd_mul_left _ _)
structure Com (rs:List Rat) (M:Nat) (B:Int):Prop where
  pos : 0 < B
  dv:∀ r ∈ rs,(r.den:Int) ∣ B
  dm:B ∣ (M:Int)
theorem Com.le {rs:List Rat} {M:Nat} {B:Int} (h:Com rs M B) (hM : 0 < M):B ≤ M:=Int.le_of_dvd (by omega) h.dm
theorem tq (M:Nat):Com [] M 1:=⟨by decide,(fun r h => by cases h),⟨M,by simp⟩⟩
theorem rC {rs:List Rat} {M:Nat} {B:Int} {r:Rat} (h:Com rs M B) (hr:r.den ∣ M):Com (rs ++ [r]) M (B / ce B r.den * r.den):=by
  have hd:=bH r
  have g:=e7 (n:=B) hd
  have g1:=sF (n:=B) hd
  have g2:=sC (n:=B) hd
  obtain ⟨n,rfl⟩:∃ n:Nat,B = n:=⟨B.toNat,by have:=h.pos; omega⟩
  have eg:ce (n:Int) r.den = (Nat.gcd n r.den:Int):=by
    unfold ce; rw [if_neg (by omega)]
    show ((Int.gcd (n:Int) r.den:Nat):Int) = _
    unfold Int.gcd; rw [Int.natAbs_natCast,Int.natAbs_natCast]
  have el:(n:Int) / ce n r.den * r.den = ((Nat.lcm n r.den:Nat):Int):=by
    rw [eg,← Int.natCast_ediv,← Int.natCast_mul]
    congr 1
    unfold Nat.lcm
    exact Nat.div_mul_right_comm (Nat.gcd_dvd_left n r.den) r.den
  rw [el]
  have hn : 0 < n:=by have:=h.pos; omega
  refine ⟨by have:=Nat.lcm_pos hn r.den_pos; omega,fun x hx => ?_,?_⟩
  · rcases List.mem_append.mp hx with hx | hx
    · exact Int.dvd_trans (h.dv x hx) (Int.natCast_dvd_natCast.mpr (Nat.dvd_lcm_left n r.den))
    · have:x = r:=by simpa using hx
      subst this; exact Int.natCast_dvd_natCast.mpr (Nat.dvd_lcm_right n x.den)
  · exact Int.natCast_dvd_natCast.mpr (Nat.lcm_dvd (Int.natCast_dvd_natCast.mp h.dm) hr)
def sumF (B:Int):D → D
  | .tup [.int n,.int d] => .int (n * (B / d))
  | d => d
theorem rf (B:Int) (rs:List Rat):(rs.map dQ).map (sumF B) = (rs.map fun r => r.num * (B / r.den)).map D.int:=by
  rw [List.map_map,List.map_map]; rfl
theorem h_ {B:Int} (hB : 0 < B):∀ {rs:List Rat},(∀ r ∈ rs,(r.den:Int) ∣ B) → Rat.divInt (rs.map fun r => r.num * (B / r.den)).sum B = rs.sum
  | [],_ => by rw [List.map_nil,List.sum_nil,List.sum_nil,Rat.zero_divInt]
  | r :: rs,h => by
    have ih:=h_ hB (rs:=rs) fun x hx => h x (.tail _ hx)
    rw [List.map_cons,List.sum_cons,List.sum_cons,← ih]
    obtain ⟨c,hc⟩:=h r (.head _)
    have hd:=bH r
    have e1:B / r.den = c:=by rw [hc]; exact Int.mul_ediv_cancel_left c (by omega)
    have cp:c ≠ 0:=fun z => by rw [z,Int.mul_zero] at hc; omega
    have e2:r = Rat.divInt (r.num * c) B:=by rw [hc,Rat.divInt_mul_right cp,cJ]
    rw [e1]
    conv => rhs; rw [e2]
    rw [Rat.divInt_add_divInt _ _ (by omega) (by omega)]
    have e3:r.num * c * B + (rs.map fun r => r.num * (B / r.den)).sum * B = (r.num * c + (rs.map fun r => r.num * (B / r.den)).sum) * B:=by rw [Int.add_mul]
    rw [e3,Rat.divInt_mul_right (by omega)]
theorem di {n:Nat}:∀ {ns:List Int},(∀ x ∈ ns,x.natAbs < n) → ns.sum.natAbs ≤ ns.length * n
  | [],_ => by simp
  | x :: ns,h => by
    have ih:=di (ns:=ns) fun y hy => h y (.tail _ hy)
    have:=h x (.head _)
    rw [List.sum_cons,List.length_cons,Nat.add_mul,Nat.one_mul,Nat.add_comm]
    exact Nat.le_trans (Int.natAbs_add_le _ _) (Nat.add_le_add (Nat.le_of_lt this) ih)
theorem r6 (r:Rat):lay 1 (dQ r) = true:=rfl
theorem gy (r:Rat):okD (dQ r) = true:=nA (r6 r) (by decide)
theorem tM {r s:Rat} (h1:r.num = s.num) (h2:r.den = s.den):r = s:=by
  rw [← cJ r,← cJ s,h1,h2]
theorem eqDq (r s:Rat):eqD (dQ r) (dQ s) = decide (r = s):=by
  unfold eqD dQ
  simp only [toP,toPs,PyData.eqv,PyData.eqvAll,Bool.and_true]
  by_cases h:r = s
  · subst h; simp
  · rw [decide_eq_false h]
    by_cases h1:r.num = s.num
    · have h2:r.den ≠ s.den:=fun z => h (tM h1 z)
      have h3 : ¬ (r.den:Int) = s.den:=fun z => h2 (by omega)
      simp [h1,h3]
    · simp [h1]
theorem oA (r:Rat):eqD (dQ r) (dQ r) = true:=fK 1 _ (r6 r)
theorem lK {n:Nat}:∀ {rs:List Rat},(∀ r ∈ rs,r.den ≤ n) → aX rs ≤ n ^ rs.length
  | [],_ => by rw [oH]; exact Nat.le_refl _
  | r :: rs,h => by
    rw [d_,List.length_cons,Nat.pow_succ,Nat.mul_comm]
    exact Nat.mul_le_mul (lK fun x hx => h x (.tail _ hx)) (h r (.head _))
theorem uF {n:Nat}:∀ {rs:List Rat},(∀ r ∈ rs,Bt r n) → Bt rs.sum ((n + 1) * rs.length + 1)
  | [],_ => by rw [List.sum_nil]; exact bt0 (by omega)
  | r :: rs,h => by
    rw [List.sum_cons,List.length_cons]
    exact ((h r (.head _)).add (uF fun x hx => h x (.tail _ hx))).mono (by rw [Nat.mul_add]; omega)
theorem kR {rs:List Rat} {i:Int} (h0 : 0 ≤ i) (h1:i < rs.length):atI (rs.map dQ) i = some (dQ (rs.getD i.toNat 0)):=by
  refine kA ?_
  unfold atI ixN
  rw [if_pos h0,if_pos h1]
  show rs[i.toNat]? = _
  rw [List.getD_eq_getElem?_getD,List.getElem?_eq_getElem (by omega)]; rfl
structure PricesOk (ps:List Int) (prs:List Rat):Prop where
  len:prs.length = ps.length
  pos:∀ r ∈ prs,0 ≤ r
  bt:∀ r ∈ prs,Bt r 64
def b3 (ps:List Int) (a:Ask) (prs:List Rat):Rat:=((az ps a).map fun t => prs.getD (t - 1).toNat 0).sum
def fu (r:Rat):Rat:=if 0 < r then r else 0
def a7 (ps:List Int) (a:Ask) (w:Int) (prs:List Rat):Rat:=fu ((a.worth:Rat) - (w:Rat) * b3 ps a prs)
def vy:SpD:=fun ds q => ∃ r,ds = [dQ r] ∧ q (.bl true) []
def wP:SpD:=fun ds q => ∃ r,ds = [dQ r] ∧ 0 ≤ r ∧ q (.bl true) []
def qk:SpD:=fun ds q => ∃ ps rs prs,ds = [aN ps rs,dQs prs] ∧ Tree ps rs ∧ PricesOk ps prs ∧ q .non []
def pH:SpD:=fun ds q => ∃ ps rs a w prs,ds = [aN ps rs,bY a,.int w,dQs prs] ∧ Tree ps rs ∧ AskOk ps a ∧ w.natAbs ≤ 1000000 ∧ PricesOk ps prs ∧ q (dQ (a7 ps a w prs)) []
def p7:SpD:=fun ds q => ∃ ps rs as prs,ds = [aN ps rs,aT as,dQs prs] ∧ Tree ps rs ∧ AsksOk ps as ∧ PricesOk ps prs ∧ q (dQs (as.map fun a => a7 ps a a.size prs)) []
theorem sE (r:Rat):ce r.num r.den = 1:=by
  rw [kI (bH r)]
  have:=r.reduced
  unfold Nat.Coprime at this
  rw [Int.gcd_comm]
  have e:Int.gcd r.num r.den = Nat.gcd r.num.natAbs r.den:=by unfold Int.gcd; rw [Int.natAbs_natCast]
  rw [e,this]; rfl
theorem vR {r:Rat} (h : 0 ≤ r) : 0 ≤ r.num:=Rat.num_nonneg.mpr h
def qo (prs:List Rat):D → D
  | .int t => dQ (prs.getD (t - 1).toNat 0)
  | d => d
theorem mm (prs:List Rat) (w:List Int):(w.map D.int).map (qo prs) = (w.map fun t => prs.getD (t - 1).toNat 0).map dQ:=by
  rw [List.map_map,List.map_map]; rfl
theorem jU {rs:List Rat} {k:Nat} (h:k < rs.length):rs.getD k 0 ∈ rs:=by
  rw [List.getD_eq_getElem?_getD,List.getElem?_eq_getElem h]; exact List.getElem_mem h
theorem cN {ps rs:List Int} (hT:Tree ps rs) {a b:Int} (he:Ends2 ps a b):(gx ps a b).length ≤ 46:=by
  obtain ⟨w,hw,e⟩:=fR hT he.a0 he.b0 he.a1 he.b1
  have h1:=hw.len hT he.a0 he.b0 he.a1 he.b1
  have h2:=hT.hi
  have h3:=he.a1; have h4:=he.b1
  rw [e]
  have:=(bN w).length_eq
  omega
theorem lQ {ps rs:List Int} {prs:List Rat} {a:Ask} (hT:Tree ps rs) (he:Ends2 ps a.one a.other) (hp:PricesOk ps prs):∀ r ∈ (az ps a).map (fun t => prs.getD (t - 1).toNat 0),r ∈ prs:=fun r hr => by
  obtain ⟨t,ht,rfl⟩:=List.mem_map.mp hr
  have:=cb hT he ht
  exact jU (by rw [hp.len]; omega)
theorem oh {ps rs:List Int} {prs:List Rat} {a:Ask} (hT:Tree ps rs) (he:Ends2 ps a.one a.other) (hp:PricesOk ps prs):Bt (b3 ps a prs) 3000:=by
  have h1:=uF (n:=64) fun r hr => hp.bt r (lQ hT he hp r hr)
  refine Bt.mono h1 ?_
  rw [List.length_map]
  have:=cN hT he
  unfold az
  omega
theorem ki {rs:List Rat} {n:Nat} (h:∀ r ∈ rs,Bt r n):aX rs ≤ 2 ^ (n * rs.length):=by
  have:=lK (n:=2 ^ n) (rs:=rs) fun r hr => Nat.le_of_lt (h r hr).den
  rw [← Nat.pow_mul] at this; exact this
theorem tm {r:Rat} {n:Nat} (h:Bt r n) (hn : 0 < n):Bt (fu r) n:=by
  unfold fu; split
  · exact h
  · exact bt0 hn
theorem lw {i:Int} {n:Nat} (m:Nat) (h:i.natAbs ≤ m) (hm:m < 2 ^ n) (hn : 0 < n):Bt (i:Rat) n:=btI (by omega) hn
def qF (ps:List Int) (prs:List Rat):D → D
  | .tup [.int o,.int p,.int s,.int w] => dQ (a7 ps ⟨o,p,s,w⟩ s prs)
  | d => d
theorem mq (ps:List Int) (prs:List Rat) (as:List Ask):(as.map bY).map (qF ps prs) = (as.map fun a => a7 ps a a.size prs).map dQ:=by
  rw [List.map_map,List.map_map]; rfl
theorem hE:∀ rs:List Rat,imms (rs.map dQ) = true
  | [] => rfl
  | r :: rs => by rw [List.map_cons,imms,hE rs]; rfl
theorem oE {xs:List D} {n:Nat} (h:n = xs.length):kO xs none (some (n:Int)) = xs:=by
  subst h
  unfold kO
  simp [HT.sIx]
  rw [if_neg (by omega),List.take_length]
def bu (prs:List Rat):List Int:=prs.map fun r => r.num * ((aX prs:Int) / r.den)
def cH (ps:List Int) (a:Ask) (tops:List Int) (B:Int):Int:=a.worth * B - a.size * ((az ps a).map fun t => tops.getD (t - 1).toNat 0).sum
theorem gW {t b:Int} (hb : 0 < b) : 0 < Rat.divInt t b ↔ 0 < t:=by
  have h1:=Rat.divInt_nonneg_iff_of_pos_right (a:=t) hb
  have h2:Rat.divInt t b = 0 ↔ t = 0:=by
    constructor
    · intro h
      have:=(Rat.divInt_eq_divInt_iff (n₁:=t) (n₂:=0) (d₁:=b) (d₂:=b) (by omega) (by omega)).mp (by rw [h,Rat.zero_divInt])
      rw [Int.zero_mul] at this
      rcases Int.mul_eq_zero.mp this with z | z
      · exact z
      · omega
    · intro h; rw [h,Rat.zero_divInt]
  constructor
  · intro h
    have a1 : 0 ≤ t:=h1.mp (by grind)
    have a2:t ≠ 0:=fun z => by rw [h2.mpr z] at h; grind
    omega
  · intro h
    have a1:=h1.mpr (by omega)
    have a2:Rat.divInt t b ≠ 0:=fun z => by have:=h2.mp z; omega
    grind
theorem kq (as:List Ask):eqD (aT as) (.lst []) = as.isEmpty:=by
  cases as with
  | nil => exact fK 1 _ rfl
  | cons a as => unfold eqD aT; rw [List.map_cons,toP,toP,toPs,toPs,PyData.eqv,PyData.eqvAll]; rfl
theorem jq {rs:List Rat} {r:Rat} (h:r ∈ rs):(r.den:Int) ∣ (aX rs:Int):=by
  have:r.den ∣ aX rs:=by
    induction rs with
    | nil => cases h
    | cons x rs ih =>
      rw [d_]
      rcases List.mem_cons.mp h with rfl | h
      · exact Nat.dvd_mul_right _ _
      · exact Nat.dvd_trans (ih h) (Nat.dvd_mul_left _ _)
  exact Int.natCast_dvd_natCast.mpr this
theorem sm {B:Int} (hB : 0 < B) (w s S:Int):Rat.divInt (w * B - s * S) B = (w:Rat) - (s:Rat) * Rat.divInt S B:=by
  have h:(B:Rat) ≠ 0:=fun z => by have:=Rat.intCast_eq_zero_iff.mp z; omega
  rw [Rat.divInt_eq_div,Rat.divInt_eq_div,Rat.intCast_sub,Rat.intCast_mul,Rat.intCast_mul]
  grind
theorem oM {prs:List Rat} (w:List Int) (hw:∀ t ∈ w,0 < t ∧ t ≤ (prs.length:Int)):Rat.divInt (w.map fun t => (bu prs).getD (t - 1).toNat 0).sum (aX prs) = (w.map fun t => prs.getD (t - 1).toNat 0).sum:=by
  have hp:(0:Int) < aX prs:=by have:=cu prs; omega
  have h1:(w.map fun t => (bu prs).getD (t - 1).toNat 0) = (w.map fun t => prs.getD (t - 1).toNat 0).map fun r => r.num * ((aX prs:Int) / r.den):=by
    rw [List.map_map]
    refine List.map_congr_left fun t ht => ?_
    have:=hw t ht
    unfold bu
    show _ = (prs.getD (t - 1).toNat 0).num * ((aX prs:Int) / (prs.getD (t - 1).toNat 0).den)
    rw [List.getD_eq_getElem?_getD,List.getD_eq_getElem?_getD,List.getElem?_map,List.getElem?_eq_getElem (show (t - 1).toNat < prs.length by omega)]
    rfl
  rw [h1]
  refine h_ hp fun r hr => ?_
  obtain ⟨t,ht,rfl⟩:=List.mem_map.mp hr
  have:=hw t ht
  exact jq (jU (by omega))
theorem gY {ps rs:List Int} {prs:List Rat} {a:Ask} (hT:Tree ps rs) (he:Ends2 ps a.one a.other) (hl:prs.length = ps.length) :
    Rat.divInt (if cH ps a (bu prs) (aX prs) > 0 then cH ps a (bu prs) (aX prs) else 0) (aX prs) = a7 ps a a.size prs:=by
  have hp:(0:Int) < aX prs:=by have:=cu prs; omega
  have h1:=oM (prs:=prs) (az ps a) fun t ht => by have:=cb hT he ht; omega
  have h2:Rat.divInt (cH ps a (bu prs) (aX prs)) (aX prs) = (a.worth:Rat) - (a.size:Rat) * b3 ps a prs:=by
    unfold b3
    rw [← h1]
    unfold cH
    exact sm hp _ _ _
  unfold a7 fu
  rw [← h2]
  by_cases h:cH ps a (bu prs) (aX prs) > 0
  · rw [if_pos h,if_pos ((gW hp).mpr h)]
  · rw [if_neg h,if_neg (fun z => h ((gW hp).mp z)),Rat.zero_divInt]
theorem kX {ps rs:List Int} (hT:Tree ps rs) {a b:Int} (he:Ends2 ps a b) : 0 < (gx ps a b).length:=by
  obtain ⟨w,hw,e⟩:=fR hT he.a0 he.b0 he.a1 he.b1
  rw [e]
  have:=(bN w).length_eq
  have hne:=he.ne
  generalize gC ps a b = m at hw
  cases hw with
  | same => exact absurd rfl hne
  | left _ _ => rw [List.length_cons] at this; omega
  | right _ _ => rw [List.length_cons] at this; omega
theorem nJ {ps:List Int} {prs:List Rat} (hp:PricesOk ps prs) (hpr:aX prs < 2 ^ 1500) {k:Nat} (hk:k < prs.length):((bu prs).getD k 0).natAbs < 2 ^ 1564:=by
  unfold bu
  rw [List.getD_eq_getElem?_getD,List.getElem?_map,List.getElem?_eq_getElem hk]
  show (prs[k].num * ((aX prs:Int) / prs[k].den)).natAbs < _
  have h1:=(hp.bt _ (List.getElem_mem hk)).num
  have h2:=eE (a:=(aX prs:Int)) (bH prs[k])
  rw [Int.natAbs_natCast] at h2
  rw [bL]
  exact bj (m:=64) (n:=1500) h1 (by omega)
def aq (rs:List Int) (prs:List Rat):List Rat:=List.zipWith (fun (x:Int) (p:Rat) => (x:Rat) * p) rs prs
def aS (ps rs:List Int) (as:List Ask) (prs:List Rat):Rat:=(aq rs prs).sum + (as.map fun a => a7 ps a a.size prs).sum
def sy:SpD:=fun ds q => ∃ ps rs as prs,ds = [aN ps rs,aT as,dQs prs] ∧ Tree ps rs ∧ AsksOk ps as ∧ PricesOk ps prs ∧ q (dQ (aS ps rs as prs)) []
def gU:D → D
  | .tup [.int x,.tup [.int n,.int d]] => dQ ((x:Rat) * Rat.divInt n d)
  | d => d
theorem iM (x:Int) (p:Rat):gU (.tup [.int x,dQ p]) = dQ ((x:Rat) * p):=by
  show dQ ((x:Rat) * Rat.divInt p.num p.den) = _
  rw [cJ]
theorem gR:∀ (rs:List Int) (prs:List Rat),(kP (rs.map D.int) (prs.map dQ)).map gU = (aq rs prs).map dQ
  | [],prs => by cases prs <;> rfl
  | x :: rs,[] => rfl
  | x :: rs,p :: prs => by
    show gU (.tup [.int x,dQ p]) :: (kP (rs.map D.int) (prs.map dQ)).map gU = dQ ((x:Rat) * p) :: (aq rs prs).map dQ
    rw [iM,gR rs prs]
theorem io (t:Int) {b:Nat} (hb : 0 < b):(Rat.divInt t b).den ∣ b:=by
  rw [Rat.den_divInt,if_neg (by omega),Int.natAbs_natCast]
  exact Nat.div_dvd_of_dvd (by
    have:=Int.gcd_dvd_left (b:Int) t
    exact Int.natCast_dvd_natCast.mp this)
theorem li (x:Int) (p:Rat):((x:Rat) * p).den ∣ p.den:=by
  rw [Rat.den_mul,Rat.den_intCast,Nat.one_mul]
  exact Nat.div_dvd_of_dvd (Nat.gcd_dvd_right _ _)
theorem iB {α β γ:Type} {f : α → β → γ}:∀ {xs:List α} {ys:List β} {z : γ},z ∈ List.zipWith f xs ys → ∃ x ∈ xs,∃ y ∈ ys,z = f x y
  | [],_,_,h => by simp at h
  | _ :: _,[],_,h => by simp at h
  | x :: xs,y :: ys,z,h => by
    rw [List.zipWith_cons_cons] at h
    rcases List.mem_cons.mp h with rfl | h
    · exact ⟨x,.head _,y,.head _,rfl⟩
    · obtain ⟨a,ha,b,hb,e⟩:=iB h
      exact ⟨a,.tail _ ha,b,.tail _ hb,e⟩
theorem pr {ps rs:List Int} {prs:List Rat} {a:Ask} (hT:Tree ps rs) (he:Ends2 ps a.one a.other) (hl:prs.length = ps.length):(a7 ps a a.size prs).den ∣ aX prs:=by
  rw [← gY hT he hl]; exact io _ (cu prs)
theorem qP {ps rs:List Int} {prs:List Rat} {a:Ask} (hT:Tree ps rs) (ha:AskOk ps a) (hp:PricesOk ps prs):Bt (a7 ps a a.size prs) 3061:=by
  have s0:=ha.s0; have s1:=ha.s1; have w0:=ha.w0; have w1:=ha.w1
  exact tm (((lw (n:=40) 1000000000000 (by omega) (by decide) (by decide)).sub ((lw (n:=20) 1000000 (by omega) (by decide) (by decide)).mul (oh hT ha.ends hp))).mono (by decide)) (by decide)
theorem nU {ps rs:List Int} (hT:Tree ps rs) {x:Int} (hx:x ∈ rs):Bt (x:Rat) 20:=by
  obtain ⟨i,hi⟩:=List.getElem?_of_mem hx
  have:=hT.room i x hi
  exact lw 1000000 (by omega) (by decide) (by decide)
theorem pw (rs:List Int) (prs:List Rat):(aq rs prs).length = min rs.length prs.length:=by unfold aq; rw [List.length_zipWith]
theorem o9 {ps rs:List Int} {prs:List Rat} (hT:Tree ps rs) (hp:PricesOk ps prs):∀ r ∈ aq rs prs,Bt r 84 ∧ r.den ∣ aX prs:=fun r hr => by
  obtain ⟨x,hx,p,hpm,rfl⟩:=iB hr
  exact ⟨(nU hT hx).mul (hp.bt p hpm),Nat.dvd_trans (li x p) (jE hpm)⟩
def ic (rs tops:List Int):List Int:=List.zipWith (fun x t => x * t) rs tops
def oV (x:Int):Int:=if x > 0 then x else 0
def my (ps rs:List Int) (as:List Ask) (prs:List Rat):Int:=(ic rs (bu prs)).sum + (as.map fun a => oV (cH ps a (bu prs) (aX prs))).sum
theorem ii (prs:List Rat):(bu prs).length = prs.length:=by unfold bu; rw [List.length_map]
theorem et {B:Int} (hB : 0 < B) (x y:Int):Rat.divInt (x + y) B = Rat.divInt x B + Rat.divInt y B:=by
  rw [Rat.divInt_add_divInt _ _ (by omega) (by omega),← Int.add_mul,Rat.divInt_mul_right (by omega)]
theorem fv {B:Int} (hB : 0 < B):∀ xs:List Int,Rat.divInt xs.sum B = (xs.map fun x => Rat.divInt x B).sum
  | [] => by rw [List.map_nil,List.sum_nil,List.sum_nil,Rat.zero_divInt]
  | x :: xs => by rw [List.map_cons,List.sum_cons,List.sum_cons,et hB,fv hB xs]
theorem gN (x t B:Int):Rat.divInt (x * t) B = (x:Rat) * Rat.divInt t B:=by
  rw [Rat.divInt_eq_div,Rat.divInt_eq_div,Rat.intCast_mul]
  grind
theorem rc {prs:List Rat} {r:Rat} (h:r ∈ prs):Rat.divInt (r.num * ((aX prs:Int) / r.den)) (aX prs) = r:=by
  obtain ⟨c,hc⟩:=jq h
  have hd:=bH r
  have hp:=cu prs
  have e1:(aX prs:Int) / r.den = c:=Int.ediv_eq_of_eq_mul_right (by omega) hc
  have cp:c ≠ 0:=fun z => by rw [z,Int.mul_zero] at hc; omega
  rw [e1,hc,Rat.divInt_mul_right cp,cJ]
theorem gS (prs:List Rat):∀ (rs:List Int) (l:List Rat),(∀ r ∈ l,r ∈ prs) → (ic rs (l.map fun r => r.num * ((aX prs:Int) / r.den))).map (fun x => Rat.divInt x (aX prs)) = aq rs l
  | [],l,_ => by cases l <;> rfl
  | x :: rs,[],_ => rfl
  | x :: rs,r :: l,h => by
    show Rat.divInt (x * (r.num * ((aX prs:Int) / r.den))) (aX prs) :: (ic rs (l.map fun r => r.num * ((aX prs:Int) / r.den))).map (fun x => Rat.divInt x (aX prs)) = (x:Rat) * r :: aq rs l
    rw [gS prs rs l fun y hy => h y (.tail _ hy),gN,rc (h r (.head _))]
theorem lW {ps rs:List Int} {as:List Ask} {prs:List Rat} (hT:Tree ps rs) (ha:AsksOk ps as) (hl:prs.length = ps.length):Rat.divInt (my ps rs as prs) (aX prs) = aS ps rs as prs:=by
  have hp:(0:Int) < aX prs:=by have:=cu prs; omega
  unfold my aS
  rw [et hp,fv hp,fv hp,List.map_map]
  have e1:=gS prs rs prs fun r h => h
  have e2:(as.map ((fun x => Rat.divInt x (aX prs)) ∘ fun a => oV (cH ps a (bu prs) (aX prs)))) = as.map fun a => a7 ps a a.size prs :=
    List.map_congr_left fun a hm => gY hT (ha.ok a hm).ends hl
  rw [e2]
  unfold bu at *
  rw [e1]
end L2
namespace L2
open PySem PySem.Spec PyProof.Rows
section
variable {M:Model} {A:Around} {E:Value → Shared → Prop} {s:Shared}
end
section
variable {X:Cx} {pins:List (Addr × Obj)} {σ:St} {H H':Hp} {s s':Shared} {e:Addr} {cls:Value} {dx:Option Addr} {T:Option Addr}
end
section
variable {X:Cx} {x:Str} {p pos:Pos} {e:Expr} {es:List Expr} {t:TA} {k:Nat} {f:Addr} {fd:FuncData} {ps:List Str} {sp:Sp} {xk:XS}
end
section
variable {X:Cx} {pins:List (Addr × Obj)} {σ:St} {H:Hp} {s:Shared} {xk:XS}
variable {x:Str} {C:Addr} {bm:List Value} {e:Expr} {args:List Expr} {np cpos pos:Pos} {t:TA}
end
section
variable {X:Cx} {pins p:List (Addr × Obj)} {σ:St} {H:Hp} {s:Shared} {E:Value → Shared → Prop} {v:Value}
variable {e:Addr} {cls:Value} {dx T:Option Addr}
variable {x n:Str} {i:Nat} {C D0:Addr} {bm bmD:List Value} {ini iniD:Option Value} {b0:Stmt} {suite:List Stmt} {np npos:Pos} {ts:TS} {D:Ends} {t:Addr}
end
section
variable {X:Cx} {E:Value → Shared → Prop} {p:List (Addr × Obj)}
end
section
variable {X:Cx} {M:Md} {a b c e:Expr} {mt:MT} {pos pos':Pos} {st:Stmt} {rest:List Stmt} {m:MS} {m1 m2:MSX} {mex:MEX}
variable {mg:MG}
variable {es:List Expr} {ks:List AK} {mr:MA} {x:Str} {p':Pos} {ow:List Bool}
end
section
variable {X:Cx} {M:Md} {e:Expr} {es:List Expr} {ks:List AK} {mr:MA} {x:Str} {pos p':Pos} {ow:List Bool} {mu:List Bool} {k:Nat} {f:Addr} {fd:FuncData} {ps:List Str} {sd:SpX}
end
end L2
namespace L2
open PySem PySem.Spec PyProof.Rows PySem.W Builtin.ObjectAttr
section
variable {prog:Program} {w:World} {A:Around} {E:Value → Shared → Prop} {s:Shared} {K:PySem.W.Frag} {x D:Addr} {ox:Obj} {od:Option Obj} {name:Str} {bm:List Value} {ini:Option Value} {tk:Tok}
end
end L2
namespace L2
open PySem PySem.Spec PyProof.Rows
section
variable {X:Cx}
variable {ow:List Bool} {a:Expr} {ma:ME} {pos:Pos}
end
section
variable {K:PySem.W.Frag} {C a N:Addr} {dd nd:Option Addr} {nm qn:Str} {bs bm sub:List Value} {hd ab:Bool} {sn:List Str} {col:Option Bool} {k0 k1 k2 k3 k5 ini:Option Value} {no:Value} {es:Array DictEntry} {np:Nat} {nl:Array (Option Value)} {sl:Array (Option Value)} {oc:Value} {cd:ClassData}
end
section
variable {X:Cx}
variable {ow:List Bool} {a:Expr} {ma:ME} {pos:Pos}
end
section
variable {K:PySem.W.Frag} {t c:Value} {cs:List Value} {b:Bool}
end
section
variable {prog:Program} {w:World} {A:Around} {E:Value → Shared → Prop} {h:Heap} {g:Array GenState} {d:Drawn} {t:Nat} {os:OsState}
variable {nm q:Str} {C N:Addr} {bs bm:List Value} {hdct:Bool} {sn:List Str} {sub:List Value} {ab:Bool} {col:Option Bool} {dd:Option Addr} {k0 k1 k2 k3 k5:Option Value}
end
section
variable {prog:Program} {w:World} {A:Around} {E:Value → Shared → Prop} {h:Heap} {g:Array GenState} {d:Drawn} {t:Nat} {os:OsState}
variable {nm q:Str} {C N:Addr} {bs bm:List Value} {hdct:Bool} {sn:List Str} {sub:List Value} {ab:Bool} {col:Option Bool} {dd:Option Addr} {k0 k1 k2 k3 k5:Option Value}
end
end L2
namespace L2
open PySem PySem.Spec PyProof.Rows PySem.W Builtin.ObjectAttr Builtin
section
variable {prog:Program} {w:World} {A:Around} {E:Value → Shared → Prop} {s:Shared} {K:PySem.W.Frag} {x C:Addr} {ox:Obj} {od:Option Obj} {name:Str} {bm:List Value} {ini:Option Value} {v:Value}
end
end L2
namespace L2
open PySem PySem.Spec PyProof.Rows
section
variable {X:Cx} {pins:List (Addr × Obj)} {σ:St} {H:Hp} {s:Shared} {e C fI:Addr} {bm:List Value}
end
section
variable {prog:Program} {w:World} {A:Around} {E:Value → Shared → Prop} {s:Shared} {env:Env}
end
section
variable {X:Cx} {xk:XS} {x:Str} {C fI:Addr} {bm:List Value} {e:Expr} {args:List Expr} {np cpos pos:Pos} {t:TA} {k:Nat} {fd:FuncData} {ps ns:List Str}
end
section
variable {X:Cx} {M:Md} {e:Expr} {es:List Expr} {mr:MA} {x:Str} {pos:Pos} {k:Nat} {fd:FuncData} {ps ns:List Str}
end
section
variable {X:Cx} {es:List Expr} {c:St → Prop}
end
section
variable {X:Cx} {C B:Addr} {bm:List Value} {ini:Option Value} {x:Str} {a b:Expr} {np apos pos pos':Pos} {t:TA}
end
section
variable {X:Cx} {pins:List (Addr × Obj)} {σ:St} {H:Hp} {s:Shared} {h':Heap} {a:Addr} {oa od:HO}
end
section
variable {X:Cx} {C:Addr} {bm:List Value} {ini:Option Value} {f:Str} {o value:Expr} {pos pos':Pos} {ta tv:TE}
end
section
variable {X:Cx} {ow:List Bool} {a:Expr} {ma:ME} {pos:Pos} {f:Str}
end
section
variable {X:Cx}
variable {ow:List Bool} {e:Expr} {ma:ME}
end
section
variable {X:Cx} {M:Md} {ow:List Bool} {a e:Expr} {es:List Expr} {pos:Pos} {mex:MEX} {m1:MSX} {mg:MG}
variable {x:Str} {p':Pos} {ma:ME}
end
section
variable {C:Ctx} {ow:List Bool} {G:Hp} {ρ:DSt} {σ:St} {H:Hp} {pd:List (D × V)} {O:Own} {p:Addr} {xs:List V}
end
section
variable {X:Cx} {ow:List Bool} {a b e:Expr} {es:List Expr} {ma mb:ME} {mr:MA} {pos:Pos} {x:Str} {p':Pos}
end
section
variable {X:Cx} {M:Md} {i:Nat} {st:Stmt} {rest:List Stmt} {m1 m2:MFl} {me:MFe} {ms:MS} {pos pos':Pos}
variable {e b c:Expr} {ma mb:ME} {mt:MT}
end
section
variable {C:Ctx} {ow:List Bool} {i:Nat} {G:Hp} {ρ:DSt} {σ:St} {H:Hp} {p:Addr} {ds:List D}
end
section
variable {X:Cx} {M:Md} {i:Nat} {pos pos':Pos} {e c:Expr} {ma:ME} {mt:MT} {m1 m2:MFl}
end
section
variable {X:Cx} {M:Md} {a b e:Expr} {ma mb:ME} {pos:Pos}
end
section
variable {X:Cx} {M:Md} {a b:Expr} {ma mb:ME} {pos:Pos}
end
section
variable {X:Cx} {pos p1 p2 q1 q2:Pos} {n1 n2:Nat} {k1 k2 x y:Str} {i j:Nat} {ow:List Bool}
end
section
variable {X:Cx} {ow:List Bool} {a b e:Expr} {ma mb:ME} {pos p2:Pos} {lo hi:Option Expr} {ml mh:MO}
end
section
variable {X:Cx} {M:Md} {i:Nat} {st:Stmt} {m:MFl}
end
section
variable {X:Cx}
theorem pM (hc:X.calm = true):cC X (.builtin "max") (fun xs H Q => ∃ (p:Addr) (ns:List Int),xs = [.ref p] ∧ SqL X.K H p (ns.map V.int) ∧ 0 < ns.length ∧ ∀ m,m ∈ ns → (∀ a,a ∈ ns → a ≤ m) → Q (.int m) H):=by
  intro pins s σ H xs us Q I r h
  obtain ⟨p,ns,rfl,hS,hne,q⟩:=h
  obtain ⟨u,rfl,ru⟩:=eW r
  cases ru
  obtain ⟨its,rv,hl⟩:=dj I hS
  have hI₂:IntsAre its ns:=d7 rv
  obtain ⟨ys,hys⟩:=hI₂.allInts.items
  have hlY:s.heap.IsList p (intItems ys):=hys ▸ hl
  have eY:ns = ys.toList.map (·.1):=by
    rw [← nums_intItems,← hys]; exact Eq.symm (show numsOf its.toArray.toList = ns from hI₂.numsOf)
  have hsz : 0 < ys.size:=by rw [eY,List.length_map,Array.length_toList] at hne; exact hne
  refine max_intList (I.ok.hd hc) hlY hsz fun v hp tk₁ hv kept => ?_
  obtain ⟨t,rfl⟩:=intItems_at hv
  obtain ⟨h1,h2⟩:=argBest_gt (numAt ys) (ys.size - 1)
  refine ⟨.int _,H,I.kept kept,⟨t,rfl⟩,q _ ?_ fun a ha => ?_⟩
  · rw [numAt_eq,eY]; exact PySem.getD_mem (by rw [List.length_map,Array.length_toList]; omega)
  · rw [eY] at ha
    obtain ⟨j,hj,rfl⟩:=PySem.mem_getD ha
    rw [List.length_map,Array.length_toList] at hj
    rw [← numAt_eq]; exact h2 j (by omega)
end
def uG:List D → (D → Prop) → Prop:=fun ds q => match ds with
  | [.lst xs] => ∃ ns:List Int,xs = ns.map D.int ∧ 0 < ns.length ∧ ∀ m,m ∈ ns → (∀ a,a ∈ ns → a ≤ m) → q (.int m)
  | _ => False
theorem dMaxL {K:PySem.W.Frag}:dW (fun xs H Q => ∃ (p:Addr) (ns:List Int),xs = [.ref p] ∧ SqL K H p (ns.map V.int) ∧ 0 < ns.length ∧ ∀ m,m ∈ ns → (∀ a,a ∈ ns → a ≤ m) → Q (.int m) H) uG:=fun G H xs ds q Q s p hf k => by
  unfold uG at hf
  split at hf
  · obtain ⟨v,rfl,p1⟩:=bA p
    obtain ⟨a,xs,rfl,h1,h2⟩:=bi p1
    obtain ⟨ns,rfl,hn,hq⟩:=hf
    rw [bV h2] at h1
    exact ⟨a,ns,rfl,SqL.of (s _ _ h1),hn,fun m hm hx => k _ _ (hq m hm hx) (bq _)⟩
  · exact hf.elim
end L2
namespace L2
open PySem
theorem lx {ps rs:List Int} {as:List Ask} {prs:List Rat} (hT:Tree ps rs) (ha:AsksOk ps as) (hp:PricesOk ps prs):Bt (aS ps rs as prs) 1700:=by
  have hpl:=hp.len
  have hi:=hT.hi
  have hal:=ha.len
  have hpr:aX prs < 2 ^ 1500:=Nat.lt_of_le_of_lt (ki hp.bt) (Nat.pow_lt_pow_right (by decide) (by omega))
  have hp0:(0:Int) < aX prs:=by have:=cu prs; omega
  rw [← lW hT ha hpl]
  refine Bt.divInt hp0 ?_ (by rw [Int.natAbs_natCast]; exact Nat.lt_of_lt_of_le hpr (cq (by decide)))
  have h1:(ic rs (bu prs)).sum.natAbs ≤ 2 ^ 1650:=by
    have h:=di (n:=2 ^ 1584) (ns:=ic rs (bu prs)) fun x hx => by
      obtain ⟨a,ha,t,ht,rfl⟩:=iB hx
      obtain ⟨i,hi⟩:=List.getElem?_of_mem ha
      have:=hT.room i a hi
      obtain ⟨j,hj⟩:=List.getElem?_of_mem ht
      have hjl:=(List.getElem?_eq_some_iff.mp hj).1
      rw [ii] at hjl
      have hb:=nJ hp hpr hjl
      rw [List.getD_eq_getElem?_getD,hj] at hb
      rw [bL]
      exact bj (m:=20) (n:=1564) (Nat.lt_of_le_of_lt (show _ ≤ 1000000 by clear hb hpr hp0; omega) (by decide)) hb
    refine Nat.le_trans h ?_
    have hl:(ic rs (bu prs)).length ≤ 2 ^ 5:=by
      unfold ic; rw [List.length_zipWith,ii]; clear h hpr hp0; omega
    refine Nat.le_trans (Nat.mul_le_mul_right _ hl) ?_
    rw [← Nat.pow_add]; exact cq (by decide)
  have h2:((as.map fun a => oV (cH ps a (bu prs) (aX prs))).sum).natAbs ≤ 2 ^ 1650:=by
    have h:=di (n:=2 ^ 1621) (ns:=as.map fun a => oV (cH ps a (bu prs) (aX prs))) fun x hx => by
      obtain ⟨a,hm,rfl⟩:=List.mem_map.mp hx
      have hok:=ha.ok a hm
      have he:=hok.ends
      have hwl:=cN hT he
      have s0:=hok.s0; have s1:=hok.s1; have w0:=hok.w0; have w1:=hok.w1
      have hs:(cH ps a (bu prs) (aX prs)).natAbs < 2 ^ 1621:=by
        unfold cH
        have hsum:((az ps a).map fun t => (bu prs).getD (t - 1).toNat 0).sum.natAbs < 2 ^ 1600:=by
          have h1:=di (n:=2 ^ 1564) (ns:=(az ps a).map fun t => (bu prs).getD (t - 1).toNat 0) fun x hx => by
            obtain ⟨t,ht,rfl⟩:=List.mem_map.mp hx
            have hm:=cb hT he ht
            exact nJ hp hpr (by omega)
          rw [List.length_map] at h1
          refine Nat.lt_of_le_of_lt h1 ?_
          refine Nat.lt_of_le_of_lt (Nat.mul_le_mul_right _ (Nat.le_trans hwl (show 46 ≤ 2 ^ 6 by decide))) ?_
          rw [← Nat.pow_add]; exact Nat.pow_lt_pow_right (by decide) (by decide)
        have a1:(a.worth * (aX prs:Int)).natAbs < 2 ^ 1540:=by
          rw [bL,Int.natAbs_natCast]; exact bj (m:=40) (n:=1500) (Nat.lt_of_le_of_lt (show _ ≤ 1000000000000 by clear hpr hp0; omega) (by decide)) hpr
        have a2:(a.size * ((az ps a).map fun t => (bu prs).getD (t - 1).toNat 0).sum).natAbs < 2 ^ 1620:=by
          rw [bL]; exact bj (m:=20) (n:=1600) (Nat.lt_of_le_of_lt (show _ ≤ 1000000 by clear hpr hp0 a1 hsum; omega) (by decide)) hsum
        have a3:(2:Nat) ^ 1540 ≤ 2 ^ 1620:=cq (by decide)
        have a4:(2:Nat) ^ 1621 = 2 ^ 1620 + 2 ^ 1620:=by rw [Nat.pow_succ,Nat.mul_two]
        rw [a4]
        exact Nat.lt_of_le_of_lt (Int.natAbs_sub_le _ _) (Nat.add_lt_add (Nat.lt_of_lt_of_le a1 a3) a2)
      have hz:(oV (cH ps a (bu prs) (aX prs))).natAbs ≤ (cH ps a (bu prs) (aX prs)).natAbs:=by
        unfold oV; split <;> omega
      exact Nat.lt_of_le_of_lt hz hs
    refine Nat.le_trans h ?_
    refine Nat.le_trans (Nat.mul_le_mul_right _ (show _ ≤ 2 ^ 5 by rw [List.length_map]; omega)) ?_
    rw [← Nat.pow_add]; exact cq (by decide)
  have h3:(2:Nat) ^ 1651 = 2 ^ 1650 + 2 ^ 1650:=by rw [Nat.pow_succ,Nat.mul_two]
  refine Nat.lt_of_le_of_lt (m:=2 ^ 1651) ?_ (Nat.pow_lt_pow_right (by decide) (by decide))
  unfold my
  rw [h3]
  exact Nat.le_trans (Int.natAbs_add_le _ _) (Nat.add_le_add h1 h2)
theorem ie (r s:Rat):(r.num * s.den ≤ s.num * r.den) ↔ r ≤ s:=by
  constructor
  · intro h
    have:=Rat.not_lt.mp fun h2 => absurd ((Rat.lt_iff s r).mp h2) (by omega)
    exact this
  · intro h
    have : ¬ s < r:=Rat.not_lt.mpr h
    have h3 : ¬ (s.num * r.den < r.num * s.den):=fun z => this ((Rat.lt_iff s r).mpr z)
    omega
end L2
namespace L2
open PySem PySem.Spec PyProof.Rows
section
variable {X:Cx}
end
section
variable {X:Cx} {M:Md} {e:Expr} {ma:ME} {pos:Pos}
end
section
variable {X:Cx} {M:Md} {i:Nat} {st:Stmt} {rest:List Stmt} {m1 m2:MFl} {me:MFe} {pos pos':Pos} {e:Expr} {ma:ME}
end
section
variable {X:Cx} {M:Md} {elt tg iter:Expr} {ifs:List Expr} {pos:Pos} {mi:MA} {mg:MG} {mt:MT} {me:ME} {scope:Scope} {cl:List (Str × Addr)} {rest:List Stmt} {mf:MFe}
end
section
variable {X:Cx} {ow:List Bool} {e:Expr} {ma:ME} {pos p2:Pos} {lo hi:Option Expr} {ml mh:MO}
end
end L2
namespace L2
open PySem
def ij:List Int → List Int → List Int
  | l :: ls,r :: rs => if r < l then l :: ij ls rs else ij ls rs
  | _,_ => []
theorem lL:∀ {ld rs:List Int},ij ld rs = [] → ∀ {prs:List Rat},(∀ p ∈ prs,0 ≤ p) → (aq ld prs).sum ≤ (aq rs prs).sum ∨ ld.length ≠ rs.length
  | [],[],_,prs,_ => .inl (by cases prs <;> exact Rat.le_refl)
  | [],_ :: _,_,_,_ => .inr (by simp)
  | _ :: _,[],_,_,_ => .inr (by simp)
  | l :: ld,r :: rs,h,[],_ => .inl Rat.le_refl
  | l :: ld,r :: rs,h,p :: prs,hp => by
    unfold ij at h
    by_cases c:r < l
    · rw [if_pos c] at h; cases h
    · rw [if_neg c] at h
      rcases lL h (prs:=prs) fun x hx => hp x (.tail _ hx) with i | i
      · left
        show ((l:Rat) * p :: aq ld prs).sum ≤ ((r:Rat) * p :: aq rs prs).sum
        rw [List.sum_cons,List.sum_cons]
        have hlr:(l:Rat) ≤ (r:Rat):=Rat.intCast_le_intCast.mpr (by omega)
        have:=Rat.mul_le_mul_of_nonneg_right hlr (hp p (.head _))
        grind
      · right; simp; omega
theorem lP:∀ (ls:List Int) (prs:List Rat) (k:Nat) (s:Int),k < ls.length → k < prs.length → (aq (ls.set k (ls.getD k 0 + s)) prs).sum = (aq ls prs).sum + (s:Rat) * prs.getD k 0
  | [],_,k,_,h,_ => by simp at h
  | _ :: _,[],k,_,_,h => by simp at h
  | x :: ls,p :: prs,0,s,_,_ => by
    show (((x + s:Int):Rat) * p :: aq ls prs).sum = ((x:Rat) * p :: aq ls prs).sum + (s:Rat) * p
    rw [List.sum_cons,List.sum_cons,Rat.intCast_add]; grind
  | x :: ls,p :: prs,k + 1,s,h1,h2 => by
    have:=lP ls prs k s (by simpa using h1) (by simpa using h2)
    show ((x:Rat) * p :: aq (ls.set k (ls.getD k 0 + s)) prs).sum = ((x:Rat) * p :: aq ls prs).sum + (s:Rat) * prs.getD k 0
    rw [List.sum_cons,List.sum_cons,this]; grind
theorem jM (s:Int) (prs:List Rat):∀ (w l:List Int),l.length = prs.length → (∀ t ∈ w,0 < t ∧ t ≤ (prs.length:Int)) → (aq (cF l w s) prs).sum = (aq l prs).sum + (s:Rat) * (w.map fun t => prs.getD (t - 1).toNat 0).sum
  | [],l,_,_ => by
    show (aq l prs).sum = _
    rw [List.map_nil,List.sum_nil,Rat.mul_zero,Rat.add_zero]
  | t :: w,l,hl,hw => by
    have ht:=hw t (.head _)
    show (aq (cF (gF s l t) w s) prs).sum = _
    rw [jM s prs w (gF s l t) (by rw [h8]; exact hl) fun x hx => hw x (.tail _ hx),List.map_cons,List.sum_cons]
    have:=lP l prs (t - 1).toNat s (by omega) (by omega)
    unfold gF
    rw [this]; grind
theorem jR:∀ (n:Nat) (prs:List Rat),(aq (List.replicate n 0) prs).sum = 0
  | 0,_ => by cases ‹List Rat› <;> rfl
  | n + 1,[] => rfl
  | n + 1,p :: prs => by
    show (((0:Int):Rat) * p :: aq (List.replicate n 0) prs).sum = 0
    rw [List.sum_cons,jR n prs]; grind
def aU (f:Ask → Rat) (as:List Ask) (ks:List Int):Rat:=(ks.map fun k => f (as.getD k.toNat cw)).sum
theorem kZ {ps rs:List Int} {as:List Ask} {prs:List Rat} (hT:Tree ps rs) (ha:AsksOk ps as) (hl:prs.length = ps.length):∀ (ks:List Int),(∀ k ∈ ks,0 ≤ k ∧ k < (as.length:Int)) →
    ∀ l:List Int,l.length = ps.length → (aq (ks.foldl (eJ ps as) l) prs).sum = (aq l prs).sum + aU (fun a => (a.size:Rat) * b3 ps a prs) as ks
  | [],_,l,_ => by
    show (aq l prs).sum = (aq l prs).sum + 0
    rw [Rat.add_zero]
  | k :: ks,hk,l,h => by
    have hk0:=hk k (.head _)
    have hok:=ha.ok _ (cj (as:=as) (k:=k.toNat) (by omega))
    show (aq (ks.foldl (eJ ps as) (eJ ps as l k)) prs).sum = _
    have e:eJ ps as l k = cF l (az ps (as.getD k.toNat cw)) (as.getD k.toNat cw).size:=rfl
    rw [kZ hT ha hl ks (fun x hx => hk x (.tail _ hx)) _ (by rw [e,dc]; exact h),e,
      jM _ prs _ l (by omega) fun t ht => by have:=cb hT hok.ends ht; omega]
    unfold aU b3
    rw [List.map_cons,List.sum_cons]; grind
theorem iJ {a b:List Rat} (h:a.Perm b):a.sum = b.sum:=by
  induction h with
  | nil => rfl
  | cons x _ ih => rw [List.sum_cons,List.sum_cons,ih]
  | swap x y l => rw [List.sum_cons,List.sum_cons,List.sum_cons,List.sum_cons]; grind
  | trans _ _ i1 i2 => rw [i1,i2]
theorem kc {f:Ask → Rat} {as:List Ask} {a b:List Int} (h:a.Perm b):aU f as a = aU f as b:=iJ (h.map _)
theorem f6:∀ {l:List Rat},(∀ x ∈ l,0 ≤ x) → 0 ≤ l.sum
  | [],_ => by decide
  | x :: l,h => by rw [List.sum_cons]; have:=f6 fun y hy => h y (.tail _ hy); have:=h x (.head _); grind
theorem oq {f:Int → Rat} (hf:∀ k,0 ≤ f k):∀ {ks l:List Int},ks.Nodup → (∀ k ∈ ks,k ∈ l) → (ks.map f).sum ≤ (l.map f).sum
  | [],l,_,_ => f6 fun x hx => by obtain ⟨k,_,rfl⟩:=List.mem_map.mp hx; exact hf k
  | k :: ks,l,hn,hs => by
    have hn':=List.nodup_cons.mp hn
    have hp:l.Perm (k :: l.erase k):=List.perm_cons_erase (hs k (.head _))
    rw [iJ (hp.map f),List.map_cons,List.map_cons,List.sum_cons,List.sum_cons]
    have:=oq hf hn'.2 (l:=l.erase k) fun x hx => (List.mem_erase_of_ne (fun (e:x = k) => hn'.1 (e ▸ hx))).mpr (hs x (.tail _ hx))
    grind
theorem k_ (f:Ask → Rat) (as:List Ask):(as.map f).sum = aU f as ((List.range as.length).map fun (k:Nat) => (k:Int)):=by
  unfold aU
  rw [List.map_map]
  congr 1
  apply List.ext_getElem?
  intro i
  rw [List.getElem?_map,List.getElem?_map,List.getElem?_range_eq]
  by_cases h:i < as.length
  · rw [if_pos h,List.getElem?_eq_getElem h]
    show some (f as[i]) = some (f (as.getD ((i:Int)).toNat cw))
    rw [Int.toNat_natCast,List.getD_eq_getElem?_getD,List.getElem?_eq_getElem h]; rfl
  · rw [if_neg h,List.getElem?_eq_none (by omega)]; rfl
where
  List.getElem?_range_eq {n i:Nat}:(List.range n)[i]? = if i < n then some i else none:=by
    by_cases h:i < n
    · rw [if_pos h,List.getElem?_range h]
    · rw [if_neg h,List.getElem?_eq_none (by simpa using h)]
theorem nC (x:Rat):x ≤ fu x ∧ 0 ≤ fu x:=by unfold fu; constructor <;> split <;> grind
def Beat (ps rs:List Int) (as:List Ask) (ks:List Int):Prop:=∀ prs:List Rat,prs.length = ps.length → (∀ p ∈ prs,0 ≤ p) → aU (fun a => (a.worth:Rat)) as ks ≤ aS ps rs as prs
theorem ny {f g:Ask → Rat} {as:List Ask} (h:∀ a,f a ≤ g a):∀ ks:List Int,aU f as ks ≤ aU g as ks
  | [] => Rat.le_refl
  | k :: ks => by
    have:=ny (as:=as) h ks
    have:=h (as.getD k.toNat cw)
    unfold aU at *
    rw [List.map_cons,List.map_cons,List.sum_cons,List.sum_cons]
    grind
theorem lh {f g:Ask → Rat} {as:List Ask}:∀ ks:List Int,aU (fun a => f a + g a) as ks = aU f as ks + aU g as ks
  | [] => (Rat.add_zero 0).symm
  | k :: ks => by
    have:=lh (f:=f) (g:=g) (as:=as) ks
    unfold aU at *
    rw [List.map_cons,List.map_cons,List.map_cons,List.sum_cons,List.sum_cons,List.sum_cons,this]
    grind
theorem tI {ps rs:List Int} {as:List Ask} {ks:List Int} (hT:Tree ps rs) (ha:AsksOk ps as) (hn:ks.Nodup) (hk:∀ k ∈ ks,0 ≤ k ∧ k < (as.length:Int)) (hf:ij (aZ ps as ks) rs = []):Beat ps rs as ks:=fun prs hl hp => by
  have h1:=ny (as:=as) (f:=fun a => (a.worth:Rat)) (g:=fun a => a7 ps a a.size prs + (a.size:Rat) * b3 ps a prs) (fun a => by
    have:=(nC ((a.worth:Rat) - (a.size:Rat) * b3 ps a prs)).1
    unfold a7; grind) ks
  rw [lh] at h1
  have h2:aU (fun a => a7 ps a a.size prs) as ks ≤ (as.map fun a => a7 ps a a.size prs).sum:=by
    rw [k_]
    exact oq (f:=fun k => a7 ps (as.getD k.toNat cw) (as.getD k.toNat cw).size prs) (fun k => (nC _).2) hn fun k h => by
      have:=hk k h
      exact List.mem_map.mpr ⟨k.toNat,List.mem_range.mpr (by omega),by omega⟩
  have h3:=kZ hT ha hl ks hk (List.replicate ps.length 0) (List.length_replicate ..)
  rw [jR,Rat.zero_add] at h3
  have h4:=lL hf hp
  rcases h4 with h4 | h4
  · have h5:(aq (aZ ps as ks) prs).sum = aU (fun a => (a.size:Rat) * b3 ps a prs) as ks:=h3
    unfold aS
    rw [h5] at h4
    grind
  · exact absurd (by rw [bD]; exact hT.len) h4
end L2
namespace L2
open PySem PySem.Spec PyProof.Rows
section
variable {X:Cx} {pins p:List (Addr × Obj)} {σ:St} {H:Hp} {s:Shared} {E:Value → Shared → Prop} {v:Value} {e:Addr} {cls:Value} {dx T:Option Addr}
variable {x:Str} {C D0:Addr} {bm bmD:List Value} {ini iniD:Option Value} {b0:Stmt} {suite:List Stmt} {np npos:Pos} {ts:TS} {D:Ends} {t:Addr}
end
section
variable {X:Cx} {ow:List Bool} {a b:Expr} {mex:MEX} {mb:ME} {pos:Pos}
end
end L2
namespace L2
open PySem
end L2
namespace L2
open PySem PySem.Spec PyProof.Rows
section
variable {X:Cx} {pos p1 q1:Pos} {n1:Nat} {k1:Int} {x:Str} {i:Nat} {ow:List Bool}
end
section
variable {X:Cx} {ow:List Bool} {es:List Expr} {mr:MA} {pos:Pos}
end
end L2
namespace L2
open PySem
theorem il:∀ (rs:List Int) (n:Nat),(aq rs (List.replicate n 0)).sum = 0
  | [],n => by cases n <;> rfl
  | _ :: _,0 => rfl
  | x :: rs,n + 1 => by
    show ((x:Rat) * 0 :: aq rs (List.replicate n 0)).sum = 0
    rw [List.sum_cons,il rs n,Rat.mul_zero,Rat.add_zero]
end L2
namespace L2
open PySem PySem.Spec PyProof.Rows
theorem pS:bootBuiltins "all" = some (.builtin "all"):=by decide +kernel
section
variable {X:Cx}
def iG (ns:List Int) (k:Nat) (z:Int):List Int:=ns.take k ++ z :: ns.drop k
def rInsI:V → List V → Hp → VK → Prop:=fun x vs H Q => ∃ (l:Addr) (ns:List Int) (k:Nat) (z:Int),x = .ref l ∧ vs = [.int k,.int z] ∧ H l = some (.lst (ns.map V.int)) ∧ k ≤ ns.length ∧ ns.length < 1000 ∧ Q .non (upd H l (.lst ((iG ns k z).map V.int)))
theorem sQ (its:List Value) (k:Nat) (y:Value) (hk:k ≤ its.length):(its.toArray.extract 0 k).push y ++ its.toArray.extract k = (its.take k ++ y :: its.drop k).toArray:=by
  apply Array.ext'
  simp
  exact List.take_of_length_le (by simp)
theorem sK:MtM X "list.insert" rInsI:=by
  (try refine ⟨?_⟩); intro pins s σ H x vs v us Q I rx rv h
  obtain ⟨l,ns,k,z,rfl,rfl,hH,k1,k2,q⟩:=h
  cases rx
  obtain ⟨u,u2,rfl,ru,ru2⟩:=rv.two
  obtain ⟨t,rfl⟩:=ru
  obtain ⟨t2,rfl⟩:=ru2
  obtain ⟨zz,its,n,r,hl,e⟩:=I.lstM hH
  obtain ⟨h1,h2⟩:=gX r
  have hz:its.length ≤ sizeLine:=by
    have:=r.length
    rw [← this]; exact zz
  have hfit : ¬(!Builtin.List.listFitsIndex (k:Int)) = true:=by
    have:Builtin.List.listFitsIndex (k:Int) = true:=by
      have hk3:(k:Int) ≤ 1000:=by omega
      have hk4:(0:Int) ≤ (k:Int):=by omega
      generalize (k:Int) = kk at hk3 hk4
      unfold Builtin.List.listFitsIndex
      simp
      omega
    rw [this]; decide
  have hzz:its.toArray.size ≤ sizeLine:=by rw [List.size_toArray]; exact hz
  have M:=@AutoSeq1.list_insert_list_int_val_1 l its.toArray n (k:Int) t (.int z t2) hfit hzz
  refine call_meets F.slot_list_insert ⟨_,e,rfl⟩ F.entry_list_insert (F.args_list_insert_3 _ _ _) @M ⟨e,?_⟩
  · refine ⟨.non,_,I.lset (its':=its.take k ++ .int z t2 :: its.drop k) hH e ?_ ?_ ?_,rfl,q⟩
    · show (its.toArray.extract 0 (if ((k:Int) < 0) then ((k:Int) + ((its.toArray.size:Nat):Int)).toNat else min (k:Int).toNat its.toArray.size)).push (.int z t2) ++ its.toArray.extract (if ((k:Int) < 0) then ((k:Int) + ((its.toArray.size:Nat):Int)).toNat else min (k:Int).toNat its.toArray.size) = _
      rw [if_neg (by omega),Int.toNat_natCast,List.size_toArray,show min k its.length = k by omega]
      exact sQ its k _ (by omega)
    · have e2:(iG ns k z).map V.int = (ns.map V.int).take k ++ ([V.int z] ++ (ns.map V.int).drop k):=by unfold iG; rw [List.map_append,List.map_cons,List.map_take,List.map_drop]; rfl
      rw [e2]
      exact (r.take k).append ((show aY [V.int z] [Value.int z t2] from .cons ⟨t2,rfl⟩ .nil).append (r.drop k))
    · have e3:(iG ns k z).length = ns.length + 1:=by unfold iG; rw [List.length_append,List.length_cons,List.length_take,List.length_drop]; omega
      rw [List.length_map,e3]
      exact Nat.le_of_lt (cL (by omega))
end
section
variable {X:Cx} {M:Md} {e e':Expr} {mr:MA} {pos:Pos}
def ud (i:Nat) (m:MA):MS:=fun n ρ => match ρ[i]? with
  | some (some (.lst _)) => m ρ fun d ρ2 => match ρ2[i]? with
    | some (some (.lst ds)) => ∃ (ns:List Int) (k:Nat) (z:Int),d = [.int k,.int z] ∧ ds = ns.map D.int ∧ k ≤ ns.length ∧ ns.length < 1000 ∧ n.nx (ρ2.set i (some (ap (iG ns k z))))
    | _ => False
  | _ => False
theorem tJ {i:Nat} {x:Str} {apos cpos npos:Pos} (hN:X.N[i]? = some x) (he:QA X M.ow [e,e'] mr) (ho:M.ow[i]? = some true:=by decide)
    (hv:Vis X.env.scope x:=by first | exact Or.inl rfl | exact Or.inr (Or.inl rfl) | exact Or.inr (Or.inr rfl)) (hd:(x == ("__debug__":Str)) = false:=by decide) (hcd:(x == ("__classdict__":Str)) = false:=by decide)
    (hbase:attributeBase (.Name x npos) "insert" X.env (eval (.Name x npos) X.env) = eval (.Name x npos) X.env:=by rfl)
    (hfew:((backTo cpos (starEach [e,e'] X.env)).all (fun x => !x.1) && (backToKw cpos (keywordEach [] X.env)).all (fun x => x.1.isSome)
      && decide ([e,e'].length + ([]:List Keyword).length + (if ([]:List Keyword).isEmpty then 0 else 1) < 30)) = true:=by rfl)
    (hline:(apos.endLine == cpos.line) = true:=by rfl) (hst:starEach [e,e'] X.env = (false,eval e X.env) :: starEach [e'] X.env:=by rfl)
    (hpl:(backTo cpos (starEach [e'] X.env)).any (·.1) = false:=by rfl)
    (hs:swapsWith (.Call (.Attribute (.Name x npos) "insert" apos) [e,e'] [] cpos) none pos.line X.env = pure false:=by rfl) :
    QS X M (.Expr (.Call (.Attribute (.Name x npos) "insert" apos) [e,e'] [] cpos) pos) (ud i mr):=by
  obtain ⟨t,p,s⟩:=he
  refine ⟨_,gH (rD PySem.F.plainAttrs_list PySem.F.slot_list_insert PySem.F.type_list_insert sK (d6 hN hv hd hcd) p hbase hfew hline hst hpl) hs,fun C G ρ σ H n D hm hn r h k => ?_⟩
  unfold ud at h
  split at h
  · rename_i ds e1
    obtain ⟨O,ro⟩:=r
    obtain ⟨a,xs,h1,h2,_,_⟩:=ro.write e1 ho
    refine ⟨.ref a,h1,.inl ⟨rfl,xs,SqL.of h2⟩,?_⟩
    refine s C G ρ σ H [] _ _ ⟨O,ro⟩ h fun d ρ' v G' H' hq z kp r' pd _ => ?_
    split at hq
    · rename_i ds' e2
      obtain ⟨ns,kk,zz,rfl,rfl,hk1,hk2,hq⟩:=hq
      obtain ⟨O',r'⟩:=r'
      obtain ⟨a',xs',g1,g2,g3,g4⟩:=r'.write e2 ho
      rw [h1] at g1; cases g1
      have ex:xs' = ns.map V.int:=bV (Seps.imm _ _ _ _ (bZ ns) g3)
      subst ex
      refine ⟨a,ns,kk,zz,rfl,bV (ns:=[(kk:Int),zz]) pd,g2,hk1,hk2,?_⟩
      exact k.nx _ _ G' _ hq z ⟨O',g4 _ _ (Reps.sep _ _ _ _ (bZ _) (gt _))⟩
    · exact hq.elim
  · exact h.elim
def mAug (i:Nat) (g:Int → Int → Int) (m:ME):MS:=fun n ρ => match ρ[i]? with
  | some (some (.int x)) => m ρ fun d ρ1 => match d with
    | .int y => n.nx (ρ1.set i (some (.int (g x y))))
    | _ => False
  | _ => False
theorem vc {i:Nat} {x:Str} {e:Expr} {ma:ME} {op:Operator} {g:Int → Int → Int} {pos':Pos} (hN:X.N.Nodup) (hi:X.N[i]? = some x) (hx:Loc X.env.scope x) (hp:PIp X op (ipI g)) (he:QE X M.ow e ma) (ho:M.ow[i]? ≠ some true:=by decide) (hu:M.mu[i]? ≠ some true:=by decide)
    (hf:X.fn x = true ∨ X.env.scope.names.lookup x = some .local:=by first | exact .inl rfl | exact .inr rfl | assumption):QS X M (.AugAssign (.Name x pos') op e pos) (mAug i g ma):=by
  obtain ⟨t,p,s⟩:=he
  refine ⟨_,vD hN hi hx p hp hf,fun C G ρ σ H n D hm hn r h k => ?_⟩
  unfold mAug at h
  split at h
  · rename_i z ez
    have r0:=r
    obtain ⟨O,ro⟩:=r0
    obtain ⟨v,h1,h2⟩:=ro.sl i _ ez
    rw [if_neg ho] at h2
    refine ⟨v,h1,s C G ρ σ H [] _ _ r h fun d ρ' w G' H' hq zz kp r' pd => ?_⟩
    cases d with
    | int y =>
      obtain ⟨O',r'⟩:=r'
      exact ⟨z,y,aA h2,aA pd,k.nx _ _ G' H' hq zz ⟨O',r'.setS ho (hm.no hu) (bq _)⟩⟩
    | _ => exact hq.elim
  · exact h.elim
end
end L2
namespace L2
open PySem
def jJ (ws:List (List Int)):D:=.lst (ws.map ap)
def dH (ps:List Int) (as:List Ask):List (List Int):=as.map (az ps)
def qY:SpD:=fun ds q => ∃ ps rs as,ds = [aN ps rs,aT as] ∧ Tree ps rs ∧ AsksOk ps as ∧ q (jJ (dH ps as)) []
def wayF (ps:List Int):D → D
  | .tup [.int a,.int b,_,_] => ap (gx ps a b)
  | d => d
theorem rp (ps:List Int) (as:List Ask):(as.map bY).map (wayF ps) = (dH ps as).map ap:=by
  unfold dH; rw [List.map_map,List.map_map]; rfl
def lJ (rs:List Int) (s:Int) (w l:List Int):List Int:=w.filter fun t => decide (rs.getD (t - 1).toNat 0 < l.getD (t - 1).toNat 0 + s)
def rn:SpD:=fun ds q => ∃ ps rs a w l,ds = [aN ps rs,bY a,ap w,ap l] ∧ Tree ps rs ∧ (∀ t ∈ w,0 < t ∧ t ≤ (ps.length:Int)) ∧ w.length ≤ 1000 ∧ l.length = ps.length ∧ q (ap (lJ rs a.size w l)) []
def kK (rs:List Int) (s:Int) (l:List Int):D → Option D
  | .int t => if decide (rs.getD (t - 1).toNat 0 < l.getD (t - 1).toNat 0 + s) = true then some (.int t) else none
  | _ => none
theorem iu (rs:List Int) (s:Int) (l:List Int):∀ w:List Int,(w.map D.int).filterMap (kK rs s l) = (lJ rs s w l).map D.int
  | [] => rfl
  | t :: w => by
    have ih:=iu rs s l w
    unfold lJ at *
    rw [List.map_cons,List.filterMap_cons,List.filter_cons]
    have e:kK rs s l (.int t) = if decide (rs.getD (t - 1).toNat 0 < l.getD (t - 1).toNat 0 + s) = true then some (.int t) else none:=rfl
    rw [e]
    by_cases h:decide (rs.getD (t - 1).toNat 0 < l.getD (t - 1).toNat 0 + s) = true
    · rw [if_pos h,if_pos h]; simp only [List.map_cons]; rw [ih]
    · rw [if_neg h,if_neg h]; simp only; rw [ih]
def bP (as:List Ask):Bool:=as.all fun a => decide (a.size = 1)
def vX:SpD:=fun ds q => ∃ ps as,ds = [aT as] ∧ AsksOk ps as ∧ q (.bl (bP as)) []
def oneF:D → D
  | .tup [_,_,.int s,_] => .bl (decide (s = 1))
  | d => d
theorem qh (as:List Ask):(as.map bY).map oneF = (as.map fun a => decide (a.size = 1)).map D.bl:=by rw [List.map_map,List.map_map]; rfl
def fk (ps rs:List Int) (a:Ask):Bool:=(az ps a).any fun t => decide (rs.getD (t - 1).toNat 0 < 2 * a.size)
def vm:SpD:=fun ds q => ∃ ps rs a,ds = [aN ps rs,bY a] ∧ Tree ps rs ∧ AskOk ps a ∧ q (.bl (fk ps rs a)) []
def uE (rs:List Int) (s:Int):D → D
  | .int t => .bl (decide (rs.getD (t - 1).toNat 0 < 2 * s))
  | d => d
theorem pA (rs:List Int) (s:Int) (w:List Int):(w.map D.int).map (uE rs s) = (w.map fun t => decide (rs.getD (t - 1).toNat 0 < 2 * s)).map D.bl:=by rw [List.map_map,List.map_map]; rfl
def qA:SpD:=fun ds q => ∃ ps rs as,ds = [aN ps rs,aT as] ∧ Tree ps rs ∧ AsksOk ps as ∧ (∀ a ∈ as,fk ps rs a = false) ∧ q .non []
def fm (a:Ask):Rat:=Rat.divInt a.worth a.size
theorem kB {ps:List Int} {a:Ask} (h:AskOk ps a):Bt (fm a) 40:=Bt.divInt (by have:=h.s0; omega) (by have:=h.w0; have:=h.w1; omega) (by have:=h.s0; have:=h.s1; omega)
def wu:SpD:=fun ds q => ∃ ps a,ds = [bY a] ∧ AskOk ps a ∧ q (dQ (fm a)) []
def aK (as:List Ask) (k:Int):Rat:=fm (as.getD k.toNat cw)
def qC (as:List Ask) (i j:Int):Prop:=aK as j < aK as i ∨ (aK as i = aK as j ∧ i < j)
structure OrdN (as:List Ask) (n:Nat) (o:List Int):Prop where
  len:o.length = n
  nd:o.Nodup
  mem:∀ k,k ∈ o ↔ 0 ≤ k ∧ k < (n:Int)
  up:o.Pairwise (qC as)
def rA:SpD:=fun ds q => ∃ ps as,ds = [aT as] ∧ AsksOk ps as ∧ ∀ o,OrdN as as.length o → q (ap o) []
theorem OrdN.nil (as:List Ask):OrdN as 0 []:=⟨rfl,.nil,fun k => by simp; try omega,.nil⟩
theorem OrdN.ins {as:List Ask} {n p:Nat} {o:List Int} (h:OrdN as n o) (hp:p ≤ n) (h1:∀ (j:Nat) x,p ≤ j → o[j]? = some x → aK as x < aK as (n:Int)) (h2:∀ x,0 < p → o[p - 1]? = some x → ¬ aK as x < aK as (n:Int)):OrdN as (n + 1) (iG o p (n:Int)):=by
  have hl:=h.len
  have hnot:((n:Nat):Int) ∉ o:=fun hm => by have:=(h.mem _).mp hm; omega
  have perm:(iG o p (n:Int)).Perm ((n:Int) :: o):=by
    unfold iG
    refine List.perm_middle.trans ?_
    rw [List.take_append_drop]
  have hd:∀ y ∈ o.drop p,aK as y < aK as (n:Int):=fun y hy => by
    obtain ⟨j,hj⟩:=List.getElem?_of_mem hy
    rw [List.getElem?_drop] at hj
    exact h1 (p + j) y (by omega) hj
  have ht:∀ y ∈ o.take p,¬ aK as y < aK as (n:Int):=fun y hy => by
    obtain ⟨j,hj⟩:=List.getElem?_of_mem hy
    rw [List.getElem?_take] at hj
    split at hj
    · rename_i hjp
      have hlt:p - 1 < o.length:=by omega
      have e1:o[p - 1]? = some o[p - 1]:=List.getElem?_eq_getElem hlt
      have h3:=h2 _ (by omega) e1
      by_cases e:j = p - 1
      · rw [e,e1] at hj; injection hj with hj; rw [← hj]; exact h3
      · have hjl:j < o.length:=by omega
        rw [List.getElem?_eq_getElem hjl] at hj; injection hj with hj
        have:=List.pairwise_iff_getElem.mp h.up j (p - 1) hjl hlt (by omega)
        rw [hj] at this
        rcases this with h4 | ⟨h4,_⟩
        · intro h5; grind
        · rw [h4]; exact h3
    · cases hj
  refine ⟨by rw [perm.length_eq,List.length_cons,hl],perm.nodup_iff.mpr (List.nodup_cons.mpr ⟨hnot,h.nd⟩),fun k => ?_,?_⟩
  · rw [perm.mem_iff,List.mem_cons,h.mem]; omega
  · unfold iG
    have hu:=h.up
    rw [← List.take_append_drop p o,List.pairwise_append] at hu
    rw [List.pairwise_append,List.pairwise_cons]
    refine ⟨hu.1,⟨fun y hy => .inl (hd y hy),hu.2.1⟩,fun x hx y hy => ?_⟩
    rcases List.mem_cons.mp hy with rfl | hy
    · have h5:=ht x hx
      have hxo:=(h.mem x).mp (List.mem_of_mem_take hx)
      by_cases h6:aK as (n:Int) < aK as x
      · exact .inl h6
      · exact .inr ⟨by grind,hxo.2⟩
    · exact hu.2.2 x hx y hy
def uw (prs:List Rat):D → D
  | .int t => .bl (decide (prs.getD (t - 1).toNat 0 = 0))
  | d => d
theorem o6 (prs:List Rat) (w:List Int):(w.map D.int).map (uw prs) = (w.map fun t => decide (prs.getD (t - 1).toNat 0 = 0)).map D.bl:=by rw [List.map_map,List.map_map]; rfl
structure FS where
  keep:List Int
  load:List Int
  prices:List Rat
  sent:List Int
def aL (as:List Ask) (k:Int):Ask:=as.getD k.toNat cw
def eX (ps rs:List Int) (as:List Ask) (s:FS) (k:Int):List Int:=lJ rs (aL as k).size (az ps (aL as k)) s.load
def dz (prs:List Rat) (over:List Int):Bool:=over.all fun t => decide (prs.getD (t - 1).toNat 0 = 0)
def bW (ps rs:List Int) (as:List Ask) (s:FS) (k:Int):FS:=match eX ps rs as s k with
  | [] => ⟨s.keep ++ [k],cF s.load (az ps (aL as k)) (aL as k).size,s.prices,s.sent⟩
  | t :: ts => ⟨s.keep,s.load,if dz s.prices (t :: ts) = true then s.prices.set (t - 1).toNat (aK as k) else s.prices,s.sent ++ [k]⟩
def cS (ps:List Int):FS:=⟨[],List.replicate ps.length 0,List.replicate ps.length 0,[]⟩
def b5 (ps rs:List Int) (as:List Ask) (o:List Int):FS:=o.foldl (bW ps rs as) (cS ps)
theorem mX (ps rs:List Int) (as:List Ask) (o:List Int) (k:Int):b5 ps rs as (o ++ [k]) = bW ps rs as (b5 ps rs as o) k:=by unfold b5; rw [List.foldl_append]; rfl
def qv:SpD:=fun ds q => ∃ ps rs as o,ds = [aN ps rs,aT as,jJ (dH ps as),ap [],ap o] ∧ Tree ps rs ∧ AsksOk ps as ∧ o.length ≤ as.length ∧ (∀ k ∈ o,0 ≤ k ∧ k < (as.length:Int)) ∧
  q (.tup [ap (bO (b5 ps rs as o).keep),dQs (b5 ps rs as o).prices,ap (b5 ps rs as o).sent]) []
structure FillOk (ps:List Int) (n:Nat) (s:FS):Prop where
  kl:s.keep.length ≤ n
  sl:s.sent.length ≤ n
  ll:s.load.length = ps.length
  pl:s.prices.length = ps.length
  kr:∀ k ∈ s.keep,0 ≤ k
theorem nM (ps:List Int):FillOk ps 0 (cS ps):=⟨Nat.le_refl _,Nat.le_refl _,List.length_replicate ..,List.length_replicate ..,fun k h => by cases h⟩
theorem FillOk.step {ps rs:List Int} {as:List Ask} {n:Nat} {s:FS} {k:Int} (h:FillOk ps n s) (hk : 0 ≤ k):FillOk ps (n + 1) (bW ps rs as s k):=by
  unfold bW
  split
  · refine ⟨by simp; exact h.kl,by have:=h.sl; show s.sent.length ≤ n + 1; omega,?_,h.pl,fun z hz => ?_⟩
    · show (cF s.load _ _).length = _
      rw [dc]; exact h.ll
    · rcases List.mem_append.mp hz with hz | hz
      · exact h.kr z hz
      · rw [List.mem_singleton.mp hz]; exact hk
  · refine ⟨by have:=h.kl; show s.keep.length ≤ n + 1; omega,by simp; exact h.sl,h.ll,?_,h.kr⟩
    show (if _ then _ else _:List Rat).length = _
    split
    · rw [List.length_set]; exact h.pl
    · exact h.pl
theorem mS {ps rs:List Int} {as:List Ask}:∀ (o:List Int),(∀ k ∈ o,0 ≤ k) → FillOk ps o.length (b5 ps rs as o):=by
  intro o
  have key:∀ (o:List Int) (n:Nat) (s:FS),(∀ k ∈ o,0 ≤ k) → FillOk ps n s → FillOk ps (n + o.length) (o.foldl (bW ps rs as) s):=by
    intro o
    induction o with
    | nil => intro n s _ h; exact h
    | cons k o ih =>
      intro n s hk h
      have:=ih (n + 1) _ (fun z hz => hk z (.tail _ hz)) (h.step (rs:=rs) (as:=as) (hk k (.head _)))
      rw [List.length_cons,show n + (o.length + 1) = n + 1 + o.length by omega]; exact this
  intro hk
  have:=key o 0 _ hk (nM ps)
  rw [Nat.zero_add] at this; exact this
theorem OrdN.nn {as:List Ask} {n:Nat} {o:List Int} (h:OrdN as n o):∀ k ∈ o,0 ≤ k:=fun k hk => ((h.mem k).mp hk).1
def eZ (ps rs:List Int) (as:List Ask):Prop:=bP as = true ∨ ∀ a ∈ as,fk ps rs a = false
def qD:SpD:=fun ds q => ∃ ps rs as,ds = [aN ps rs,aT as] ∧ Tree ps rs ∧ AsksOk ps as ∧ eZ ps rs as ∧
  ∀ o,OrdN as as.length o → q (.tup [ap (bO (b5 ps rs as o).keep),dQs (b5 ps rs as o).prices]) []
def pX:SpD:=fun ds q => ∃ c m most,ds = [ap [c,m],.int most] ∧ 0 ≤ c ∧ 1 ≤ most ∧ most ≤ 1000000000000 ∧ ∀ n c' m',1 ≤ n → n ≤ most → 0 ≤ c' → q (.int n) [some (ap [c',m'])]
structure ParOk (ps:List Int):Prop where
  lo : 1 ≤ ps.length
  hi:ps.length ≤ 23
  par:∀ (i:Nat) (x:Int),ps[i]? = some x → 0 ≤ x ∧ x ≤ i
structure RoomOk (n:Nat) (least:Int) (rs:List Int):Prop where
  len:rs.length = n
  room:∀ (i:Nat) (x:Int),rs[i]? = some x → least ≤ x ∧ x ≤ 1000000
theorem ParOk.tree {ps rs:List Int} {least:Int} (h:ParOk ps) (r:RoomOk ps.length least rs) (hl : 1 ≤ least):Tree ps rs:=⟨r.len.symm,h.lo,h.hi,h.par,fun i x e => by have:=r.room i x e; omega⟩
def oW:SpD:=fun ds q => ∃ c m most,ds = [ap [c,m],.int most] ∧ 0 ≤ c ∧ 1 ≤ most ∧ most ≤ 23 ∧ ∀ ps c' m',ParOk ps → (ps.length:Int) ≤ most → 0 ≤ c' → q (ap ps) [some (ap [c',m'])]
def sV:SpD:=fun ds q => ∃ c m n least,ds = [ap [c,m],.int ((n:Nat):Int),.int least] ∧ 0 ≤ c ∧ 1 ≤ n ∧ n ≤ 23 ∧ 1 ≤ least ∧ least ≤ 2 ∧ ∀ rs c' m',RoomOk n least rs → 0 ≤ c' → q (ap rs) [some (ap [c',m'])]
def tj:SpD:=fun ds q => ∃ c m n,ds = [ap [c,m],.int ((n:Nat):Int)] ∧ 0 ≤ c ∧ 1 ≤ n ∧ n ≤ 23 ∧ ∀ a b c' m',0 ≤ a → a ≤ (n:Int) → 0 ≤ b → b ≤ (n:Int) → a ≠ b → 0 ≤ c' → q (.tup [.int a,.int b]) [some (ap [c',m'])]
def sdUpP:SpD:=fun ds q => ∃ ps rs k,ds = [ap ps,.int k] ∧ Tree ps rs ∧ 0 ≤ k ∧ k ≤ ps.length ∧ ∀ v,Up ps k (v ++ [0]) → q (ap v) []
def uM:SpD:=fun ds q => ∃ ps rs a b rest,ds = [ap ps,.tup (.int a :: .int b :: rest)] ∧ Tree ps rs ∧ 0 ≤ a ∧ a ≤ ps.length ∧ 0 ≤ b ∧ b ≤ ps.length ∧ q (ap (gx ps a b)) []
theorem Up.split {ps:List Int} {k:Int} {u:List Int} (h:Up ps k u):∃ v,u = v ++ [0]:=by
  induction h with
  | zero => exact ⟨[],rfl⟩
  | step hk h ih => obtain ⟨v,e⟩:=ih; exact ⟨_ :: v,by rw [e]; rfl⟩
theorem Up.pos {ps rs:List Int} (hT:Tree ps rs) {k:Int} {v:List Int} (h:Up ps k (v ++ [0])) (hk:k ≤ ps.length):∀ x ∈ v,0 < x:=by
  intro x hx
  have:=(List.pairwise_append.mp (h.dec hT hk)).2.2 x hx 0 (.head _)
  exact this
theorem iz {p q:Int → Bool}:∀ {l:List Int},(∀ x ∈ l,p x = q x) → l.filter p = l.filter q:=fun h => List.filter_congr h
theorem sv {ps rs:List Int} (hT:Tree ps rs) {a b:Int} (a0 : 0 ≤ a) (b0 : 0 ≤ b) (a1:a ≤ ps.length) (b1:b ≤ ps.length) {va vb:List Int} (hua:Up ps a (va ++ [0])) (hub:Up ps b (vb ++ [0])) :
    gx ps a b = bO (va.filter (fun x => !vb.contains x) ++ vb.filter (fun x => !va.contains x)):=by
  obtain ⟨w,hw,e⟩:=fR hT a0 b0 a1 b1
  have hm:=hw.low hT a0 b0 a1 b1
  obtain ⟨um,hum⟩:=Up.all hT _ (gC ps a b) rfl hm.1 (by omega)
  have hp:=hw.perm hT a0 b0 a1 b1 hua hub hum
  obtain ⟨ma,mb,mx⟩:=hw.meet hT a0 b0 a1 b1 hua hub
  obtain ⟨va',hsp⟩:=hum.split
  have h0:(0:Int) ∈ um:=by rw [hsp]; simp
  have pa:=Up.pos hT hua a1
  have pb:=Up.pos hT hub b1
  have inA:∀ x,x ∈ um → x ∈ va ++ [0]:=fun x hx => by
    obtain ⟨uy,h1,_,h3⟩:=hua.chain hT a1 (x:=gC ps a b) (y:=gC ps a b) ma ma (Int.le_refl _)
    rw [← hum.det h1] at h3; exact h3 x hx
  have inB:∀ x,x ∈ um → x ∈ vb ++ [0]:=fun x hx => by
    obtain ⟨uy,h1,_,h3⟩:=hub.chain hT b1 (x:=gC ps a b) (y:=gC ps a b) mb mb (Int.le_refl _)
    rw [← hum.det h1] at h3; exact h3 x hx
  have both:∀ x,x ∈ va ++ [0] → x ∈ vb ++ [0] → x ∈ um:=fun x h1 h2 => by
    obtain ⟨uy,h3,h4,_⟩:=hua.chain hT a1 h1 ma (mx x h1 h2)
    rw [hum.det h3]; exact h4
  have ea:va.filter (fun x => !um.contains x) = va.filter (fun x => !vb.contains x):=iz fun x hx => by
    have hx0:=pa x hx
    have:(x ∈ um) ↔ (x ∈ vb):=⟨fun h => by rcases List.mem_append.mp (inB x h) with h | h; exact h; have:=List.mem_singleton.mp h; omega,fun h => both x (List.mem_append.mpr (.inl hx)) (List.mem_append.mpr (.inl h))⟩
    have e2:um.contains x = vb.contains x:=by rw [Bool.eq_iff_iff,List.contains_iff_mem,List.contains_iff_mem]; exact this
    show (!um.contains x) = (!vb.contains x)
    rw [e2]
  have eb:vb.filter (fun x => !um.contains x) = vb.filter (fun x => !va.contains x):=iz fun x hx => by
    have hx0:=pb x hx
    have:(x ∈ um) ↔ (x ∈ va):=⟨fun h => by rcases List.mem_append.mp (inA x h) with h | h; exact h; have:=List.mem_singleton.mp h; omega,fun h => both x (List.mem_append.mpr (.inl h)) (List.mem_append.mpr (.inl hx))⟩
    have e2:um.contains x = va.contains x:=by rw [Bool.eq_iff_iff,List.contains_iff_mem,List.contains_iff_mem]; exact this
    show (!um.contains x) = (!va.contains x)
    rw [e2]
  have e0:([(0:Int)].filter fun x => !um.contains x) = []:=by
    rw [List.filter_cons_of_neg]; rfl
    rw [List.contains_iff_mem.mpr h0]; decide
  rw [List.filter_append,List.filter_append,List.filter_append,e0,List.append_nil,List.append_nil,ea,eb] at hp
  rw [e]
  exact lj ((bN w).trans hp) (db w)
def rL:D → D
  | .int t => .int (t - 1)
  | d => d
theorem nh (rs:List Int):(rs.map D.int).map rL = (rs.map fun x => x - 1).map D.int:=by rw [List.map_map,List.map_map]; rfl
def wy:SpD:=fun ds q => ∃ c m ps rs,ds = [ap [c,m],aN ps rs] ∧ 0 ≤ c ∧ Tree ps rs ∧ (∀ (i:Nat) (x:Int),rs[i]? = some x → 2 ≤ x) ∧ ∀ a c' m',AskOk ps a → fk ps rs a = false → 0 ≤ c' → q (bY a) [some (ap [c',m'])]
def uJ (rs:List Int):D → D
  | .int t => .int (rs.getD (t - 1).toNat 0)
  | d => d
theorem pC (rs w:List Int):(w.map D.int).map (uJ rs) = (w.map fun t => rs.getD (t - 1).toNat 0).map D.int:=by rw [List.map_map,List.map_map]; rfl
end L2
namespace L2
open PySem PySem.Spec PyProof.Rows
section
variable {X:Cx}
theorem oC (hc:X.calm = true):cC X (.builtin "min") (fun xs H Q => ∃ (p:Addr) (ns:List Int),xs = [.ref p] ∧ SqL X.K H p (ns.map V.int) ∧ 0 < ns.length ∧ ∀ m,m ∈ ns → (∀ a,a ∈ ns → m ≤ a) → Q (.int m) H):=by
  intro pins s σ H xs us Q I r h
  obtain ⟨p,ns,rfl,hS,hne,q⟩:=h
  obtain ⟨u,rfl,ru⟩:=eW r
  cases ru
  obtain ⟨its,rv,hl⟩:=dj I hS
  have hI₂:IntsAre its ns:=d7 rv
  obtain ⟨ys,hys⟩:=hI₂.allInts.items
  have hlY:s.heap.IsList p (intItems ys):=hys ▸ hl
  have eY:ns = ys.toList.map (·.1):=by
    rw [← nums_intItems,← hys]; exact Eq.symm (show numsOf its.toArray.toList = ns from hI₂.numsOf)
  have hsz : 0 < ys.size:=by rw [eY,List.length_map,Array.length_toList] at hne; exact hne
  refine min_intList (I.ok.hd hc) hlY hsz fun v hp tk₁ hv kept => ?_
  obtain ⟨t,rfl⟩:=intItems_at hv
  obtain ⟨h1,h2⟩:=argBest_lt (numAt ys) (ys.size - 1)
  refine ⟨.int _,H,I.kept kept,⟨t,rfl⟩,q _ ?_ fun a ha => ?_⟩
  · rw [numAt_eq,eY]; exact PySem.getD_mem (by rw [List.length_map,Array.length_toList]; omega)
  · rw [eY] at ha
    obtain ⟨j,hj,rfl⟩:=PySem.mem_getD ha
    rw [List.length_map,Array.length_toList] at hj
    rw [← numAt_eq]; exact h2 j (by omega)
end
def uC:List D → (D → Prop) → Prop:=fun ds q => match ds with
  | [.lst xs] => ∃ ns:List Int,xs = ns.map D.int ∧ 0 < ns.length ∧ ∀ m,m ∈ ns → (∀ a,a ∈ ns → m ≤ a) → q (.int m)
  | _ => False
theorem dMinL {K:PySem.W.Frag}:dW (fun xs H Q => ∃ (p:Addr) (ns:List Int),xs = [.ref p] ∧ SqL K H p (ns.map V.int) ∧ 0 < ns.length ∧ ∀ m,m ∈ ns → (∀ a,a ∈ ns → m ≤ a) → Q (.int m) H) uC:=fun G H xs ds q Q s p hf k => by
  unfold uC at hf
  split at hf
  · obtain ⟨v,rfl,p1⟩:=bA p
    obtain ⟨a,xs,rfl,h1,h2⟩:=bi p1
    obtain ⟨ns,rfl,hn,hq⟩:=hf
    rw [bV h2] at h1
    exact ⟨a,ns,rfl,SqL.of (s _ _ h1),hn,fun m hm hx => k _ _ (hq m hm hx) (bq _)⟩
  · exact hf.elim
end L2
namespace L2
open PySem
theorem fL {ps:List Int} {a:Ask} (h:AskOk ps a):fm a * (a.size:Rat) = (a.worth:Rat):=by
  have hs:(a.size:Rat) ≠ 0:=fun e => by
    have:=Rat.intCast_inj.mp (e.trans (show (0:Rat) = ((0:Int):Rat) from rfl)); have:=h.s0; omega
  unfold fm
  rw [Rat.divInt_eq_div]
  grind
theorem eM {ps:List Int} {a:Ask} (h:AskOk ps a):(0:Rat) < (a.size:Rat):=Rat.intCast_pos.mpr (by have:=h.s0; omega)
theorem jc {ps:List Int} {a:Ask} (h:AskOk ps a):(0:Rat) < (a.worth:Rat):=Rat.intCast_pos.mpr (by have:=h.w0; omega)
theorem fX {ps:List Int} {a:Ask} (h:AskOk ps a) : 0 < fm a:=by
  have h1:=fL h
  have h2:=eM h
  have h3:=jc h
  refine Rat.not_le.mp fun h4 => ?_
  have:=Rat.mul_le_mul_of_nonneg_right h4 (Rat.le_of_lt h2)
  rw [h1,Rat.zero_mul] at this
  grind
theorem fA (f:Rat → Rat) (hf:f 0 = 0) {prs:List Rat} {i:Nat} {y:Rat} (hi:i < prs.length) (h0:prs.getD i 0 = 0):∀ {w:List Int},w.Nodup → (∀ t ∈ w,0 < t) →
    (w.map fun t => f ((prs.set i y).getD (t - 1).toNat 0)).sum = (w.map fun t => f (prs.getD (t - 1).toNat 0)).sum + (if w.contains ((i:Int) + 1) = true then f y else 0)
  | [],_,_ => by show (0:Rat) = 0 + 0; rw [Rat.add_zero]
  | t :: w,hn,hw => by
    rw [List.nodup_cons] at hn
    have ih:=fA f hf (y:=y) hi h0 hn.2 fun t ht => hw t (.tail _ ht)
    have ht:=hw t (.head _)
    rw [List.map_cons,List.map_cons,List.sum_cons,List.sum_cons,ih]
    by_cases e:t = (i:Int) + 1
    · have e1:(t - 1).toNat = i:=by omega
      have e2:(prs.set i y).getD i 0 = y:=by rw [List.getD_eq_getElem?_getD,List.getElem?_set_self hi]; rfl
      have e3:w.contains ((i:Int) + 1) = false:=by
        rw [Bool.eq_false_iff]; intro h; rw [List.contains_iff_mem,← e] at h; exact hn.1 h
      have e4:(t :: w).contains ((i:Int) + 1) = true:=by rw [List.contains_iff_mem,e]; exact .head _
      rw [e1,e2,h0,hf,e3,e4]
      simp only [Bool.false_eq_true,if_false,if_true]
      grind
    · have e1:(t - 1).toNat ≠ i:=by omega
      have e2:(prs.set i y).getD (t - 1).toNat 0 = prs.getD (t - 1).toNat 0:=by rw [List.getD_eq_getElem?_getD,List.getElem?_set_ne (Ne.symm e1),← List.getD_eq_getElem?_getD]
      have e4:(t :: w).contains ((i:Int) + 1) = w.contains ((i:Int) + 1):=by
        rw [Bool.eq_iff_iff,List.contains_iff_mem,List.contains_iff_mem,List.mem_cons]
        exact ⟨fun h => h.resolve_left fun z => e z.symm,.inr⟩
      rw [e2,e4]; grind
theorem jC:∀ {rs:List Int} {prs:List Rat} {i:Nat} (y:Rat),i < rs.length → i < prs.length → prs.getD i 0 = 0 → (aq rs (prs.set i y)).sum = (aq rs prs).sum + ((rs.getD i 0:Int):Rat) * y
  | [],_,_,_,h,_,_ => by simp at h
  | _ :: _,[],_,_,_,h,_ => by simp at h
  | x :: rs,p :: prs,0,y,_,_,h0 => by
    have h0:p = 0:=h0
    subst h0
    show ((x:Rat) * y :: aq rs prs).sum = ((x:Rat) * 0 :: aq rs prs).sum + (x:Rat) * y
    rw [List.sum_cons,List.sum_cons]; grind
  | x :: rs,p :: prs,i + 1,y,h1,h2,h0 => by
    have ih:=jC (rs:=rs) (prs:=prs) (i:=i) y (by simpa using h1) (by simpa using h2) (by simpa using h0)
    show ((x:Rat) * p :: aq rs (prs.set i y)).sum = ((x:Rat) * p :: aq rs prs).sum + ((rs.getD i 0:Int):Rat) * y
    rw [List.sum_cons,List.sum_cons,ih]; grind
def fj (r p:Rat):Rat:=if p ≤ r then p else 0
def cz (ps:List Int) (as:List Ask) (prs:List Rat) (k:Int):Rat:=((az ps (aL as k)).map fun t => fj (aK as k) (prs.getD (t - 1).toNat 0)).sum
structure FillI (ps rs:List Int) (as:List Ask) (c:Rat) (S:FS) (r:List Int):Prop where
  ll:S.load.length = ps.length
  pl:S.prices.length = ps.length
  load:S.load = aZ ps as S.keep
  kr:∀ k ∈ S.keep,0 ≤ k ∧ k < (as.length:Int)
  fit:∀ j:Nat,j < ps.length → S.load.getD j 0 ≤ rs.getD j 0
  nn:∀ j:Nat,0 ≤ S.prices.getD j 0
  above:∀ j:Nat,S.prices.getD j 0 = 0 ∨ ∀ k ∈ r,aK as k ≤ S.prices.getD j 0
  kab:∀ k ∈ S.keep,∀ j ∈ r,aK as j ≤ aK as k
  sr:∀ k ∈ S.sent,0 ≤ k ∧ k < (as.length:Int)
  full:∀ k ∈ S.sent,∃ t ∈ az ps (aL as k),rs.getD (t - 1).toNat 0 < S.load.getD (t - 1).toNat 0 + (aL as k).size
  paid:∀ k ∈ S.sent,aK as k ≤ b3 ps (aL as k) S.prices
  cred:(aq rs S.prices).sum ≤ c * (S.keep.map fun k => ((aL as k).size:Rat) * cz ps as S.prices k).sum
theorem b_ {ps:List Int} {as:List Ask} (ha:AsksOk ps as) {k:Int} (h0 : 0 ≤ k) (h1:k < (as.length:Int)):AskOk ps (aL as k):=ha.ok _ (cj (k:=k.toNat) (by omega))
theorem eQ {ps rs:List Int} {as:List Ask} (hT:Tree ps rs) (ha:AsksOk ps as) {k:Int} (h0 : 0 ≤ k) (h1:k < (as.length:Int)):(az ps (aL as k)).Nodup ∧ ∀ t ∈ az ps (aL as k),0 < t ∧ t ≤ (ps.length:Int) :=
  ⟨i5 hT (b_ ha h0 h1).ends,fun t ht => cb hT (b_ ha h0 h1).ends ht⟩
theorem p5 {l:List Rat} (h:∀ j:Nat,0 ≤ l.getD j 0) (w:List Int) : 0 ≤ (w.map fun t => l.getD (t - 1).toNat 0).sum:=f6 fun x hx => by
  obtain ⟨t,_,rfl⟩:=List.mem_map.mp hx; exact h _
theorem om {ps:List Int} {as:List Ask} {prs:List Rat} (h:∀ j:Nat,0 ≤ prs.getD j 0) (k:Int) : 0 ≤ cz ps as prs k:=f6 fun x hx => by
  obtain ⟨t,_,rfl⟩:=List.mem_map.mp hx
  unfold fj; split
  · exact h _
  · exact Rat.le_refl
theorem ng {w:List Int} {f:Int → Rat} (hf:∀ t,0 ≤ f t) {t:Int} (ht:t ∈ w):f t ≤ (w.map f).sum:=by
  induction w with
  | nil => cases ht
  | cons x w ih =>
    rw [List.map_cons,List.sum_cons]
    have h2 : 0 ≤ (w.map f).sum:=f6 fun y hy => by obtain ⟨z,_,rfl⟩:=List.mem_map.mp hy; exact hf z
    rcases List.mem_cons.mp ht with rfl | ht
    · grind
    · have:=ih ht; have:=hf x; grind
theorem nY (ps:List Int) (a:Ask) (prs:List Rat):b3 ps a prs = ((az ps a).map fun t => prs.getD (t - 1).toNat 0).sum:=rfl
theorem sf {ps rs:List Int} {as:List Ask} (hT:Tree ps rs) (ha:AsksOk ps as) {ks:List Int} (hk:∀ k ∈ ks,0 ≤ k ∧ k < (as.length:Int)) {j:Nat} (hj:j < ps.length):(aZ ps as ks).getD j 0 = (ks.map (gD ps as ((j:Int) + 1))).sum:=lI hT ha hj ks hk
theorem k8 (f:Int → Int):∀ l:List Int,(((l.map f).sum:Int):Rat) = (l.map fun k => ((f k:Int):Rat)).sum
  | [] => rfl
  | x :: l => by rw [List.map_cons,List.map_cons,List.sum_cons,List.sum_cons,Rat.intCast_add,k8 f l]
theorem FillI.step {ps rs:List Int} {as:List Ask} {c:Rat} {S:FS} {k:Int} {r:List Int} (hT:Tree ps rs) (ha:AsksOk ps as) (hc : 0 ≤ c) (h:FillI ps rs as c S (k :: r)) (hr:∀ j ∈ r,aK as j ≤ aK as k) (k0 : 0 ≤ k) (k1:k < (as.length:Int))
    (hC:∀ t ∈ az ps (aL as k),∀ l:Int,rs.getD (t - 1).toNat 0 < l + (aL as k).size → ((rs.getD (t - 1).toNat 0:Int):Rat) ≤ c * (l:Rat)):FillI ps rs as c (bW ps rs as S k) r:=by
  have hlr:=hT.len
  have hok:=b_ ha k0 k1
  have hw:=eQ hT ha k0 k1
  have ef:bW ps rs as S k = (match eX ps rs as S k with
      | [] => ⟨S.keep ++ [k],cF S.load (az ps (aL as k)) (aL as k).size,S.prices,S.sent⟩
      | t :: ts => ⟨S.keep,S.load,if dz S.prices (t :: ts) = true then S.prices.set (t - 1).toNat (aK as k) else S.prices,S.sent ++ [k]⟩):=rfl
  rw [ef]
  cases hov:eX ps rs as S k with
  | nil =>
    have hno:∀ t ∈ az ps (aL as k),S.load.getD (t - 1).toNat 0 + (aL as k).size ≤ rs.getD (t - 1).toNat 0:=fun t ht => by
      have:=List.filter_eq_nil_iff.mp hov t ht
      rw [decide_eq_true_iff] at this; omega
    have hat:∀ j:Nat,(cF S.load (az ps (aL as k)) (aL as k).size).getD j 0 = S.load.getD j 0 + cnt ((j:Int) + 1) (az ps (aL as k)) (aL as k).size:=fun j => fM hw.1 (by rw [h.ll]; exact hw.2)
    have hcn:∀ j:Nat,0 ≤ cnt ((j:Int) + 1) (az ps (aL as k)) (aL as k).size:=fun j => by
      unfold cnt; have:=hok.s0; split <;> omega
    refine ⟨by show (cF _ _ _).length = _; rw [dc]; exact h.ll,h.pl,?_,fun z hz => ?_,fun j hj => ?_,h.nn,fun j => (h.above j).imp_right fun g z hz => g z (.tail _ hz),fun z hz j hj => ?_,h.sr,fun z hz => ?_,h.paid,?_⟩
    · show cF S.load _ _ = aZ ps as (S.keep ++ [k])
      rw [eC,← h.load]; rfl
    · rcases List.mem_append.mp hz with hz | hz
      · exact h.kr z hz
      · rw [List.mem_singleton.mp hz]; exact ⟨k0,k1⟩
    · show (cF S.load _ _).getD j 0 ≤ _
      rw [hat]
      have h1:=h.fit j hj
      unfold cnt
      split
      · rename_i hm
        have:=hno _ (List.contains_iff_mem.mp hm)
        rw [show ((j:Int) + 1 - 1).toNat = j by omega] at this; exact this
      · omega
    · rcases List.mem_append.mp hz with hz | hz
      · exact h.kab z hz j (.tail _ hj)
      · rw [List.mem_singleton.mp hz]; exact hr j hj
    · obtain ⟨t,ht,hlt⟩:=h.full z hz
      refine ⟨t,ht,?_⟩
      show _ < (cF S.load _ _).getD (t - 1).toNat 0 + _
      rw [hat]; have:=hcn (t - 1).toNat; omega
    · show (aq rs S.prices).sum ≤ c * ((S.keep ++ [k]).map _).sum
      refine Rat.le_trans h.cred (Rat.mul_le_mul_of_nonneg_left ?_ hc)
      rw [List.map_append,List.sum_append,List.map_cons,List.map_nil,List.sum_cons,List.sum_nil]
      have h1:=om (ps:=ps) (as:=as) h.nn k
      have h2:=Rat.mul_nonneg (Rat.le_of_lt (eM hok)) h1
      grind
  | cons t ts =>
    have htm:t ∈ eX ps rs as S k:=by rw [hov]; exact .head _
    obtain ⟨htw,hlt⟩:=List.mem_filter.mp htm
    rw [decide_eq_true_iff] at hlt
    have ht0:=hw.2 t htw
    have hfull:∃ t ∈ az ps (aL as k),rs.getD (t - 1).toNat 0 < S.load.getD (t - 1).toNat 0 + (aL as k).size:=⟨t,htw,hlt⟩
    have hsr:∀ z ∈ S.sent ++ [k],0 ≤ z ∧ z < (as.length:Int):=fun z hz => by
      rcases List.mem_append.mp hz with hz | hz
      · exact h.sr z hz
      · rw [List.mem_singleton.mp hz]; exact ⟨k0,k1⟩
    have hfl:∀ z ∈ S.sent ++ [k],∃ t ∈ az ps (aL as z),rs.getD (t - 1).toNat 0 < S.load.getD (t - 1).toNat 0 + (aL as z).size:=fun z hz => by
      rcases List.mem_append.mp hz with hz | hz
      · exact h.full z hz
      · rw [List.mem_singleton.mp hz]; exact hfull
    have hkab:∀ z ∈ S.keep,∀ j ∈ r,aK as j ≤ aK as z:=fun z hz j hj => h.kab z hz j (.tail _ hj)
    by_cases hp:dz S.prices (t :: ts) = true
    · simp only [if_pos hp]
      have hz0:S.prices.getD (t - 1).toNat 0 = 0:=by
        have:=List.all_eq_true.mp hp t (.head _)
        rw [decide_eq_true_iff] at this; exact this
      obtain ⟨i,hi⟩:∃ i:Nat,t = (i:Int) + 1:=⟨(t - 1).toNat,by omega⟩
      have ei:(t - 1).toNat = i:=by omega
      rw [ei] at hz0 hlt ⊢
      have hil:i < S.prices.length:=by rw [h.pl]; omega
      have hy:=fX hok
      have hyk:aK as k = fm (aL as k):=rfl
      have hget:∀ j:Nat,(S.prices.set i (aK as k)).getD j 0 = if j = i then aK as k else S.prices.getD j 0:=fun j => by
        rw [List.getD_eq_getElem?_getD]
        by_cases e:j = i
        · rw [e,List.getElem?_set_self hil,if_pos rfl]; rfl
        · rw [List.getElem?_set_ne (Ne.symm e),if_neg e,← List.getD_eq_getElem?_getD]
      have hpaid:∀ z,0 ≤ z → z < (as.length:Int) → b3 ps (aL as z) (S.prices.set i (aK as k)) = b3 ps (aL as z) S.prices + if (az ps (aL as z)).contains ((i:Int) + 1) = true then aK as k else 0:=fun z z0 z1 => by
        have hwz:=eQ hT ha z0 z1
        exact fA (fun x => x) rfl hil hz0 hwz.1 fun t ht => (hwz.2 t ht).1
      refine ⟨h.ll,by show (List.set _ _ _).length = _; rw [List.length_set]; exact h.pl,h.load,h.kr,h.fit,fun j => ?_,fun j => ?_,hkab,hsr,hfl,fun z hz => ?_,?_⟩
      · show 0 ≤ (S.prices.set i (aK as k)).getD j 0
        rw [hget]; split
        · rw [hyk]; exact Rat.le_of_lt hy
        · exact h.nn j
      · show (S.prices.set i (aK as k)).getD j 0 = 0 ∨ _
        by_cases e:j = i
        · right; intro z hz
          show _ ≤ (S.prices.set i (aK as k)).getD j 0
          rw [hget,if_pos e]; exact hr z hz
        · rcases h.above j with g | g
          · left; rw [hget,if_neg e]; exact g
          · right; intro z hz
            show _ ≤ (S.prices.set i (aK as k)).getD j 0
            rw [hget,if_neg e]; exact g z (.tail _ hz)
      · show _ ≤ b3 ps (aL as z) (S.prices.set i (aK as k))
        have hz1:=hsr z hz
        rw [hpaid z hz1.1 hz1.2]
        rcases List.mem_append.mp hz with hz | hz
        · have:=h.paid z hz
          split
          · rw [hyk]; grind
          · grind
        · rw [List.mem_singleton.mp hz]
          have e:(az ps (aL as k)).contains ((i:Int) + 1) = true:=by rw [List.contains_iff_mem,← hi]; exact htw
          rw [if_pos e]
          have:=p5 h.nn (az ps (aL as k))
          rw [nY]; grind
      · show (aq rs (S.prices.set i (aK as k))).sum ≤ c * (S.keep.map fun z => ((aL as z).size:Rat) * cz ps as (S.prices.set i (aK as k)) z).sum
        rw [jC _ (by omega) hil hz0]
        have hcr:∀ z ∈ S.keep,((aL as z).size:Rat) * cz ps as (S.prices.set i (aK as k)) z = ((aL as z).size:Rat) * cz ps as S.prices z + ((gD ps as ((i:Int) + 1) z:Int):Rat) * aK as k:=fun z hz => by
          have hz1:=h.kr z hz
          have hwz:=eQ hT ha hz1.1 hz1.2
          have hrz:=fX (b_ ha hz1.1 hz1.2)
          have hle:=h.kab z hz k (.head _)
          have h0:fj (aK as z) 0 = 0:=by unfold fj; split <;> rfl
          have h1:fj (aK as z) (aK as k) = aK as k:=by unfold fj; rw [if_pos hle]
          have e:=fA (fj (aK as z)) h0 (y:=aK as k) hil hz0 hwz.1 fun t ht => (hwz.2 t ht).1
          have e2:cz ps as (S.prices.set i (aK as k)) z = cz ps as S.prices z + (if (az ps (aL as z)).contains ((i:Int) + 1) = true then aK as k else 0):=by rw [h1] at e; exact e
          rw [e2]
          have e3:gD ps as ((i:Int) + 1) z = if (az ps (aL as z)).contains ((i:Int) + 1) = true then (aL as z).size else 0:=rfl
          rw [e3]
          split
          · grind
          · rw [show (((0:Int)):Rat) = 0 from rfl]; grind
        have hsum:(S.keep.map fun z => ((aL as z).size:Rat) * cz ps as (S.prices.set i (aK as k)) z).sum = (S.keep.map fun z => ((aL as z).size:Rat) * cz ps as S.prices z).sum + ((S.load.getD i 0:Int):Rat) * aK as k:=by
          rw [h.load,sf hT ha h.kr (by omega),k8]
          have key:∀ l:List Int,(∀ z ∈ l,z ∈ S.keep) → (l.map fun z => ((aL as z).size:Rat) * cz ps as (S.prices.set i (aK as k)) z).sum = (l.map fun z => ((aL as z).size:Rat) * cz ps as S.prices z).sum + (l.map fun z => ((gD ps as ((i:Int) + 1) z:Int):Rat)).sum * aK as k:=by
            intro l
            induction l with
            | nil => intro _; show (0:Rat) = 0 + 0 * _; rw [Rat.zero_mul,Rat.add_zero]
            | cons z l ih =>
              intro hl
              rw [List.map_cons,List.map_cons,List.map_cons,List.sum_cons,List.sum_cons,List.sum_cons,ih fun x hx => hl x (.tail _ hx),hcr z (hl z (.head _))]
              grind
          exact key S.keep fun z hz => hz
        rw [hsum]
        have h1:=h.cred
        have h2:=hC t htw (S.load.getD i 0) (by rw [ei]; exact hlt)
        rw [ei] at h2
        have h3:=Rat.mul_le_mul_of_nonneg_right h2 (Rat.le_of_lt hy)
        rw [← hyk] at h3
        generalize ((S.load.getD i 0:Int):Rat) = L at *
        generalize ((rs.getD i 0:Int):Rat) = R at *
        generalize (S.keep.map fun z => ((aL as z).size:Rat) * cz ps as S.prices z).sum = X at *
        generalize (aq rs S.prices).sum = Y at *
        generalize aK as k = y at *
        grind
    · simp only [if_neg hp]
      refine ⟨h.ll,h.pl,h.load,h.kr,h.fit,h.nn,fun j => (h.above j).imp_right fun g z hz => g z (.tail _ hz),hkab,hsr,hfl,fun z hz => ?_,h.cred⟩
      rcases List.mem_append.mp hz with hz | hz
      · exact h.paid z hz
      · rw [List.mem_singleton.mp hz]
        have : ¬ ∀ x ∈ t :: ts,decide (S.prices.getD (x - 1).toNat 0 = 0) = true:=fun g => hp (List.all_eq_true.mpr g)
        have ⟨x,hx,hx0⟩:∃ x ∈ t :: ts,S.prices.getD (x - 1).toNat 0 ≠ 0:=by
          apply Classical.byContradiction
          intro g
          exact this fun x hx => decide_eq_true (Classical.byContradiction fun g2 => g ⟨x,hx,g2⟩)
        have hxw:x ∈ az ps (aL as k):=by rw [← hov] at hx; exact (List.mem_filter.mp hx).1
        have h1:=(h.above (x - 1).toNat).resolve_left hx0 k (.head _)
        refine Rat.le_trans h1 ?_
        exact ng (f:=fun t => S.prices.getD (t - 1).toNat 0) (fun t => h.nn _) hxw
def cOf (as:List Ask):Rat:=if bP as = true then 1 else 2
theorem w6 (as:List Ask) : 0 ≤ cOf as:=by unfold cOf; split <;> decide
theorem iX {ps rs:List Int} {as:List Ask} (hh:eZ ps rs as) {a:Ask} (hm:a ∈ as) {t:Int} (ht:t ∈ az ps a):(bP as = true ∧ a.size = 1) ∨ (bP as = false ∧ 2 * a.size ≤ rs.getD (t - 1).toNat 0):=by
  cases e:bP as with
  | true => exact .inl ⟨rfl,by have:=List.all_eq_true.mp e a hm; exact of_decide_eq_true this⟩
  | false =>
    right
    refine ⟨rfl,?_⟩
    have h:=(hh.resolve_left (by rw [e]; decide)) a hm
    unfold fk at h
    rw [List.any_eq_false] at h
    have:=h t ht
    rw [decide_eq_true_iff] at this; omega
theorem hC_of {ps rs:List Int} {as:List Ask} (hh:eZ ps rs as) {a:Ask} (hm:a ∈ as):∀ t ∈ az ps a,∀ l:Int,rs.getD (t - 1).toNat 0 < l + a.size → ((rs.getD (t - 1).toNat 0:Int):Rat) ≤ cOf as * (l:Rat):=by
  intro t ht l hl
  unfold cOf
  rcases iX hh hm ht with ⟨e,h1⟩ | ⟨e,h2⟩
  · rw [if_pos e,Rat.one_mul]; exact Rat.intCast_le_intCast.mpr (by omega)
  · rw [if_neg (by rw [e]; decide),show (2:Rat) = ((2:Int):Rat) from rfl,← Rat.intCast_mul]
    exact Rat.intCast_le_intCast.mpr (by omega)
theorem fb {α:Type} (n j:Nat) (x : α):(List.replicate n x).getD j x = x:=by
  rw [List.getD_eq_getElem?_getD,List.getElem?_replicate]; split <;> rfl
theorem ni {ps rs:List Int} {as:List Ask} (hT:Tree ps rs) (c:Rat) (r:List Int):FillI ps rs as c (cS ps) r:=by
  refine ⟨List.length_replicate ..,List.length_replicate ..,rfl,fun k h => (by cases h),fun j hj => ?_,fun j => ?_,fun j => .inl (fb ..),fun k h => (by cases h),fun k h => (by cases h),fun k h => (by cases h),fun k h => (by cases h),?_⟩
  · show (List.replicate ps.length (0:Int)).getD j 0 ≤ _
    rw [fb]
    have:=hT.room j (rs.getD j 0) (by rw [List.getD_eq_getElem?_getD,List.getElem?_eq_getElem (by have:=hT.len; omega)]; rfl)
    omega
  · show 0 ≤ (List.replicate ps.length (0:Rat)).getD j 0
    rw [fb]; exact Rat.le_refl
  · show (aq rs (List.replicate ps.length 0)).sum ≤ c * 0
    rw [il,Rat.mul_zero]; exact Rat.le_refl
theorem mI {ps rs:List Int} {as:List Ask} (hT:Tree ps rs) (ha:AsksOk ps as) (hh:eZ ps rs as):∀ (r:List Int) (S:FS),FillI ps rs as (cOf as) S r → r.Pairwise (qC as) → (∀ k ∈ r,0 ≤ k ∧ k < (as.length:Int)) → FillI ps rs as (cOf as) (r.foldl (bW ps rs as) S) []:=by
  intro r
  induction r with
  | nil => intro S h _ _; exact h
  | cons k r ih =>
    intro S h hp hr
    rw [List.pairwise_cons] at hp
    have hk:=hr k (.head _)
    refine ih _ (h.step hT ha (w6 as) (fun j hj => ?_) hk.1 hk.2 (hC_of hh (cj (k:=k.toNat) (by omega)))) hp.2 fun z hz => hr z (.tail _ hz)
    rcases hp.1 j hj with g | ⟨g,_⟩
    · exact Rat.le_of_lt g
    · rw [g]; exact Rat.le_refl
theorem l6 (ps rs:List Int) (as:List Ask) (S:FS) (k:Int):(∀ z ∈ S.keep,z ∈ (bW ps rs as S k).keep) ∧ ((bW ps rs as S k).keep ++ (bW ps rs as S k).sent).Perm (k :: (S.keep ++ S.sent)):=by
  unfold bW
  split
  · refine ⟨fun z hz => List.mem_append.mpr (.inl hz),?_⟩
    show ((S.keep ++ [k]) ++ S.sent).Perm _
    rw [List.append_assoc]; exact List.perm_middle
  · refine ⟨fun z hz => hz,?_⟩
    show (S.keep ++ (S.sent ++ [k])).Perm _
    rw [← List.append_assoc]
    exact List.perm_append_comm
theorem jZ (ps rs:List Int) (as:List Ask):∀ (r:List Int) (S:FS),(∀ z ∈ S.keep,z ∈ (r.foldl (bW ps rs as) S).keep) ∧ ((r.foldl (bW ps rs as) S).keep ++ (r.foldl (bW ps rs as) S).sent).Perm (r ++ (S.keep ++ S.sent)):=by
  intro r
  induction r with
  | nil => intro S; exact ⟨fun z h => h,.refl _⟩
  | cons k r ih =>
    intro S
    obtain ⟨h1,h2⟩:=ih (bW ps rs as S k)
    obtain ⟨g1,g2⟩:=l6 ps rs as S k
    refine ⟨fun z hz => h1 z (g1 z hz),h2.trans ((g2.append_left r).trans ?_)⟩
    rw [List.cons_append]
    exact List.perm_middle
structure FillAll (ps rs:List Int) (as:List Ask) (S:FS):Prop where
  inv:FillI ps rs as (cOf as) S []
  perm:(S.keep ++ S.sent).Perm ((List.range as.length).map fun (k:Nat) => (k:Int))
  best:as ≠ [] → ∃ k ∈ S.keep,∀ n:Int,0 ≤ n → n < (as.length:Int) → aK as n ≤ aK as k
theorem OrdN.perm {as:List Ask} {n:Nat} {o:List Int} (h:OrdN as n o):o.Perm ((List.range n).map fun (k:Nat) => (k:Int)):=by
  refine (List.perm_ext_iff_of_nodup h.nd ?_).mpr fun k => ?_
  · exact List.Pairwise.map _ (fun a b h e => h (Int.ofNat.inj e)) List.nodup_range
  · rw [h.mem,List.mem_map]
    constructor
    · intro hk; exact ⟨k.toNat,List.mem_range.mpr (by omega),by omega⟩
    · rintro ⟨j,hj,rfl⟩; have:=List.mem_range.mp hj; omega
theorem qJ {ps rs:List Int} {as:List Ask} {o:List Int} (hT:Tree ps rs) (ha:AsksOk ps as) (hh:eZ ps rs as) (ho:OrdN as as.length o):FillAll ps rs as (b5 ps rs as o):=by
  have hr:∀ k ∈ o,0 ≤ k ∧ k < (as.length:Int):=fun k hk => (ho.mem k).mp hk
  refine ⟨mI hT ha hh o _ (ni hT _ _) ho.up hr,?_,fun hne => ?_⟩
  · have:=(jZ ps rs as o (cS ps)).2
    rw [show (cS ps).keep ++ (cS ps).sent = [] from rfl,List.append_nil] at this
    exact this.trans ho.perm
  · have hl:=ho.len
    have hlen : 0 < as.length:=List.length_pos_iff.mpr hne
    cases o with
    | nil => simp at hl; omega
    | cons k o =>
      have hk:=hr k (.head _)
      have hok:=b_ ha hk.1 hk.2
      have hov:eX ps rs as (cS ps) k = []:=by
        refine List.filter_eq_nil_iff.mpr fun t ht => ?_
        rw [decide_eq_true_iff]
        show ¬ rs.getD (t - 1).toNat 0 < (List.replicate ps.length (0:Int)).getD (t - 1).toNat 0 + (aL as k).size
        rw [fb]
        have htm:=cb hT hok.ends ht
        have:=hT.room (t - 1).toNat (rs.getD (t - 1).toNat 0) (by rw [List.getD_eq_getElem?_getD,List.getElem?_eq_getElem (by have:=hT.len; omega)]; rfl)
        have hs:=hok.s0
        rcases iX hh (cj (as:=as) (k:=k.toNat) (by omega)) ht with ⟨_,h1⟩ | ⟨_,h1⟩
        · have:(aL as k).size = 1:=h1
          omega
        · have : 2 * (aL as k).size ≤ rs.getD (t - 1).toNat 0:=h1
          omega
      have hkk:k ∈ (bW ps rs as (cS ps) k).keep:=by
        unfold bW; rw [hov]; exact List.mem_append.mpr (.inr (.head _))
      refine ⟨k,(jZ ps rs as o _).1 k hkk,fun n n0 n1 => ?_⟩
      have hn:=(ho.mem n).mpr ⟨n0,n1⟩
      rcases List.mem_cons.mp hn with rfl | hn
      · exact Rat.le_refl
      · rcases (List.pairwise_cons.mp ho.up).1 n hn with g | ⟨g,_⟩
        · exact Rat.le_of_lt g
        · rw [g]; exact Rat.le_refl
theorem sR {ps:List Int} {as:List Ask} {prs:List Rat} (h:∀ j:Nat,0 ≤ prs.getD j 0) {k:Int} (hr : 0 ≤ aK as k):cz ps as prs k ≤ b3 ps (aL as k) prs ∧ cz ps as prs k ≤ ((az ps (aL as k)).length:Rat) * aK as k:=by
  unfold cz
  rw [nY]
  induction az ps (aL as k) with
  | nil => exact ⟨Rat.le_refl,by show (0:Rat) ≤ ((0:Nat):Rat) * _; rw [show ((0:Nat):Rat) = 0 from rfl,Rat.zero_mul]; exact Rat.le_refl⟩
  | cons t w ih =>
    rw [List.map_cons,List.map_cons,List.sum_cons,List.sum_cons,List.length_cons]
    have h0:=h (t - 1).toNat
    have hc:fj (aK as k) (prs.getD (t - 1).toNat 0) ≤ prs.getD (t - 1).toNat 0 ∧ fj (aK as k) (prs.getD (t - 1).toNat 0) ≤ aK as k:=by
      unfold fj; split
      · exact ⟨Rat.le_refl,by assumption⟩
      · exact ⟨h0,hr⟩
    have e:((w.length + 1:Nat):Rat) = (w.length:Rat) + 1:=by push_cast; rfl
    rw [e]
    obtain ⟨i1,i2⟩:=ih
    obtain ⟨c1,c2⟩:=hc
    generalize (w.length:Rat) = n at *
    constructor
    · grind
    · grind
theorem o0 {s X P w n r c M:Rat} (hs : 0 < s) (hX : 0 ≤ X) (hXP:X ≤ P) (hXr:X ≤ n * r) (hrw:r * s = w) (hw : 0 < w) (hn:n ≤ M) (hM : 1 ≤ M) (hc:c = 1 ∨ c = 2):c * (s * X) + fu (w - s * P) ≤ c * M * w:=by
  have h1:s * X ≤ s * P:=Rat.mul_le_mul_of_nonneg_left hXP (Rat.le_of_lt hs)
  have h2:s * X ≤ s * (n * r):=Rat.mul_le_mul_of_nonneg_left hXr (Rat.le_of_lt hs)
  have h3:n * w ≤ M * w:=Rat.mul_le_mul_of_nonneg_right hn (Rat.le_of_lt hw)
  have h4 : 1 * w ≤ M * w:=Rat.mul_le_mul_of_nonneg_right hM (Rat.le_of_lt hw)
  have e:s * (n * r) = n * w:=by grind
  rw [e] at h2
  unfold fu
  generalize s * X = u at *
  generalize s * P = v at *
  generalize n * w = z at *
  generalize hMw:M * w = y at *
  have e2:c * M * w = c * y:=by rw [← hMw]; grind
  rw [e2]
  split <;> rcases hc with rfl | rfl <;> grind
theorem r9 {ps rs:List Int} {as:List Ask} {S:FS} (hT:Tree ps rs) (ha:AsksOk ps as) (h:FillAll ps rs as S) {M:Rat} (hM : 1 ≤ M) (hl:∀ a ∈ as,((az ps a).length:Rat) ≤ M):aS ps rs as S.prices ≤ cOf as * M * aU (fun a => (a.worth:Rat)) as S.keep:=by
  have hi:=h.inv
  have e1:(as.map fun a => a7 ps a a.size S.prices).sum = aU (fun a => a7 ps a a.size S.prices) as S.keep + aU (fun a => a7 ps a a.size S.prices) as S.sent:=by
    rw [k_,← kc h.perm]
    unfold aU; rw [List.map_append,List.sum_append]
  have e2:aU (fun a => a7 ps a a.size S.prices) as S.sent = 0:=by
    have key:∀ l:List Int,(∀ k ∈ l,k ∈ S.sent) → aU (fun a => a7 ps a a.size S.prices) as l = 0:=by
      intro l
      induction l with
      | nil => intro _; rfl
      | cons k l ih =>
        intro hm
        have hk:=hm k (.head _)
        have hkr:=hi.sr k hk
        have hok:=b_ ha hkr.1 hkr.2
        have h1:=hi.paid k hk
        have h2:=Rat.mul_le_mul_of_nonneg_right h1 (Rat.le_of_lt (eM hok))
        have h3:aK as k * ((aL as k).size:Rat) = ((aL as k).worth:Rat):=fL hok
        have:a7 ps (aL as k) (aL as k).size S.prices = 0:=by
          unfold a7 fu
          rw [if_neg]
          rw [h3] at h2
          intro h4
          grind
        have ih':=ih fun z hz => hm z (.tail _ hz)
        unfold aU at *
        rw [List.map_cons,List.sum_cons,ih']
        show a7 ps (aL as k) (aL as k).size S.prices + 0 = 0
        rw [this,Rat.add_zero]
    exact key _ fun k hk => hk
  have e3:cOf as * (S.keep.map fun k => ((aL as k).size:Rat) * cz ps as S.prices k).sum + aU (fun a => a7 ps a a.size S.prices) as S.keep ≤ cOf as * M * aU (fun a => (a.worth:Rat)) as S.keep:=by
    have key:∀ l:List Int,(∀ k ∈ l,k ∈ S.keep) → cOf as * (l.map fun k => ((aL as k).size:Rat) * cz ps as S.prices k).sum + aU (fun a => a7 ps a a.size S.prices) as l ≤ cOf as * M * aU (fun a => (a.worth:Rat)) as l:=by
      intro l
      induction l with
      | nil => intro _; show cOf as * 0 + 0 ≤ cOf as * M * 0; rw [Rat.mul_zero,Rat.mul_zero,Rat.add_zero]; exact Rat.le_refl
      | cons k l ih =>
        intro hm
        have hk:=hm k (.head _)
        have hkr:=hi.kr k hk
        have hok:=b_ ha hkr.1 hkr.2
        have ih':=ih fun z hz => hm z (.tail _ hz)
        have hr:=fX hok
        have hcl:=sR (ps:=ps) (as:=as) (k:=k) hi.nn (Rat.le_of_lt hr)
        have hone:=o0 (eM hok) (om (ps:=ps) (as:=as) hi.nn k) hcl.1 hcl.2 (show aK as k * ((aL as k).size:Rat) = ((aL as k).worth:Rat) from fL hok) (jc hok) (hl (aL as k) (cj (k:=k.toNat) (by omega))) hM (c:=cOf as) (by unfold cOf; split; exact .inl rfl; exact .inr rfl)
        unfold aU at *
        rw [List.map_cons,List.map_cons,List.map_cons,List.sum_cons,List.sum_cons,List.sum_cons]
        have e5:a7 ps (as.getD k.toNat cw) (as.getD k.toNat cw).size S.prices = fu (((aL as k).worth:Rat) - ((aL as k).size:Rat) * b3 ps (aL as k) S.prices):=rfl
        have e6:((as.getD k.toNat cw).worth:Rat) = ((aL as k).worth:Rat):=rfl
        dsimp only at ih' ⊢
        rw [e5,e6]
        generalize fu (((aL as k).worth:Rat) - ((aL as k).size:Rat) * b3 ps (aL as k) S.prices) = q1 at *
        generalize ((aL as k).size:Rat) * cz ps as S.prices k = q2 at *
        generalize ((aL as k).worth:Rat) = q3 at *
        generalize (l.map fun k => ((aL as k).size:Rat) * cz ps as S.prices k).sum = q4 at *
        generalize (l.map fun k => a7 ps (as.getD k.toNat cw) (as.getD k.toNat cw).size S.prices).sum = q5 at *
        generalize (l.map fun k => ((as.getD k.toNat cw).worth:Rat)).sum = q6 at *
        generalize cOf as = c at *
        grind
    exact key _ fun k hk => hk
  unfold aS
  rw [e1,e2,Rat.add_zero]
  refine Rat.le_trans (Rat.add_le_add_right.mpr hi.cred) e3
theorem na (ps rs:List Int) (as:List Ask):∀ (r:List Int) (S:FS),(∀ p ∈ S.prices,p = 0 ∨ ∃ k:Int,0 ≤ k ∧ k < (as.length:Int) ∧ p = aK as k) → (∀ k ∈ r,0 ≤ k ∧ k < (as.length:Int)) → ∀ p ∈ (r.foldl (bW ps rs as) S).prices,p = 0 ∨ ∃ k:Int,0 ≤ k ∧ k < (as.length:Int) ∧ p = aK as k:=by
  intro r
  induction r with
  | nil => intro S h _; exact h
  | cons k r ih =>
    intro S h hr
    refine ih _ ?_ fun z hz => hr z (.tail _ hz)
    unfold bW
    split
    · exact h
    · rename_i t ts _
      intro p hp
      by_cases c:dz S.prices (t :: ts) = true
      · simp only [if_pos c] at hp
        rcases List.mem_or_eq_of_mem_set hp with hp | rfl
        · exact h p hp
        · exact .inr ⟨k,(hr k (.head _)).1,(hr k (.head _)).2,rfl⟩
      · simp only [if_neg c] at hp
        exact h p hp
theorem iF {ps rs:List Int} {as:List Ask} {o:List Int} (hT:Tree ps rs) (ha:AsksOk ps as) (ho:OrdN as as.length o):PricesOk ps (b5 ps rs as o).prices:=by
  have h:=na ps rs as o (cS ps) (fun p hp => .inl (List.eq_of_mem_replicate hp)) fun k hk => (ho.mem k).mp hk
  refine ⟨(mS (rs:=rs) (as:=as) o ho.nn).pl,fun p hp => ?_,fun p hp => ?_⟩
  · rcases h p hp with rfl | ⟨k,k0,k1,rfl⟩
    · exact Rat.le_refl
    · exact Rat.le_of_lt (fX (b_ ha k0 k1))
  · rcases h p hp with rfl | ⟨k,k0,k1,rfl⟩
    · exact bt0 (by decide)
    · exact (kB (b_ ha k0 k1)).mono (by decide)
def p_ (ld rs:List Int):Bool:=(List.range ld.length).all fun j => decide (ld.getD j 0 ≤ rs.getD j 0)
theorem fJ {ld rs:List Int}:p_ ld rs = true ↔ ∀ j:Nat,j < ld.length → ld.getD j 0 ≤ rs.getD j 0:=by
  unfold p_
  rw [List.all_eq_true]
  exact ⟨fun h j hj => of_decide_eq_true (h j (List.mem_range.mpr hj)),fun h j hj => decide_eq_true (h j (List.mem_range.mp hj))⟩
theorem jK:∀ {ld rs:List Int},ld.length = rs.length → (∀ j:Nat,j < ld.length → ld.getD j 0 ≤ rs.getD j 0) → ij ld rs = []
  | [],[],_,_ => rfl
  | [],_ :: _,h,_ => by simp at h
  | _ :: _,[],h,_ => by simp at h
  | x :: ld,y :: rs,h,hf => by
    have ih:=jK (ld:=ld) (rs:=rs) (by simpa using h) fun j hj => by have:=hf (j + 1) (by simpa using hj); simpa using this
    have h0:=hf 0 (by simp)
    have h0:x ≤ y:=h0
    rw [ij,if_neg (by omega),ih]
theorem g7 {ps rs:List Int} {as:List Ask} (hT:Tree ps rs) (ha:AsksOk ps as) {a b:List Int} (h:a.Perm b) (hb:∀ k ∈ b,0 ≤ k ∧ k < (as.length:Int)):aZ ps as a = aZ ps as b:=by
  rw [lM hT ha fun k hk => hb k (h.mem_iff.mp hk),lM hT ha hb]
  exact List.map_congr_left fun j _ => qL (h.map _)
def overI (ld rs:List Int):D → Option D
  | .int j => if decide (rs.getD j.toNat 0 < ld.getD j.toNat 0) = true then some (.int j) else none
  | _ => none
def isLst0:List D → Bool
  | [] => true
  | _ => false
structure OtherOk (ps rs:List Int) (as:List Ask) (ks:List Int):Prop where
  nd:ks.Nodup
  kr:∀ k ∈ ks,0 ≤ k ∧ k < (as.length:Int)
  fit:∀ j:Nat,j < ps.length → (aZ ps as ks).getD j 0 ≤ rs.getD j 0
theorem OtherOk.beat {ps rs:List Int} {as:List Ask} {ks:List Int} (hT:Tree ps rs) (ha:AsksOk ps as) (h:OtherOk ps rs as ks):Beat ps rs as ks :=
  tI hT ha h.nd h.kr (jK (by rw [bD]; exact hT.len) (by rw [bD]; exact h.fit))
def eV (as:List Ask) (ks:List Int):Int:=(ks.map fun k => (as.getD k.toNat cw).worth).sum
theorem dq (as:List Ask):∀ ks:List Int,((eV as ks:Int):Rat) = aU (fun a => (a.worth:Rat)) as ks
  | [] => rfl
  | k :: ks => by
    have:=dq as ks
    unfold eV aU at *
    rw [List.map_cons,List.map_cons,List.sum_cons,List.sum_cons,Rat.intCast_add,this]
theorem iw {ps:List Int} {as:List Ask} {ks:List Int} (ha:AsksOk ps as) (hl:ks.length ≤ 30) (hk:∀ k ∈ ks,0 ≤ k ∧ k < (as.length:Int)):(eV as ks).natAbs ≤ 30000000000030:=by
  have h:=di (n:=1000000000001) (ns:=ks.map fun k => (as.getD k.toNat cw).worth) fun x hx => by
    obtain ⟨k,hm,rfl⟩:=List.mem_map.mp hx
    have:=hk k hm
    have hok:=ha.ok _ (cj (as:=as) (k:=k.toNat) (by omega))
    have:=hok.w0; have:=hok.w1; omega
  rw [List.length_map] at h
  have:=Nat.mul_le_mul_right 1000000000001 hl
  unfold eV
  omega
def ot:D → Option D
  | .tup [a,b,.int s,w] => if (!decide (s = 1)) = true then some (.tup [a,b,.int s,w]) else none
  | _ => none
theorem jn:∀ as:List Ask,(as.map bY).filterMap ot = (as.filter fun a => !decide (a.size = 1)).map bY
  | [] => rfl
  | a :: as => by
    have ih:=jn as
    rw [List.map_cons,List.filterMap_cons,List.filter_cons]
    have e:ot (bY a) = if (!decide (a.size = 1)) = true then some (bY a) else none:=rfl
    rw [e]
    by_cases h:(!decide (a.size = 1)) = true
    · rw [if_pos h,if_pos h]; simp only [List.map_cons]; rw [ih]
    · rw [if_neg h,if_neg h]; simp only; exact ih
theorem qB (as:List Ask):(as.filter fun a => !decide (a.size = 1)).isEmpty = bP as:=by
  unfold bP
  rw [Bool.eq_iff_iff,List.isEmpty_iff,List.filter_eq_nil_iff,List.all_eq_true]
  exact ⟨fun h a ha => by have:=h a ha; simpa using this,fun h a ha => by have:=h a ha; simpa using this⟩
structure UnlikeOk (ps rs:List Int) (as:List Ask) (ks:List Int) (prs:List Rat):Prop where
  nd:ks.Nodup
  up:ks.Pairwise (· < ·)
  kr:∀ k ∈ ks,0 ≤ k ∧ k < (as.length:Int)
  len:ks.length ≤ as.length
  fit:p_ (aZ ps as ks) rs = true
  full:∀ n:Int,0 ≤ n → n < (as.length:Int) → n ∉ ks → p_ (aZ ps as (ks ++ [n])) rs = false
  best:as ≠ [] → ∃ k ∈ ks,∀ n:Int,0 ≤ n → n < (as.length:Int) → aK as n ≤ aK as k
  prices:PricesOk ps prs
  share:∀ M:Rat,1 ≤ M → (∀ a ∈ as,((az ps a).length:Rat) ≤ M) → aS ps rs as prs ≤ cOf as * M * aU (fun a => (a.worth:Rat)) as ks
theorem pK {ps rs:List Int} {as:List Ask} {S:FS} (hT:Tree ps rs) (ha:AsksOk ps as) (hF:FillAll ps rs as S) (hP:PricesOk ps S.prices):UnlikeOk ps rs as (bO S.keep) S.prices:=by
  have hp:=bN S.keep
  have hnd0:(S.keep ++ S.sent).Nodup:=hF.perm.nodup_iff.mpr (List.Pairwise.map _ (fun a b h e => h (Int.ofNat.inj e)) List.nodup_range)
  have hnd:S.keep.Nodup:=(List.nodup_append.mp hnd0).1
  have hi:=hF.inv
  have hll:=hi.ll
  have hkr:∀ k ∈ bO S.keep,0 ≤ k ∧ k < (as.length:Int):=fun k hk => hi.kr k (hp.mem_iff.mp hk)
  have hld:aZ ps as (bO S.keep) = S.load:=by rw [hi.load]; exact g7 hT ha hp hi.kr
  have hnds:=hp.nodup_iff.mpr hnd
  have hlen:(bO S.keep).length ≤ as.length:=by
    have h1:=hF.perm.length_eq
    rw [List.length_append,List.length_map,List.length_range] at h1
    rw [iQ]; omega
  have hup:(bO S.keep).Pairwise (· < ·):=by
    have h1:=db S.keep
    exact (List.pairwise_and_iff.mpr ⟨h1,hnds⟩).imp fun ⟨h,g⟩ => by omega
  refine ⟨hnds,hup,hkr,hlen,?_,fun n n0 n1 hn => ?_,fun hne => ?_,hP,fun M hM hl => ?_⟩
  · rw [hld,fJ,hll]; exact hi.fit
  · have hns:n ∈ S.sent:=by
      have hm:n ∈ S.keep ++ S.sent:=hF.perm.mem_iff.mpr (List.mem_map.mpr ⟨n.toNat,List.mem_range.mpr (by omega),by omega⟩)
      exact (List.mem_append.mp hm).resolve_left fun h => hn (hp.mem_iff.mpr h)
    obtain ⟨t,ht,hlt⟩:=hi.full n hns
    have hw:=eQ hT ha n0 n1
    have ht0:=hw.2 t ht
    rw [Bool.eq_false_iff,Ne,fJ]
    intro hf
    have:=hf (t - 1).toNat (by rw [bD]; omega)
    have e2:(aZ ps as (bO S.keep ++ [n])).getD (t - 1).toNat 0 = (aZ ps as (bO S.keep)).getD (t - 1).toNat 0 + cnt (((t - 1).toNat:Int) + 1) (az ps (aL as n)) (aL as n).size:=by
      rw [eC]; exact fM hw.1 (by rw [bD]; exact hw.2)
    rw [e2,hld] at this
    unfold cnt at this
    rw [show (((t - 1).toNat:Int) + 1) = t by omega,if_pos (List.contains_iff_mem.mpr ht)] at this
    omega
  · obtain ⟨k,hk,h⟩:=hF.best hne
    exact ⟨k,hp.mem_iff.mpr hk,h⟩
  · rw [kc hp]
    exact r9 hT ha hF hM hl
theorem tH {ps rs:List Int} {as:List Ask} {ks os:List Int} {prs:List Rat} (hT:Tree ps rs) (ha:AsksOk ps as) (hU:UnlikeOk ps rs as ks prs) (hO:OtherOk ps rs as os) {M:Int} (hM:∀ a ∈ as,((az ps a).length:Int) ≤ M) :
    eV as os ≤ M * (2 - if bP as = true then 1 else 0) * eV as ks ∧ eV as os * (aS ps rs as prs).den ≤ (aS ps rs as prs).num:=by
  have h1:=hO.beat hT ha prs hU.prices.len hU.prices.pos
  rw [← dq] at h1
  refine ⟨?_,?_⟩
  · by_cases hne:as = []
    · subst hne
      have e1:os = []:=by
        cases os with
        | nil => rfl
        | cons k _ => have:=hO.kr k (.head _); simp at this; omega
      have e2:ks = []:=by
        cases ks with
        | nil => rfl
        | cons k _ => have:=hU.kr k (.head _); simp at this; omega
      subst e1; subst e2
      show (0:Int) ≤ _ * 0
      rw [Int.mul_zero]; exact Int.le_refl 0
    · obtain ⟨a,r,e⟩:=List.exists_cons_of_ne_nil hne
      have hm:a ∈ as:=by rw [e]; exact .head _
      have hpos : 0 < (az ps a).length:=kX hT (ha.ok a hm).ends
      have hM1 : 1 ≤ M:=by have:=hM a hm; omega
      have h2:=hU.share (M:Rat) (by rw [show (1:Rat) = ((1:Int):Rat) from rfl]; exact Rat.intCast_le_intCast.mpr hM1) fun b hb => by
        have:=hM b hb
        rw [show (((az ps b).length:Nat):Rat) = (((az ps b).length:Int):Rat) from (Rat.intCast_natCast _).symm]
        exact Rat.intCast_le_intCast.mpr this
      rw [← dq] at h2
      have h3:=Rat.le_trans h1 h2
      have ec:cOf as = ((2 - if bP as = true then 1 else 0:Int):Rat):=by
        unfold cOf
        by_cases h:bP as = true
        · rw [if_pos h,if_pos h]; rfl
        · rw [if_neg h,if_neg h]; rfl
      rw [ec,← Rat.intCast_mul,← Rat.intCast_mul] at h3
      have:=Rat.intCast_le_intCast.mp h3
      rw [Int.mul_comm M]; exact this
  · have h3:=(ie _ _).mpr h1
    rw [Rat.num_intCast,Rat.den_intCast] at h3
    omega
end L2
namespace L2
open PySem PySem.Spec PyProof.Rows
section
variable {X:Cx}
variable {ow:List Bool} {e e2:Expr} {ma mb:ME}
end
end L2
namespace L2
open PySem
end L2
namespace L2
open PySem PySem.Spec PyProof.Rows
section
variable {X:Cx}
end
end L2
namespace L2
open PySem
end L2
namespace L2
open PySem PySem.Spec PyProof.Rows
section
variable {κ:Type} [DecidableEq κ]
end
section
variable {P:Program} {w:World} {H:Hp} {h:Heap} {a:Addr}
end
section
variable {X:Cx} {pins:List (Addr × Obj)} {σ:St} {H:Hp} {s:Shared} {a:Addr} {y v:V} {u r:Value} {o:Option V} {A:Around} {E:Value → Shared → Prop}
end
section
variable {X:Cx} {pins:List (Addr × Obj)} {σ:St} {H:Hp} {s:Shared} {a:Addr} {kvs:List (Key × V)} {k:Key} {u:Value} {A:Around} {E:Value → Shared → Prop}
end
section
variable {X:Cx} {o i e value:Expr} {pos pos' tpos:Pos} {td ty tv:TE}
end
section
variable {X:Cx} {pos:Pos}
end
section
variable {X:Cx} {pins:List (Addr × Obj)} {σ:St} {H:Hp} {s:Shared} {a:Addr} {y d:V} {u r:Value} {o:Option V} {A:Around} {E:Value → Shared → Prop}
end
section
variable {X:Cx} {o e f:Expr} {apos cpos:Pos} {td ty tx:TE}
end
section
variable {X:Cx} {pins:List (Addr × Obj)} {σ:St} {H:Hp} {s:Shared} {a:Addr} {kvs:List (Key × V)} {A:Around} {E:Value → Shared → Prop}
end
section
variable {X:Cx} {pins:List (Addr × Obj)} {σ:St} {H:Hp} {s:Shared} {a:Addr} {y:V} {u:Value} {A:Around} {E:Value → Shared → Prop}
end
section
variable {C:Ctx} {ow:List Bool} {G:Hp} {ρ:DSt} {σ:St} {H:Hp} {pd:List (D × V)} {O:Own}
end
section
variable {X:Cx} {M:Md} {ow:List Bool} {a b c e:Expr} {ma mb mc:ME} {pos:Pos}
end
def f7:D → Nat → Option D
  | .lst ds,c => ds[c]?
  | .tup ds,c => ds[c]?
  | _,_ => none
def putS:D → Nat → D → D
  | .lst ds,c,e => .lst (ds.set c e)
  | .tup ds,c,e => .tup (ds.set c e)
  | d,_,_ => d
def lenD:D → Nat
  | .lst ds => ds.length
  | .tup ds => ds.length
  | _ => 0
def gk:List Nat → D → Option D
  | [],d => some d
  | c :: p,d => match f7 d c with
    | some e => gk p e
    | none => none
def nk:List Nat → D → D → D
  | [],_,x => x
  | c :: p,d,x => match f7 d c with
    | some e => putS d c (nk p e x)
    | none => d
def lS (H:Hp) (v:V) (xs:List V):Prop:=∃ b,v = .ref b ∧ (H b = some (.lst xs) ∨ H b = some (.tup xs))
def cR (H:Hp):List Nat → V → V → Prop
  | [],v,u => v = u
  | c :: p,v,u => ∃ xs w,lS H v xs ∧ xs[c]? = some w ∧ cR H p w u
theorem lS.one {H:Hp} {v:V} {xs ys:List V} (h:lS H v xs) (g:lS H v ys):xs = ys:=by
  obtain ⟨b,rfl,h⟩:=h
  obtain ⟨b',e,g⟩:=g
  cases e
  rcases h with h | h <;> rcases g with g | g <;> (rw [h] at g; cases g) <;> rfl
theorem lS.mono {H H':Hp} {v:V} {xs:List V} (s:aR H H') (h:lS H v xs):lS H' v xs:=by
  obtain ⟨b,e,h⟩:=h
  exact ⟨b,e,h.imp (s _ _) (s _ _)⟩
theorem cR.mono {H H':Hp} (s:aR H H'):∀ {p:List Nat} {v u:V},cR H p v u → cR H' p v u
  | [],_,_,h => h
  | _ :: _,_,_,⟨xs,w,h1,h2,h3⟩ => ⟨xs,w,h1.mono s,h2,h3.mono s⟩
theorem cR.one {H:Hp}:∀ {p:List Nat} {v u u':V},cR H p v u → cR H p v u' → u = u'
  | [],_,_,_,h,g => h.symm.trans g
  | _ :: _,_,_,_,⟨xs,w,h1,h2,h3⟩,⟨ys,w',g1,g2,g3⟩ => by
    cases h1.one g1
    rw [h2] at g2; cases g2
    exact h3.one g3
theorem cR.snoc {H:Hp} {c:Nat} {xs:List V} {w:V}:∀ {p:List Nat} {v u:V},cR H p v u → lS H u xs → xs[c]? = some w → cR H (p ++ [c]) v w
  | [],v,u,h,g,e => by cases h; exact ⟨xs,w,g,e,rfl⟩
  | _ :: _,_,_,⟨ys,w',h1,h2,h3⟩,g,e => ⟨ys,w',h1,h2,h3.snoc g e⟩
theorem iW {c:Nat}:∀ {p:List Nat} {d e:D},gk p d = some e → gk (p ++ [c]) d = f7 e c
  | [],d,e,h => by cases h; show (match f7 d c with | some e => gk [] e | none => none) = _; cases f7 d c <;> rfl
  | b :: p,d,e,h => by
    show (match f7 d b with | some e => gk (p ++ [c]) e | none => none) = _
    change (match f7 d b with | some e => gk p e | none => none) = _ at h
    cases q:f7 d b with
    | none => rw [q] at h; cases h
    | some e' => rw [q] at h; exact iW h
theorem Rep.walk {H:Hp}:∀ {p:List Nat} {d e:D} {v:V},Rep H d v → gk p d = some e → ∃ u,cR H p v u ∧ Rep H e u
  | [],d,e,v,h,g => by cases g; exact ⟨v,rfl,h⟩
  | c :: p,d,e,v,h,g => by
    change (match f7 d c with | some e => gk p e | none => none) = _ at g
    cases q:f7 d c with
    | none => rw [q] at g; cases g
    | some d1 =>
      rw [q] at g
      cases d with
      | lst ds =>
        rw [Rep] at h
        obtain ⟨a,xs,rfl,h1,h2⟩:=h
        obtain ⟨w,d',e1,e2,e3⟩:=fZ (r:=c) h2 (List.getElem?_eq_some_iff.mp q).1
        rw [show ds[c]? = some d1 from q] at e2; cases e2
        obtain ⟨u,k1,k2⟩:=Rep.walk e3 g
        exact ⟨u,⟨xs,w,⟨a,rfl,.inl h1⟩,e1,k1⟩,k2⟩
      | tup ds =>
        rw [Rep] at h
        obtain ⟨a,xs,rfl,h1,h2⟩:=h
        obtain ⟨w,d',e1,e2,e3⟩:=fZ (r:=c) h2 (List.getElem?_eq_some_iff.mp q).1
        rw [show ds[c]? = some d1 from q] at e2; cases e2
        obtain ⟨u,k1,k2⟩:=Rep.walk e3 g
        exact ⟨u,⟨xs,w,⟨a,rfl,.inr h1⟩,e1,k1⟩,k2⟩
      | _ => cases q
theorem Seps.repl {G H H':Hp} {O:Own} {i:Nat} {d':D}:∀ {es:List D} {k0:Nat} {π:List Nat} {ys:List V} {c:Nat} {u:V},Seps G H O i es k0 π ys → ys[c]? = some u → Sep G H' O i d' ((k0 + c) :: π) u →
    (∀ (j:Nat) d v,j ≠ c → Sep G H O i d ((k0 + j) :: π) v → Sep G H' O i d ((k0 + j) :: π) v) → Seps G H' O i (es.set c d') k0 π ys
  | [],k0,π,ys,c,u,h,e,_,_ => by rw [Seps] at h; subst h; simp at e
  | d :: es,k0,π,ys,0,u,h,e,h1,h2 => by
    rw [Seps] at h
    obtain ⟨w,ws,rfl,w1,w2⟩:=h
    simp at e; subst e
    rw [List.set_cons_zero,Seps]
    refine ⟨_,ws,rfl,by simpa using h1,?_⟩
    have all:∀ (es:List D) (k:Nat) (ws:List V),k0 < k → Seps G H O i es k π ws → Seps G H' O i es k π ws:=by
      intro es
      induction es with
      | nil => intro k ws _ h; rw [Seps] at *; exact h
      | cons d es ih =>
        intro k ws hk h
        rw [Seps] at *
        obtain ⟨v,vs,rfl,v1,v2⟩:=h
        refine ⟨v,vs,rfl,?_,ih (k + 1) vs (by omega) v2⟩
        have:=h2 (k - k0) d v (by omega)
        rw [show k0 + (k - k0) = k by omega] at this
        exact this v1
    exact all es (k0 + 1) ws (by omega) w2
  | d :: es,k0,π,ys,c + 1,u,h,e,h1,h2 => by
    rw [Seps] at h
    obtain ⟨w,ws,rfl,w1,w2⟩:=h
    rw [List.set_cons_succ,Seps]
    refine ⟨w,ws,rfl,by have:=h2 0 d w (by omega); simpa using this (by simpa using w1),Seps.repl w2 (by simpa using e) ?_ ?_⟩
    · rw [show k0 + 1 + c = k0 + (c + 1) by omega]; exact h1
    · intro j d v hj
      rw [show k0 + 1 + j = k0 + (j + 1) by omega]
      exact h2 (j + 1) d v (by omega)
theorem Sep.focus {G H:Hp} {O:Own} {i:Nat} (gh:aR G H) (og:∀ a l,O a = some l → G a = none):∀ {p:List Nat} {d:D} {π:List Nat} {v:V} {ds:List D},Sep G H O i d π v → gk p d = some (.lst ds) →
    ∃ a xs,cR H p v (.ref a) ∧ O a = some (i,p.reverse ++ π) ∧ H a = some (.lst xs) ∧ Seps G H O i ds 0 (p.reverse ++ π) xs ∧
      ∀ ds' xs',Seps G H O i ds' 0 (p.reverse ++ π) xs' → Sep G (upd H a (.lst xs')) O i (nk p d (.lst ds')) π v
  | [],d,π,v,ds,h,g => by
    cases g
    rw [Sep] at h
    obtain ⟨a,xs,rfl,h1,h2,h3⟩:=h
    refine ⟨a,xs,rfl,h1,h2,h3,fun ds' xs' h' => ?_⟩
    show Sep G _ O i (.lst ds') π _
    rw [Sep]
    refine ⟨a,xs',rfl,h1,aW,h'.keep (fun _ _ z => z) fun b τ hτ q => ⟨q,ax fun z => ?_⟩⟩
    rw [z,h1] at q
    have:=congrArg List.length (Prod.mk.inj (Option.some.inj q)).2
    simp at this
    exact hτ this
  | c :: p,d,π,v,ds,h,g => by
    change (match f7 d c with | some e => gk p e | none => none) = _ at g
    cases q:f7 d c with
    | none => rw [q] at g; cases g
    | some d1 =>
      rw [q] at g
      have other:∀ (a b:Addr) (j:Nat) (τ:List Nat),O a = some (i,p.reverse ++ c :: π) → O b = some (i,τ ++ j :: π) → j ≠ c → b ≠ a:=fun a b j τ ha hb hj z => by
        rw [z,ha] at hb
        have e:=congrArg List.reverse (Prod.mk.inj (Option.some.inj hb)).2
        simp at e
        exact hj e.1.symm
      have lab:(c :: p).reverse ++ π = p.reverse ++ c :: π:=by simp
      have hset:∀ x,nk (c :: p) d x = putS d c (nk p d1 x):=fun x => by
        show (match f7 d c with | some e => putS d c (nk p e x) | none => d) = _
        rw [q]
      cases d with
      | lst es =>
        rw [Sep] at h
        obtain ⟨a0,ys,rfl,h1,h2,h3⟩:=h
        obtain ⟨w,e1,e2⟩:=h3.at (j:=c) q
        rw [Nat.zero_add] at e2
        obtain ⟨a,xs,k1,k2,k3,k4,k5⟩:=Sep.focus gh og e2 g
        have n0:a0 ≠ a:=fun z => by
          rw [← z,h1] at k2
          have:=congrArg List.length (Prod.mk.inj (Option.some.inj k2)).2
          simp at this
          omega
        refine ⟨a,xs,⟨ys,w,⟨a0,rfl,.inl h2⟩,e1,k1⟩,by rw [lab]; exact k2,k3,by rw [lab]; exact k4,fun ds' xs' h' => ?_⟩
        rw [hset]
        show Sep G _ O i (.lst (es.set c _)) π _
        rw [Sep]
        refine ⟨a0,ys,rfl,h1,by rw [ax n0]; exact h2,?_⟩
        refine h3.repl e1 (by rw [Nat.zero_add]; exact k5 ds' xs' (by rw [lab] at h'; exact h')) fun j d v hj s => ?_
        rw [Nat.zero_add] at s ⊢
        exact s.keep (fun _ _ z => z) fun b τ qb => ⟨qb,ax (other a b j τ k2 qb hj)⟩
      | tup es =>
        rw [Sep] at h
        obtain ⟨a0,ys,rfl,h1,h3⟩:=h
        obtain ⟨w,e1,e2⟩:=h3.at (j:=c) q
        rw [Nat.zero_add] at e2
        obtain ⟨a,xs,k1,k2,k3,k4,k5⟩:=Sep.focus gh og e2 g
        refine ⟨a,xs,⟨ys,w,⟨a0,rfl,.inr (gh _ _ h1)⟩,e1,k1⟩,by rw [lab]; exact k2,k3,by rw [lab]; exact k4,fun ds' xs' h' => ?_⟩
        rw [hset]
        show Sep G _ O i (.tup (es.set c _)) π _
        rw [Sep]
        refine ⟨a0,ys,rfl,h1,?_⟩
        refine h3.repl e1 (by rw [Nat.zero_add]; exact k5 ds' xs' (by rw [lab] at h'; exact h')) fun j d v hj s => ?_
        rw [Nat.zero_add] at s ⊢
        exact s.keep (fun _ _ z => z) fun b τ qb => ⟨qb,ax (other a b j τ k2 qb hj)⟩
      | _ => cases q
section
variable {C:Ctx} {ow:List Bool} {G:Hp} {ρ:DSt} {σ:St} {H:Hp} {pd:List (D × V)} {O:Own}
theorem RO.writeP (h:RO C ow G ρ σ H pd O) {i:Nat} {p:List Nat} {d:D} {ds:List D} (e : ρ[i]? = some (some d)) (hp:gk p d = some (.lst ds)) (hi:ow[i]? = some true) :
    ∃ v a xs,σ[i]? = some (some v) ∧ cR H p v (.ref a) ∧ H a = some (.lst xs) ∧ Seps G H O (2 * i) ds 0 p.reverse xs ∧
      ∀ ds' xs',Seps G H O (2 * i) ds' 0 p.reverse xs' → RO C ow G (ρ.set i (some (nk p d (.lst ds')))) σ (upd H a (.lst xs')) pd O:=by
  obtain ⟨v,hv,s⟩:=h.sl i _ e
  rw [if_pos hi] at s
  obtain ⟨a,xs,k1,k2,k3,k4,k5⟩:=Sep.focus h.gh (fun a l e => (h.og a l e).1) s hp
  rw [List.append_nil] at k2 k4 k5
  refine ⟨v,a,xs,hv,k1,k3,k4,fun ds' xs' hs' => ?_⟩
  obtain ⟨g0,_,nw⟩:=h.og a _ k2
  have ne:∀ b l π,O b = some (l,π) → l ≠ 2 * i → b ≠ a:=fun b l π q n z => by
    rw [z,k2] at q
    exact n (Prod.mk.inj (Option.some.inj q)).1.symm
  refine ⟨by simp [h.len],?_,h.g0,h.gn,?_,h.cok,?_,?_,h.mp,?_,?_,h.np⟩
  · intro b o q
    rw [ax (fun z => by rw [z,g0] at q; cases q)]; exact h.gh _ _ q
  · intro b l q
    obtain ⟨q1,⟨ys,q2⟩,q3⟩:=h.og b l q
    refine ⟨q1,?_,q3⟩
    by_cases z:b = a
    · subst z; exact ⟨.inl _,aW⟩
    · rw [ax z]; exact ⟨ys,q2⟩
  · intro b o q n
    by_cases z:b = a
    · subst z
      rcases nw with nw | ⟨_,nw⟩
      · rw [nw] at q; cases q
      · rw [nw] at n; cases n
    · rw [ax z]; exact h.fr b o q n
  · intro b q
    by_cases z:b = a
    · subst z; rw [aW] at q; cases q
    · rw [ax z] at q; exact h.al b q
  · intro j u q
    rcases dZ q with ⟨rfl,z⟩ | ⟨z,q'⟩
    · cases z
      exact ⟨v,hv,by rw [if_pos hi]; exact k5 ds' xs' hs'⟩
    · obtain ⟨w,h1,h2⟩:=h.sl j u q'
      refine ⟨w,h1,?_⟩
      split at h2
      · rename_i c; rw [if_pos c]; exact h2.keep (fun _ _ z => z) fun b τ q => ⟨q,ax (ne b _ _ q (by omega))⟩
      · rename_i c; rw [if_neg c]; exact h2
  · exact cn.keep (fun _ _ z => z) (fun b j π hj q => ⟨q,ax (ne b _ _ q (fun z => cO z.symm))⟩) h.pn
end
abbrev MN0:=DSt → (Int → Prop) → Prop
def SN0 (ow:List Bool) (t:TE) (m:MN0):Prop:=∀ (C:Ctx) (G:Hp) (ρ:DSt) (σ:St) (H:Hp) (pd:List (D × V)) (q:Int → Prop) (Q:VK),R C ow G ρ σ H pd → m ρ q → (∀ n,q n → Q (.int n) H) → t σ H Q
structure QN0 (X:Cx) (ow:List Bool) (e:Expr) (m:MN0):Prop where
  ex:∃ t,PE X e t ∧ SN0 ow t m
section
variable {X:Cx} {ow:List Bool} {a b e:Expr} {pos:Pos} {ma mb:MN0}
theorem wd {i j}:QN0 X ow (.Constant (.int i) j pos) (fun _ q => q i):=⟨_,pO,fun C G ρ σ H pd q Q r h k => k _ h⟩
theorem xi (i:Nat) {x:Str} (hs:ow[i]? ≠ some true:=by decide) (hN:X.N[i]? = some x:=by rfl) (hv:Vis X.env.scope x:=by first | exact Or.inl rfl | exact Or.inr (Or.inl rfl) | exact Or.inr (Or.inr rfl)) (hd:(x == ("__debug__":Str)) = false:=by decide)
    (hcd:(x == ("__classdict__":Str)) = false:=by decide):QN0 X ow (.Name x pos) (fun ρ q => ∃ n,ρ[i]? = some (some (.int n)) ∧ q n):=⟨_,d6 hN hv hd hcd,fun C G ρ σ H pd q Q r h k => by
  obtain ⟨n,e,hq⟩:=h
  obtain ⟨O,ro⟩:=r
  obtain ⟨v,h1,h2⟩:=ro.sl i _ e
  rw [if_neg hs] at h2
  refine ⟨v,h1,?_⟩
  rw [aA h2]; exact k n hq⟩
theorem qz_op {op:Operator} {c:Int → Int → Prop} {g:Int → Int → Int} (ho:OpR X (binaryOp op) (rI c fun i j => .int (g i j))) (ha:QN0 X ow a ma) (hb:QN0 X ow b mb):QN0 X ow (.BinOp a op b pos) (fun ρ q => ma ρ fun i => mb ρ fun j => c i j ∧ q (g i j)):=by
  obtain ⟨ta,pa,sa⟩:=ha; obtain ⟨tb,pb,sb⟩:=hb
  exact ⟨_,nX ho pa pb,fun C G ρ σ H pd q Q r h k => sa C G ρ σ H pd _ _ r h fun i hi => sb C G ρ σ H pd _ _ r hi fun j hj => ⟨i,j,rfl,rfl,hj.1,k _ hj.2⟩⟩
end
abbrev MPt:=DSt → (List Nat → D → Prop) → Prop
def SPt (ow:List Bool) (i:Nat) (t:TE) (m:MPt):Prop:=∀ (C:Ctx) (G:Hp) (ρ:DSt) (σ:St) (H:Hp) (pd:List (D × V)) (O:Own) (q:List Nat → D → Prop) (Q:VK),RO C ow G ρ σ H pd O → m ρ q →
  (∀ p d0 e v0 v,q p e → ρ[i]? = some (some d0) → gk p d0 = some e → σ[i]? = some (some v0) → cR H p v0 v → Q v H) → t σ H Q
structure QPt (X:Cx) (ow:List Bool) (i:Nat) (e:Expr) (m:MPt):Prop where
  ex:∃ t,PE X e t ∧ SPt ow i t m
theorem RO.walk {C:Ctx} {ow:List Bool} {G:Hp} {ρ:DSt} {σ:St} {H:Hp} {pd:List (D × V)} {O:Own} (h:RO C ow G ρ σ H pd O) {i:Nat} {p:List Nat} {d e:D} (e1 : ρ[i]? = some (some d)) (hp:gk p d = some e) :
    ∃ v u,σ[i]? = some (some v) ∧ cR H p v u ∧ ∃ G',aR G' H ∧ cR G' p v u ∧ Rep G' e u:=by
  obtain ⟨v,hv,_⟩:=h.sl i _ e1
  have r:=h.enter [i]
  obtain ⟨v',hv',s⟩:=r.sl i _ e1
  rw [hv] at hv'; cases hv'
  rw [if_neg (fun z => by rw [c9] at z; simp at z)] at s
  obtain ⟨u,k1,k2⟩:=Rep.walk s hp
  exact ⟨v,u,hv,k1.mono r.gh,_,r.gh,k1,k2⟩
section
variable {X:Cx} {M:Md} {ow:List Bool} {i:Nat} {a b e:Expr} {pos:Pos} {mp:MPt} {mz:MN0} {ma:ME}
theorem vq {x:Str} (hN:X.N[i]? = some x:=by rfl) (hv:Vis X.env.scope x:=by first | exact Or.inl rfl | exact Or.inr (Or.inl rfl) | exact Or.inr (Or.inr rfl)) (hd:(x == ("__debug__":Str)) = false:=by decide)
    (hcd:(x == ("__classdict__":Str)) = false:=by decide):QPt X ow i (.Name x pos) (fun ρ q => ∃ d,ρ[i]? = some (some d) ∧ q [] d):=⟨_,d6 hN hv hd hcd,fun C G ρ σ H pd O q Q r h k => by
  obtain ⟨d,e,hq⟩:=h
  obtain ⟨v,h1,_⟩:=r.sl i _ e
  exact ⟨v,h1,k [] d d v v hq e rfl h1 rfl⟩⟩
def mPIx (mp:MPt) (mz:MN0):MPt:=fun ρ q => mp ρ fun p d => mz ρ fun n => ∃ c e,ixN (lenD d) n = some c ∧ f7 d c = some e ∧ q (p ++ [c]) e
theorem qp_ix (ha:QPt X ow i a mp) (hb:QN0 X ow b mz) (hs:kD b:=by exact fun _ _ => rfl):QPt X ow i (.Subscript a b pos) (mPIx mp mz):=by
  obtain ⟨ta,pa,sa⟩:=ha; obtain ⟨tb,pb,sb⟩:=hb
  refine ⟨_,t7 ao pa pb hs,fun C G ρ σ H pd O q Q r h k => ?_⟩
  refine sa C G ρ σ H pd O _ _ r h fun p d0 d v0 v hq e1 e2 e3 wk => ?_
  refine sb C G ρ σ H pd _ _ ⟨O,r⟩ hq fun n hn => ?_
  obtain ⟨c,e,h1,h2,hq⟩:=hn
  obtain ⟨v',u,g1,g2,G',sG,g3,g4⟩:=r.walk e1 e2
  rw [e3] at g1; cases g1
  obtain rfl:=wk.one g2
  have hx:∃ bb xs w,v = V.ref bb ∧ (H bb = some (.lst xs) ∨ H bb = some (.tup xs)) ∧ xs.length = lenD d ∧ xs[c]? = some w:=by
    cases d with
    | lst ds =>
      rw [Rep] at g4
      obtain ⟨bb,xs,rfl,f1,f2⟩:=g4
      obtain ⟨w,d',w1,w2,w3⟩:=fZ (r:=c) f2 (List.getElem?_eq_some_iff.mp h2).1
      exact ⟨bb,xs,w,rfl,.inl (sG _ _ f1),f2.length,w1⟩
    | tup ds =>
      rw [Rep] at g4
      obtain ⟨bb,xs,rfl,f1,f2⟩:=g4
      obtain ⟨w,d',w1,w2,w3⟩:=fZ (r:=c) f2 (List.getElem?_eq_some_iff.mp h2).1
      exact ⟨bb,xs,w,rfl,.inr (sG _ _ f1),f2.length,w1⟩
    | _ => cases h2
  obtain ⟨bb,xs,w,rfl,f1,f2,f3⟩:=hx
  have at1:atI xs n = some w:=by unfold atI; rw [f2,h1]; exact f3
  have fin:Q w H:=k (p ++ [c]) d0 e v0 w hq e1 (by rw [iW e2]; exact h2) e3 (wk.snoc ⟨bb,rfl,f1⟩ f3)
  rcases f1 with f1 | f1
  · exact .inl ⟨bb,xs,n,w,rfl,rfl,SqL.of f1,at1,fin⟩
  · exact .inr (.inl ⟨bb,xs,n,w,rfl,rfl,SqT.of f1,at1,fin⟩)
def mAppP (i:Nat) (mp:MPt) (m:ME):MS:=fun n ρ => mp ρ fun p e => ∃ d0 ds,e = .lst ds ∧ ρ[i]? = some (some d0) ∧ m ρ fun d ρ1 => imm d = true ∧ ds.length < 1000 ∧ n.nx (ρ1.set i (some (nk p d0 (.lst (ds ++ [d])))))
theorem tO {apos cpos:Pos} (hp:QPt X M.ow i a mp) (he:QE X (bor [i] M.ow) e ma) (ho:M.ow[i]? = some true:=by decide)
    (hbase:attributeBase a "append" X.env (eval a X.env) = eval a X.env:=by rfl)
    (hfew:((backTo cpos (starEach [e] X.env)).all (fun x => !x.1) && (backToKw cpos (keywordEach [] X.env)).all (fun x => x.1.isSome)
      && decide ([e].length + ([]:List Keyword).length + (if ([]:List Keyword).isEmpty then 0 else 1) < 30)) = true:=by rfl)
    (hline:(apos.endLine == cpos.line) = true:=by rfl) (hst:starEach [e] X.env = [(false,eval e X.env)]:=by rfl)
    (hs:swapsWith (.Call (.Attribute a "append" apos) [e] [] cpos) none pos.line X.env = pure false:=by rfl) :
    QS X M (.Expr (.Call (.Attribute a "append" apos) [e] [] cpos) pos) (mAppP i mp ma):=by
  obtain ⟨t,p,s⟩:=he; obtain ⟨t1,p1,s1⟩:=hp
  refine ⟨_,gH (rD PySem.F.plainAttrs_list PySem.F.slot_list_append PySem.F.type_list_append jb p1 (cD p fw hst) hbase hfew hline hst (by rfl)) hs,fun C G ρ σ H n D hm hn r h k => ?_⟩
  obtain ⟨O,ro⟩:=r
  refine s1 C G ρ σ H [] O _ _ ro h fun p d0 e v0 u hq e1 e2 e3 wk => ?_
  obtain ⟨d0',ds,rfl,e1',hq⟩:=hq
  rw [e1] at e1'; cases e1'
  have rb:=ro.enter [i]
  obtain ⟨v',hv',sb⟩:=rb.sl i _ e1
  rw [e3] at hv'; cases hv'
  rw [if_neg (fun z => by rw [c9] at z; simp at z)] at sb
  obtain ⟨u',k1,k2⟩:=Rep.walk sb e2
  cases (k1.mono rb.gh).one wk
  rw [Rep] at k2
  obtain ⟨a1,xs1,rfl,f1,f2⟩:=k2
  refine ⟨.inl ⟨rfl,xs1,SqL.of (rb.gh _ _ f1)⟩,?_⟩
  refine s _ _ ρ σ H [] _ _ ⟨_,rb⟩ hq fun d ρ' v G' H' hq z kp r' pv => ?_
  obtain ⟨O',r'⟩:=r'
  obtain ⟨r2,z2,ts⟩:=ro.leave r' kp
  have ei : ρ'[i]? = some (some d0):=by rw [kp i (fun z => by rw [c9] at z; simp at z)]; exact e1
  obtain ⟨v1,a2,xs2,g1,g2,g3,g4,g5⟩:=r2.writeP ei e2 ho
  rw [e3] at g1; cases g1
  have k3:cR H' p v0 (.ref a1):=(k1.mono z).mono r'.gh
  cases k3.one g2
  refine ⟨a1,xs2,v,rfl,rfl,g3,by rw [g4.length]; exact cL (Nat.le_of_lt hq.2.1),?_⟩
  exact k.nx _ _ _ _ hq.2.2 z2 ⟨_,g5 _ _ (g4.snoc (by rw [Nat.zero_add]; exact (pv.imms ts d v hq.1).sep d _ v hq.1))⟩
end
section
variable {X:Cx} {M:Md} {i:Nat} {pos:Pos} {mg:MG} {m:MS}
end
end L2
namespace L2
open PySem
end L2
namespace L2
open PySem PySem.Spec PyProof.Rows
section
variable {X:Cx}
end
section
variable {X:Cx} {pins:List (Addr × Obj)} {σ:St} {H:Hp} {s:Shared}
end
section
variable {X:Cx} {ow:List Bool} {pos:Pos}
end
section
open AutoSeq1 (wpAny_loadPart')
open MeetsSeq MeetsSeq2 MeetsSeq3
end
section
variable {prog:Program} {w:World} {A:Around} {E:Value → Shared → Prop} {s:Shared}
end
section
variable {X:Cx}
end
section
variable {X:Cx} {ow:List Bool} {pos p1 p2 p3 p4:Pos} {j1 j2 j3 j4:Nat}
end
end L2
namespace L2
open PySem
end L2
namespace L2
open PySem PySem.Spec PyProof.Rows
section
variable {X:Cx} {ow:List Bool} {a b:Expr} {ma mb:DSt → (Int → Prop) → Prop} {pos:Pos}
end
section
variable {C:Ctx} {ow:List Bool} {G G':Hp} {ρ:DSt} {σ:St} {H H':Hp} {pd:List (D × V)} {O O':Own}
end
section
variable {X:Cx} {ow:List Bool} {tg iter:Expr} {ifs:List Expr} {pos pos':Pos} {mi:MA} {mg:MG} {scope:Scope} {cl:List (Str × Addr)}
end
section
variable {X:Cx}
variable {a b:Expr} {mr:MA} {pos:Pos}
end
section
variable {X:Cx} {tg:Expr}
variable {ow:List Bool} {a:Expr} {mr:MA} {pos:Pos}
end
section
variable {X:Cx}
open PySem.Builtin.Str (partsBetween occurrences)
variable {ow:List Bool} {e a b:Expr} {ma mb:ME}
end
section
variable {X:Cx} {tg:Expr}
variable {ow:List Bool} {e:Expr} {ma:ME}
end
end L2
namespace L2
open PySem PySem.Spec PyProof.Rows
section
variable {X:Cx}
theorem sA {body:List Stmt} {x:Str} {np npos pos:Pos} {n:Option Str} {b0:Stmt} {suite:List Stmt} {t:TS} (hx:∀ e s,X.xe e s → False) (hb:PSs X body t) :
    PS X (.Try body [.ExceptHandler (some (.Name x np)) n (b0 :: suite) npos] [] [] pos) t:=by
  refine ⟨fun pins s σ H D I h => ?_⟩
  refine wpAny_Try_except ?_
  refine wpAny_mono (hb pins s σ H D I h) (fun f s' q => ?_) fun e s' q => (hx e s' q).elim
  cases f with
  | next => exact wpAny_execs_nil q
  | ret v => exact q
  | brk => exact q
  | cont => exact q
theorem nR {M:Md} {body:List Stmt} {x:Str} {np npos pos:Pos} {n:Option Str} {b0:Stmt} {suite:List Stmt} {m:MS} (hx:∀ e s,X.xe e s → False) (hb:QSs X M body m) :
    QS X M (.Try body [.ExceptHandler (some (.Name x np)) n (b0 :: suite) npos] [] [] pos) m:=by
  obtain ⟨t,p,s⟩:=hb
  exact ⟨t,sA hx p,s⟩
end
end L2
namespace L2
open PySem
def oN (ps rs:List Int) (as:List Ask) (S:FS):Prop:=∀ j:Nat,S.prices.getD j 0 ≠ 0 → ∃ k ∈ S.sent,((j:Int) + 1) ∈ az ps (aL as k) ∧ rs.getD j 0 < S.load.getD j 0 + (aL as k).size
theorem oN.step {ps rs:List Int} {as:List Ask} {S:FS} {k:Int} (hT:Tree ps rs) (ha:AsksOk ps as) (hl:S.load.length = ps.length) (k0 : 0 ≤ k) (k1:k < (as.length:Int)) (h:oN ps rs as S):oN ps rs as (bW ps rs as S k):=by
  have hw:=eQ hT ha k0 k1
  have hs:=(b_ ha k0 k1).s0
  unfold bW
  split
  · intro j hj
    obtain ⟨z,hz,hm,hlt⟩:=h j hj
    refine ⟨z,hz,hm,?_⟩
    have e:=fM (s:=(aL as k).size) (j:=j) hw.1 (l:=S.load) (by rw [hl]; exact hw.2)
    show rs.getD j 0 < (cF S.load (az ps (aL as k)) (aL as k).size).getD j 0 + _
    rw [e]; unfold cnt; split <;> omega
  · rename_i t ts ho
    intro j hj
    show ∃ z ∈ S.sent ++ [k],_
    have ht:t ∈ eX ps rs as S k:=by rw [ho]; exact .head _
    obtain ⟨ht1,ht2⟩:=List.mem_filter.mp ht
    have ht2:=of_decide_eq_true ht2
    have ht0:=hw.2 t ht1
    by_cases c:j = (t - 1).toNat
    · subst c
      exact ⟨k,List.mem_append.mpr (.inr (.head _)),by rw [show (((t - 1).toNat:Int) + 1) = t by omega]; exact ht1,ht2⟩
    · have hj2:S.prices.getD j 0 ≠ 0:=by
        have hj:(if dz S.prices (t :: ts) = true then S.prices.set (t - 1).toNat (aK as k) else S.prices).getD j 0 ≠ 0:=hj
        by_cases c2:dz S.prices (t :: ts) = true
        · rw [if_pos c2,List.getD_eq_getElem?_getD,List.getElem?_set_ne (fun e => c e.symm),← List.getD_eq_getElem?_getD] at hj; exact hj
        · rw [if_neg c2] at hj; exact hj
      obtain ⟨z,hz,hm,hlt⟩:=h j hj2
      exact ⟨z,List.mem_append.mpr (.inl hz),hm,hlt⟩
theorem oI {ps rs:List Int} {as:List Ask} (hT:Tree ps rs) (ha:AsksOk ps as):∀ (r:List Int) (n:Nat) (S:FS),FillOk ps n S → oN ps rs as S → (∀ k ∈ r,0 ≤ k ∧ k < (as.length:Int)) → oN ps rs as (r.foldl (bW ps rs as) S):=by
  intro r
  induction r with
  | nil => intro n S _ h _; exact h
  | cons k r ih =>
    intro n S hf h hr
    have hk:=hr k (.head _)
    exact ih (n + 1) _ (hf.step hk.1) (h.step hT ha hf.ll hk.1 hk.2) fun z hz => hr z (.tail _ hz)
structure UnlikeM (ps rs:List Int) (as:List Ask) (ks:List Int) (prs:List Rat):Prop where
  ok:UnlikeOk ps rs as ks prs
  met:∀ j:Nat,prs.getD j 0 ≠ 0 → ∃ k:Int,(0 ≤ k ∧ k < (as.length:Int)) ∧ k ∉ ks ∧ ((j:Int) + 1) ∈ az ps (aL as k) ∧ rs.getD j 0 - (aZ ps as ks).getD j 0 < (aL as k).size
  free:∀ n:Int,0 ≤ n → n < (as.length:Int) → n ∉ ks → a7 ps (aL as n) (aL as n).size prs = 0
theorem qW {ps rs:List Int} {as:List Ask} {o:List Int} (hT:Tree ps rs) (ha:AsksOk ps as) (hh:eZ ps rs as) (ho:OrdN as as.length o):UnlikeM ps rs as (bO (b5 ps rs as o).keep) (b5 ps rs as o).prices:=by
  have hF:=qJ hT ha hh ho
  have hU:=pK hT ha hF (iF hT ha ho)
  have hM:oN ps rs as (b5 ps rs as o):=oI hT ha o 0 _ (nM ps) (fun j hj => absurd (by show (List.replicate ps.length (0:Rat)).getD j 0 = 0; rw [List.getD_eq_getElem?_getD,List.getElem?_replicate]; split <;> rfl) hj) fun k hk => (ho.mem k).mp hk
  generalize b5 ps rs as o = S at *
  have hp:=bN S.keep
  have hi:=hF.inv
  have hld:aZ ps as (bO S.keep) = S.load:=by rw [hi.load]; exact g7 hT ha hp hi.kr
  have hnd0:(S.keep ++ S.sent).Nodup:=hF.perm.nodup_iff.mpr (List.Pairwise.map _ (fun a b h e => h (Int.ofNat.inj e)) List.nodup_range)
  refine ⟨hU,fun j hj => ?_,fun n n0 n1 hn => ?_⟩
  · obtain ⟨k,hk,hm,hlt⟩:=hM j hj
    refine ⟨k,hi.sr k hk,fun hks => ?_,hm,by rw [hld]; omega⟩
    exact (List.nodup_append.mp hnd0).2.2 k (hp.mem_iff.mp hks) k hk rfl
  · have hk:n ∈ S.sent:=by
      have hm:n ∈ S.keep ++ S.sent:=hF.perm.mem_iff.mpr (List.mem_map.mpr ⟨n.toNat,List.mem_range.mpr (by omega),by omega⟩)
      exact (List.mem_append.mp hm).resolve_left fun h => hn (hp.mem_iff.mpr h)
    have hok:=b_ ha n0 n1
    have h2:=Rat.mul_le_mul_of_nonneg_right (hi.paid n hk) (Rat.le_of_lt (eM hok))
    have h3:aK as n * ((aL as n).size:Rat) = ((aL as n).worth:Rat):=fL hok
    unfold a7 fu
    rw [if_neg]
    rw [h3] at h2
    intro h4
    grind
def shB (ps rs:List Int) (as:List Ask) (ks:List Int) (prs:List Rat) (r:Rat):Bool:=decide (1 ≤ r) && decide (aS ps rs as prs ≤ r * ((cx as ks:Int):Rat))
def wI:SpD:=fun ds q => ∃ ps rs as ks,ds = [aN ps rs,aT as,ap ks] ∧ Tree ps rs ∧ AsksOk ps as ∧ KeepOk as.length ks ∧ dY (aZ ps as ks) rs = .non ∧ q (.bl true) []
def sB:SpD:=fun ds q => ∃ ps rs prs,ds = [aN ps rs,dQs prs] ∧ Tree ps rs ∧ PricesOk ps prs ∧ q (.bl true) []
def qS:SpD:=fun ds q => ∃ ps rs as ks prs r,ds = [aN ps rs,aT as,.tup [ap ks,dQs prs,dQ r]] ∧ Tree ps rs ∧ AsksOk ps as ∧ KeepOk as.length ks ∧ dY (aZ ps as ks) rs = .non ∧ PricesOk ps prs ∧ Bt r 1000 ∧ q (.bl (shB ps rs as ks prs r)) []
theorem oO {ld rs:List Int} (h:p_ ld rs = true):dY ld rs = .non:=by
  have:ig ld rs = []:=by
    unfold ig
    rw [List.map_eq_nil_iff,List.filter_eq_nil_iff]
    intro k hk
    have:=fJ.mp h k (List.mem_range.mp hk)
    simpa using this
  unfold dY; rw [this]
end L2
namespace L2
open PySem PySem.Spec PyProof.Rows
section
variable {prog:Program} {w:World} {A:Around} {E:Value → Shared → Prop} {s:Shared}
theorem rR (a b c d:Value):argsOk "max" ⟨[a,b,c,d],[]⟩:=by unfold argsOk; kernel_rfl
theorem rQ {a b c d:Int} {t u x y:Tok} {Q:Value → Shared → Prop} (hh:A.handled = none)
    (h:∀ (m:Int) (z:Tok) h' tk,m ∈ [a,b,c,d] → (∀ i,i ∈ [a,b,c,d] → i ≤ m) → (∀ e o,s.heap.get? e = some o → h'.get? e = some o) → Q (.int m z) { s with heap:=h',toks:=tk }) :
    wpAny (model prog w) A (call (.builtin "max") [.int a t,.int b u,.int c x,.int d y]) Q E s:=by
  have nm:(toString "max" ++ toString ".loop":String) = "max.loop":=by decide
  generalize exs:(#[(a,t),(b,u),(c,x),(d,y)]:Array (Int × Tok)) = xs
  have hT:(s.heap.push { cls:=.type "tuple",data:=.seq #[.int a t,.int b u,.int c x,.int d y] }).IsTuple s.heap.objs.size (intItems xs):=⟨_,Heap.get?_push_size _ rfl,rfl,0,by rw [← exs]; simp [intItems]⟩
  have hs1:(s.heap.push { cls:=.type "tuple",data:=.seq #[.int a t,.int b u,.int c x,.int d y] }).objs.size = s.heap.objs.size + 1:=Heap.size_push ..
  have e4:(intItems xs).size = 4:=by rw [← exs]; simp [intItems]
  have eY : [a,b,c,d] = xs.toList.map (·.1):=by rw [← exs]; rfl
  refine call_function_tree F.kind_max F.plain_max F.entry_max (rR _ _ _ _) ?_
  show wpAny _ A.in1 (Builtin.Builtins.bindParams "max" ["key","default"] 0 ⟨[],[]⟩ >>= _) _ _ s
  refine wpAny_bind (wpAny_of_eq (show Builtin.Builtins.bindParams "max" ["key","default"] 0 ⟨[],[]⟩ = pure [none,none] from rfl) ?_)
  show wpAny _ A.in1 (newTuple [.int a t,.int b u,.int c x,.int d y] >>= _) _ _ s
  refine wpAny_bind (wpAny_newObj_type (wpAny_bind (wpAny_pyIter_tuple hT (wpAny_bind (wpAny_newObj_type ?_)))))
  rw [nm]
  have hs2:∀ o,((s.heap.push { cls:=.type "tuple",data:=.seq #[.int a t,.int b u,.int c x,.int d y] }).push o).objs.size = s.heap.objs.size + 2:=fun o => by rw [Heap.size_push,hs1]
  have W:=Walks.tuple (prog:=prog) (w:=w) (A:=A.in1) hh (s.heap.push { cls:=.type "tuple",data:=.seq #[.int a t,.int b u,.int c x,.int d y] }).objs.size s.heap.objs.size (by rw [hs1]; exact Nat.ne_of_lt (Nat.lt_succ_self _)) (intItems xs)
  refine wpAny_pure ⟨plainId_quiet F.plain_max_loop _,codeAny_max_loop_first W _ (CmpOf.ints_gt (numAt xs) (fun _ _ => intItems_at)) _ (fun hm => ?_) (by rw [e4]; decide) (W.frame _ _ _ ⟨⟨_,Heap.get?_push_size _ rfl,rfl,rfl⟩,hT.push _⟩ fun b _ o e => Heap.get?_push_of_some _ e) (Heap.get?_push_size _ rfl) fun v h' tk hP hk => ?_⟩
  · rcases List.mem_cons.mp hm with e | hm
    · rw [hs2,hs1] at e; exact absurd (show s.heap.objs.size + 2 = s.heap.objs.size + 1 from e) (by omega)
    · rcases List.mem_cons.mp hm with e | hm
      · rw [hs2] at e; exact absurd (show s.heap.objs.size + 2 = s.heap.objs.size from e) (by omega)
      · cases hm
  obtain ⟨z,rfl⟩:=intItems_at hP
  rw [e4] at hP ⊢
  obtain ⟨h1,h2⟩:=argBest_gt (numAt xs) (4 - 1)
  refine h _ z h' tk ?_ (fun i hi => ?_) fun e o he => hk e o (fun hm => ?_) ?_ ?_
  · rw [numAt_eq,eY]; exact PySem.getD_mem (by rw [← eY]; show _ < 4; omega)
  · rw [eY] at hi
    obtain ⟨j,hj,rfl⟩:=PySem.mem_getD hi
    rw [← eY] at hj
    have hj:j < 4:=hj
    rw [← numAt_eq]; exact h2 j (by omega)
  · have h3:=Heap.lt_size he
    rcases List.mem_cons.mp hm with e1 | hm
    · rw [e1,hs1] at h3; exact absurd (show s.heap.objs.size + 1 < s.heap.objs.size from h3) (by omega)
    · cases hm
  · have h3:=Heap.lt_size he
    intro e1
    rw [e1,hs2] at h3; exact absurd (show s.heap.objs.size + 2 < s.heap.objs.size from h3) (by omega)
  · exact Heap.get?_push_of_some _ (Heap.get?_push_of_some _ (Heap.get?_push_of_some _ he))
end
section
variable {X:Cx}
theorem vals4 {x y z v:V} {us:List Value} (r:aY [x,y,z,v] us):∃ a b c d,us = [a,b,c,d] ∧ bf x a ∧ bf y b ∧ bf z c ∧ bf v d:=by
  cases r with
  | cons r1 r =>
    cases r with
    | cons r2 r =>
      obtain ⟨c,d,rfl,r3,r4⟩:=lN r
      exact ⟨_,_,_,_,rfl,r1,r2,r3,r4⟩
theorem pF (hc:X.calm = true):cC X (.builtin "max") (fun xs H Q => ∃ a b c d,xs = [.int a,.int b,.int c,.int d] ∧ ∀ m,m ∈ [a,b,c,d] → (∀ i,i ∈ [a,b,c,d] → i ≤ m) → Q (.int m) H):=by
  intro pins s σ H xs us Q I r h
  obtain ⟨a,b,c,d,rfl,q⟩:=h
  obtain ⟨_,_,_,_,rfl,⟨_,rfl⟩,⟨_,rfl⟩,⟨_,rfl⟩,⟨_,rfl⟩⟩:=vals4 r
  exact rQ (I.ok.hd hc) fun m z h' tk h1 h2 k => ⟨.int m,H,I.kept k,⟨z,rfl⟩,q m h1 h2⟩
end
def fMax4:List D → (D → Prop) → Prop:=fun ds q => ∃ a b c d,ds = [.int a,.int b,.int c,.int d] ∧ ∀ m,m ∈ [a,b,c,d] → (∀ i,i ∈ [a,b,c,d] → i ≤ m) → q (.int m)
theorem dMax4:dW (fun xs H Q => ∃ a b c d,xs = [.int a,.int b,.int c,.int d] ∧ ∀ m,m ∈ [a,b,c,d] → (∀ i,i ∈ [a,b,c,d] → i ≤ m) → Q (.int m) H) fMax4:=fun G H xs ds q Q s p hf k => by
  obtain ⟨a,b,c,d,rfl,hq⟩:=hf
  rw [Reps] at p
  obtain ⟨v,vs,rfl,p1,p⟩:=p
  rw [Reps] at p
  obtain ⟨u,us,rfl,p2,p⟩:=p
  obtain ⟨x,y,rfl,p3,p4⟩:=dg p
  rw [aA p1,aA p2,aA p3,aA p4]
  exact ⟨a,b,c,d,rfl,fun m h1 h2 => k _ _ (hq m h1 h2) (bq _)⟩
end L2
namespace L2
open PySem
theorem o_ {ps:List Int} {as:List Ask} {ks:List Int} (ha:AsksOk ps as) (hk:∀ k ∈ ks,0 ≤ k ∧ k < (as.length:Int)) : 0 ≤ eV as ks :=
  rX fun k hm => by have:=(b_ ha (hk k hm).1 (hk k hm).2).w0; show 0 ≤ (aL as k).worth; omega
theorem nr {ps rs:List Int} {as:List Ask} {ks:List Int} {prs:List Rat} (hT:Tree ps rs) (ha:AsksOk ps as) (hU:UnlikeOk ps rs as ks prs) {M:Int} (hM:∀ a ∈ as,((az ps a).length:Int) ≤ M) :
    aS ps rs as prs ≤ ((M * (2 - if bP as = true then 1 else 0):Int):Rat) * ((cx as ks:Int):Rat):=by
  by_cases hne:as = []
  · subst hne
    have e2:ks = []:=by
      cases ks with
      | nil => rfl
      | cons k _ => have:=hU.kr k (.head _); simp at this; omega
    subst e2
    have h:=hU.share 1 Rat.le_refl fun a h => by cases h
    rw [show aU (fun a => (a.worth:Rat)) [] [] = 0 from rfl,Rat.mul_zero] at h
    rw [show ((cx [] []:Int):Rat) = 0 from rfl,Rat.mul_zero]; exact h
  · obtain ⟨a,r,e⟩:=List.exists_cons_of_ne_nil hne
    have hm:a ∈ as:=by rw [e]; exact .head _
    have hpos : 0 < (az ps a).length:=kX hT (ha.ok a hm).ends
    have hM1 : 1 ≤ M:=by have:=hM a hm; omega
    have h2:=hU.share (M:Rat) (by rw [show (1:Rat) = ((1:Int):Rat) from rfl]; exact Rat.intCast_le_intCast.mpr hM1) fun b hb => by
      have:=hM b hb
      rw [show (((az ps b).length:Nat):Rat) = (((az ps b).length:Int):Rat) from (Rat.intCast_natCast _).symm]
      exact Rat.intCast_le_intCast.mpr this
    rw [← dq] at h2
    have ec:cOf as = ((2 - if bP as = true then 1 else 0:Int):Rat):=by
      unfold cOf
      by_cases h:bP as = true
      · rw [if_pos h,if_pos h]; rfl
      · rw [if_neg h,if_neg h]; rfl
    rw [ec,← Rat.intCast_mul,Int.mul_comm] at h2
    exact h2
theorem lG {ps rs:List Int} {as:List Ask} {ks:List Int} {prs:List Rat} {r:Rat} (h1 : 1 ≤ r) (h2:aS ps rs as prs ≤ r * ((cx as ks:Int):Rat)):shB ps rs as ks prs r = true:=by
  unfold shB; rw [decide_eq_true h1,decide_eq_true h2]; rfl
theorem qK {ps rs:List Int} {as:List Ask} {ks:List Int} {prs:List Rat} {r:Rat} (h2:r * ((cx as ks:Int):Rat) < aS ps rs as prs):shB ps rs as ks prs r = false:=by
  unfold shB; rw [decide_eq_false (Rat.not_le.mpr h2),Bool.and_false]
theorem sh {ps rs:List Int} {as:List Ask} {ks:List Int} {prs:List Rat} {t m:Int} (hw : 0 ≤ cx as ks) (h1 : 1 ≤ m) (hm:t ≤ m) (h:aS ps rs as prs ≤ (t:Rat) * ((cx as ks:Int):Rat)):shB ps rs as ks prs (m:Rat) = true :=
  lG (by rw [show (1:Rat) = ((1:Int):Rat) from rfl]; exact Rat.intCast_le_intCast.mpr h1) (Rat.le_trans h (Rat.mul_le_mul_of_nonneg_right (Rat.intCast_le_intCast.mpr hm) (by rw [show (0:Rat) = ((0:Int):Rat) from rfl]; exact Rat.intCast_le_intCast.mpr hw)))
theorem sO {B:Rat} {W:Int} (hW : 0 < W) (h:W * B.den < B.num):Rat.divInt B.num (W * B.den) * (W:Rat) = B ∧ 1 < Rat.divInt B.num (W * B.den):=by
  have e:=cJ B
  have d0:(0:Rat) < ((B.den:Int):Rat):=by rw [show (0:Rat) = ((0:Int):Rat) from rfl]; exact Rat.intCast_lt_intCast.mpr (by have:=B.den_pos; omega)
  have w0:(0:Rat) < (W:Rat):=by rw [show (0:Rat) = ((0:Int):Rat) from rfl]; exact Rat.intCast_lt_intCast.mpr hW
  have h3:((W * B.den:Int):Rat) < (B.num:Rat):=Rat.intCast_lt_intCast.mpr h
  rw [Rat.divInt_eq_div,Rat.intCast_mul]
  rw [Rat.intCast_mul] at h3
  rw [Rat.divInt_eq_div] at e
  have p:(0:Rat) < (W:Rat) * ((B.den:Int):Rat):=Rat.mul_pos w0 d0
  generalize (B.num:Rat) = n at *
  generalize ((B.den:Int):Rat) = d at *
  generalize (W:Rat) = w at *
  have e1:n / (w * d) * (w * d) = n:=Rat.div_mul_cancel (by grind)
  refine ⟨?_,?_⟩
  · rw [← e]
    have:d ≠ 0:=by grind
    have:w ≠ 0:=by grind
    grind
  · refine Rat.not_le.mp fun hle => ?_
    have:=Rat.mul_le_mul_of_nonneg_right hle (Rat.le_of_lt p)
    grind
theorem sH {r:Rat}:Rat.divInt (r.num + r.den) (2 * r.den) = (r + 1) / 2:=by
  have e:=cJ r
  have d0:(0:Rat) < ((r.den:Int):Rat):=by rw [show (0:Rat) = ((0:Int):Rat) from rfl]; exact Rat.intCast_lt_intCast.mpr (by have:=r.den_pos; omega)
  rw [Rat.divInt_eq_div,Rat.intCast_mul,Rat.intCast_add,show ((2:Int):Rat) = 2 from rfl]
  rw [Rat.divInt_eq_div] at e
  generalize ((r.den:Int):Rat) = d at *
  have:d ≠ 0:=by grind
  generalize (r.num:Rat) = n at *
  grind
theorem tR {r w B:Rat} (hr : 1 < r) (hw : 0 < w) (h:r * w = B):(r + 1) / 2 * w < B:=by
  rw [← h]
  exact Rat.mul_lt_mul_of_pos_right (by grind) hw
def gO (ks:List Int):D → Option D
  | .int n => if (!ks.contains n) = true then some (.int n) else none
  | _ => none
theorem oU {ks:List Int} {n:Nat} {d:D} (h:d ∈ (ip 0 n).filterMap (gO ks)):∃ k:Int,d = .int k ∧ 0 ≤ k ∧ k < (n:Int) ∧ k ∉ ks:=by
  obtain ⟨e,he,hs⟩:=List.mem_filterMap.mp h
  obtain ⟨j,hj⟩:=List.getElem?_of_mem he
  obtain ⟨h1,rfl⟩:=er hj
  unfold gO at hs
  dsimp only at hs
  split at hs
  · rename_i c
    cases hs
    refine ⟨_,rfl,by omega,by omega,fun hm => ?_⟩
    rw [List.contains_iff_mem.mpr hm] at c; cases c
  · cases hs
end L2
namespace K43
open PySem L2
def top (i:Nat):Stmt:=PySem.Challenge.pw_treeasks_k43_whole_prices_show_the_share.main.body.getD i (.Pass ⟨0,0,0,0⟩)
abbrev jh:Stmt:=top 10
abbrev jV:Stmt:=top 11
abbrev pI:Stmt:=top 12
abbrev i6:Stmt:=top 13
abbrev oK:Stmt:=top 17
abbrev jI:Stmt:=top 18
abbrev jp:Stmt:=top 19
abbrev jw:Stmt:=top 20
abbrev jB:Stmt:=top 25
abbrev oY:Stmt:=top 26
abbrev jg:Stmt:=top 28
abbrev iP:Stmt:=top 29
abbrev ju:Stmt:=top 30
abbrev jl:Stmt:=top 31
abbrev jF:Stmt:=top 32
abbrev o4:Stmt:=top 34
abbrev iN:Stmt:=top 35
abbrev j9:Stmt:=top 36
abbrev jS:Stmt:=top 37
abbrev kb:Stmt:=top 38
abbrev pJ:Stmt:=top 40
abbrev jA:Stmt:=top 41
abbrev iL:Stmt:=top 42
abbrev iO:Stmt:=top 43
abbrev jT:Stmt:=top 44
abbrev i4:Stmt:=top 45
abbrev jm:Stmt:=top 46
abbrev jX:Stmt:=top 48
abbrev oP:Stmt:=top 49
abbrev jz:Stmt:=top 50
abbrev jL:Stmt:=top 51
abbrev iT:Stmt:=top 52
abbrev jN:Stmt:=top 54
abbrev oX:Stmt:=top 55
abbrev pB:Stmt:=top 56
abbrev iS:Stmt:=top 58
abbrev oF:Stmt:=top 59
abbrev jd:Stmt:=top 60
abbrev jx:Stmt:=top 61
abbrev pe:Stmt:=top 63
abbrev iZ:Stmt:=top 64
abbrev jW:Stmt:=top 65
abbrev je:Stmt:=top 67
abbrev jO:Stmt:=top 68
abbrev jf:Stmt:=top 69
abbrev ji:Stmt:=top 70
abbrev ja:Stmt:=top 71
abbrev jG:Stmt:=top 72
abbrev j8:Stmt:=top 73
abbrev jQ:Stmt:=top 74
abbrev i3:Stmt:=top 75
abbrev j_:Stmt:=top 76
abbrev j5:Stmt:=top 77
abbrev i7:Stmt:=top 78
abbrev i9:Stmt:=top 79
abbrev f_:Stmt:=top 80
set_option genInjectivity false in
structure Adr where
  f_q29:Addr
  d_q29:FuncData
  f_q16:Addr
  d_q16:FuncData
  f_q2:Addr
  d_q2:FuncData
  f_q11:Addr
  d_q11:FuncData
  f_q5:Addr
  d_q5:FuncData
  f_q10:Addr
  d_q10:FuncData
  f_q26:Addr
  d_q26:FuncData
  f_q22:Addr
  d_q22:FuncData
  f_q45:Addr
  d_q45:FuncData
  f_q7:Addr
  d_q7:FuncData
  f_q25:Addr
  d_q25:FuncData
  f_q59:Addr
  d_q59:FuncData
  f_q60:Addr
  d_q60:FuncData
  f_q51:Addr
  d_q51:FuncData
  f_q61:Addr
  d_q61:FuncData
  f_q8:Addr
  d_q8:FuncData
  f_q53:Addr
  d_q53:FuncData
  f_q13:Addr
  d_q13:FuncData
  f_q52:Addr
  d_q52:FuncData
  f_q41:Addr
  d_q41:FuncData
  f_q9:Addr
  d_q9:FuncData
  f_q49:Addr
  d_q49:FuncData
  f_q18:Addr
  d_q18:FuncData
  f_q39:Addr
  d_q39:FuncData
  f_q58:Addr
  d_q58:FuncData
  f_q15:Addr
  d_q15:FuncData
  f_q32:Addr
  d_q32:FuncData
  f_q27:Addr
  d_q27:FuncData
  f_q4:Addr
  d_q4:FuncData
  f_q31:Addr
  d_q31:FuncData
  f_q50:Addr
  d_q50:FuncData
  f_q24:Addr
  d_q24:FuncData
  f_q23:Addr
  d_q23:FuncData
  f_q6:Addr
  d_q6:FuncData
  f_q3:Addr
  d_q3:FuncData
  f_q40:Addr
  d_q40:FuncData
  f_q0:Addr
  d_q0:FuncData
  f_q35:Addr
  d_q35:FuncData
  f_q12:Addr
  d_q12:FuncData
  f_q1:Addr
  d_q1:FuncData
  f_q14:Addr
  d_q14:FuncData
  f_q28:Addr
  d_q28:FuncData
  f_q47:Addr
  d_q47:FuncData
  f_q48:Addr
  d_q48:FuncData
  f_q30:Addr
  d_q30:FuncData
  f_q17:Addr
  d_q17:FuncData
  f_q38:Addr
  d_q38:FuncData
  f_q46:Addr
  d_q46:FuncData
  f_q62:Addr
  d_q62:FuncData
  f_q57:Addr
  d_q57:FuncData
  f_q54:Addr
  d_q54:FuncData
  f_q55:Addr
  d_q55:FuncData
  f_q36:Addr
  d_q36:FuncData
  f_q56:Addr
  d_q56:FuncData
  f_q37:Addr
  d_q37:FuncData
  f_law:Addr
  d_law:FuncData
set_option genInjectivity false in
structure Txt (K:PySem.W.Frag) (mg:Str → Option Value) (A:Adr):Prop where
  F_q29:Fun K "is_whole" "is_whole" jh A.f_q29 A.d_q29
  b_q29:aM K A.d_q29 ["thing"] []
  k_q29:PySem.W.keepIn K (.ref A.f_q29) = true
  m_q29:mg "is_whole" = some (.ref A.f_q29)
  F_q16:Fun K "is_between" "is_between" jV A.f_q16 A.d_q16
  b_q16:aM K A.d_q16 ["thing","least","most"] []
  k_q16:PySem.W.keepIn K (.ref A.f_q16) = true
  m_q16:mg "is_between" = some (.ref A.f_q16)
  F_q2:Fun K "greatest_common" "greatest_common" pI A.f_q2 A.d_q2
  b_q2:aM K A.d_q2 ["number","bottom"] []
  k_q2:PySem.W.keepIn K (.ref A.f_q2) = true
  m_q2:mg "greatest_common" = some (.ref A.f_q2)
  F_q11:Fun K "is_fraction" "is_fraction" i6 A.f_q11 A.d_q11
  b_q11:aM K A.d_q11 ["thing"] []
  k_q11:PySem.W.keepIn K (.ref A.f_q11) = true
  m_q11:mg "is_fraction" = some (.ref A.f_q11)
  F_q5:Fun K "has_two_lists" "has_two_lists" oK A.f_q5 A.d_q5
  b_q5:aM K A.d_q5 ["thing"] []
  k_q5:PySem.W.keepIn K (.ref A.f_q5) = true
  m_q5:mg "has_two_lists" = some (.ref A.f_q5)
  F_q10:Fun K "look_at_tree" "look_at_tree" jI A.f_q10 A.d_q10
  b_q10:aM K A.d_q10 ["thing"] []
  k_q10:PySem.W.keepIn K (.ref A.f_q10) = true
  m_q10:mg "look_at_tree" = some (.ref A.f_q10)
  F_q26:Fun K "is_place" "is_place" jp A.f_q26 A.d_q26
  b_q26:aM K A.d_q26 ["tree","thing"] []
  k_q26:PySem.W.keepIn K (.ref A.f_q26) = true
  m_q26:mg "is_place" = some (.ref A.f_q26)
  F_q22:Fun K "are_ends" "are_ends" jw A.f_q22 A.d_q22
  b_q22:aM K A.d_q22 ["tree","one","other"] []
  k_q22:PySem.W.keepIn K (.ref A.f_q22) = true
  m_q22:mg "are_ends" = some (.ref A.f_q22)
  F_q45:Fun K "is_ask" "is_ask" jB A.f_q45 A.d_q45
  b_q45:aM K A.d_q45 ["tree","thing"] []
  k_q45:PySem.W.keepIn K (.ref A.f_q45) = true
  m_q45:mg "is_ask" = some (.ref A.f_q45)
  F_q7:Fun K "look_at_asks" "look_at_asks" oY A.f_q7 A.d_q7
  b_q7:aM K A.d_q7 ["tree","thing"] []
  k_q7:PySem.W.keepIn K (.ref A.f_q7) = true
  m_q7:mg "look_at_asks" = some (.ref A.f_q7)
  F_q25:Fun K "fraction" "fraction" jg A.f_q25 A.d_q25
  b_q25:aM K A.d_q25 ["top","bottom"] []
  k_q25:PySem.W.keepIn K (.ref A.f_q25) = true
  m_q25:mg "fraction" = some (.ref A.f_q25)
  F_q59:Fun K "minus" "minus" iP A.f_q59 A.d_q59
  b_q59:aM K A.d_q59 ["one","other"] []
  k_q59:PySem.W.keepIn K (.ref A.f_q59) = true
  m_q59:mg "minus" = some (.ref A.f_q59)
  F_q60:Fun K "times" "times" ju A.f_q60 A.d_q60
  b_q60:aM K A.d_q60 ["one","other"] []
  k_q60:PySem.W.keepIn K (.ref A.f_q60) = true
  m_q60:mg "times" = some (.ref A.f_q60)
  F_q51:Fun K "sum_of" "sum_of" jl A.f_q51 A.d_q51
  b_q51:aM K A.d_q51 ["some"] []
  k_q51:PySem.W.keepIn K (.ref A.f_q51) = true
  m_q51:mg "sum_of" = some (.ref A.f_q51)
  F_q61:Fun K "under" "under" jF A.f_q61 A.d_q61
  b_q61:aM K A.d_q61 ["one","other"] []
  k_q61:PySem.W.keepIn K (.ref A.f_q61) = true
  m_q61:mg "under" = some (.ref A.f_q61)
  F_q8:Fun K "look_at_ends" "look_at_ends" o4 A.f_q8 A.d_q8
  b_q8:aM K A.d_q8 ["tree","one","other"] []
  k_q8:PySem.W.keepIn K (.ref A.f_q8) = true
  m_q8:mg "look_at_ends" = some (.ref A.f_q8)
  F_q53:Fun K "climb" "climb" iN A.f_q53 A.d_q53
  b_q53:aM K A.d_q53 ["tree","one","other"] []
  k_q53:PySem.W.keepIn K (.ref A.f_q53) = true
  m_q53:mg "climb" = some (.ref A.f_q53)
  F_q13:Fun K "way_between" "way_between" j9 A.f_q13 A.d_q13
  b_q13:aM K A.d_q13 ["tree","one","other"] []
  k_q13:PySem.W.keepIn K (.ref A.f_q13) = true
  m_q13:mg "way_between" = some (.ref A.f_q13)
  F_q52:Fun K "way_of" "way_of" jS A.f_q52 A.d_q52
  b_q52:aM K A.d_q52 ["tree","ask"] []
  k_q52:PySem.W.keepIn K (.ref A.f_q52) = true
  m_q52:mg "way_of" = some (.ref A.f_q52)
  F_q41:Fun K "ways_of" "ways_of" kb A.f_q41 A.d_q41
  b_q41:aM K A.d_q41 ["tree","asks"] []
  k_q41:PySem.W.keepIn K (.ref A.f_q41) = true
  m_q41:mg "ways_of" = some (.ref A.f_q41)
  F_q9:Fun K "look_at_keep" "look_at_keep" pJ A.f_q9 A.d_q9
  b_q9:aM K A.d_q9 ["tree","asks","thing"] []
  k_q9:PySem.W.keepIn K (.ref A.f_q9) = true
  m_q9:mg "look_at_keep" = some (.ref A.f_q9)
  F_q49:Fun K "lay_on" "lay_on" jA A.f_q49 A.d_q49
  b_q49:aM K A.d_q49 ["ask","way","load"] []
  k_q49:PySem.W.keepIn K (.ref A.f_q49) = true
  m_q49:mg "lay_on" = some (.ref A.f_q49)
  F_q18:Fun K "load_with" "load_with" iL A.f_q18 A.d_q18
  b_q18:aM K A.d_q18 ["tree","ask","load"] []
  k_q18:PySem.W.keepIn K (.ref A.f_q18) = true
  m_q18:mg "load_with" = some (.ref A.f_q18)
  F_q39:Fun K "over_on" "over_on" iO A.f_q39 A.d_q39
  b_q39:aM K A.d_q39 ["tree","ask","way","load"] []
  k_q39:PySem.W.keepIn K (.ref A.f_q39) = true
  m_q39:mg "over_on" = some (.ref A.f_q39)
  F_q58:Fun K "loads" "loads" jT A.f_q58 A.d_q58
  b_q58:aM K A.d_q58 ["tree","asks","keep"] []
  k_q58:PySem.W.keepIn K (.ref A.f_q58) = true
  m_q58:mg "loads" = some (.ref A.f_q58)
  F_q15:Fun K "first_over" "first_over" i4 A.f_q15 A.d_q15
  b_q15:aM K A.d_q15 ["tree","asks","keep"] []
  k_q15:PySem.W.keepIn K (.ref A.f_q15) = true
  m_q15:mg "first_over" = some (.ref A.f_q15)
  F_q32:Fun K "worth_of" "worth_of" jm A.f_q32 A.d_q32
  b_q32:aM K A.d_q32 ["tree","asks","keep"] []
  k_q32:PySem.W.keepIn K (.ref A.f_q32) = true
  m_q32:mg "worth_of" = some (.ref A.f_q32)
  F_q27:Fun K "is_price" "is_price" jX A.f_q27 A.d_q27
  b_q27:aM K A.d_q27 ["thing"] []
  k_q27:PySem.W.keepIn K (.ref A.f_q27) = true
  m_q27:mg "is_price" = some (.ref A.f_q27)
  F_q4:Fun K "look_at_prices" "look_at_prices" oP A.f_q4 A.d_q4
  b_q4:aM K A.d_q4 ["tree","thing"] []
  k_q4:PySem.W.keepIn K (.ref A.f_q4) = true
  m_q4:mg "look_at_prices" = some (.ref A.f_q4)
  F_q31:Fun K "spare_of" "spare_of" jz A.f_q31 A.d_q31
  b_q31:aM K A.d_q31 ["tree","ask","weight","prices"] []
  k_q31:PySem.W.keepIn K (.ref A.f_q31) = true
  m_q31:mg "spare_of" = some (.ref A.f_q31)
  F_q50:Fun K "spares" "spares" jL A.f_q50 A.d_q50
  b_q50:aM K A.d_q50 ["tree","asks","prices"] []
  k_q50:PySem.W.keepIn K (.ref A.f_q50) = true
  m_q50:mg "spares" = some (.ref A.f_q50)
  F_q24:Fun K "bound_of" "bound_of" iT A.f_q24 A.d_q24
  b_q24:aM K A.d_q24 ["tree","asks","prices"] []
  k_q24:PySem.W.keepIn K (.ref A.f_q24) = true
  m_q24:mg "bound_of" = some (.ref A.f_q24)
  F_q23:Fun K "are_ones" "are_ones" jN A.f_q23 A.d_q23
  b_q23:aM K A.d_q23 ["asks"] []
  k_q23:PySem.W.keepIn K (.ref A.f_q23) = true
  m_q23:mg "are_ones" = some (.ref A.f_q23)
  F_q6:Fun K "is_above_half" "is_above_half" oX A.f_q6 A.d_q6
  b_q6:aM K A.d_q6 ["tree","ask"] []
  k_q6:PySem.W.keepIn K (.ref A.f_q6) = true
  m_q6:mg "is_above_half" = some (.ref A.f_q6)
  F_q3:Fun K "look_at_halves" "look_at_halves" pB A.f_q3 A.d_q3
  b_q3:aM K A.d_q3 ["tree","asks"] []
  k_q3:PySem.W.keepIn K (.ref A.f_q3) = true
  m_q3:mg "look_at_halves" = some (.ref A.f_q3)
  F_q40:Fun K "rate_of" "rate_of" iS A.f_q40 A.d_q40
  b_q40:aM K A.d_q40 ["ask"] []
  k_q40:PySem.W.keepIn K (.ref A.f_q40) = true
  m_q40:mg "rate_of" = some (.ref A.f_q40)
  F_q0:Fun K "greatest_rate_first" "greatest_rate_first" oF A.f_q0 A.d_q0
  b_q0:aM K A.d_q0 ["asks"] []
  k_q0:PySem.W.keepIn K (.ref A.f_q0) = true
  m_q0:mg "greatest_rate_first" = some (.ref A.f_q0)
  F_q35:Fun K "fill_up" "fill_up" jd A.f_q35 A.d_q35
  b_q35:aM K A.d_q35 ["tree","asks","ways","kept","order"] []
  k_q35:PySem.W.keepIn K (.ref A.f_q35) = true
  m_q35:mg "fill_up" = some (.ref A.f_q35)
  F_q12:Fun K "keep_unlike" "keep_unlike" jx A.f_q12 A.d_q12
  b_q12:aM K A.d_q12 ["tree","asks"] []
  k_q12:PySem.W.keepIn K (.ref A.f_q12) = true
  m_q12:mg "keep_unlike" = some (.ref A.f_q12)
  F_q1:Fun K "is_keep_that_fits" "is_keep_that_fits" pe A.f_q1 A.d_q1
  b_q1:aM K A.d_q1 ["tree","asks","thing"] []
  k_q1:PySem.W.keepIn K (.ref A.f_q1) = true
  m_q1:mg "is_keep_that_fits" = some (.ref A.f_q1)
  F_q14:Fun K "are_prices" "are_prices" iZ A.f_q14 A.d_q14
  b_q14:aM K A.d_q14 ["tree","thing"] []
  k_q14:PySem.W.keepIn K (.ref A.f_q14) = true
  m_q14:mg "are_prices" = some (.ref A.f_q14)
  F_q28:Fun K "is_share" "is_share" jW A.f_q28 A.d_q28
  b_q28:aM K A.d_q28 ["tree","asks","thing"] []
  k_q28:PySem.W.keepIn K (.ref A.f_q28) = true
  m_q28:mg "is_share" = some (.ref A.f_q28)
  F_q47:Fun K "_law_pool" "_law_pool" je A.f_q47 A.d_q47
  b_q47:aM K A.d_q47 ["_law_script","_law_k"] []
  k_q47:PySem.W.keepIn K (.ref A.f_q47) = true
  m_q47:mg "_law_pool" = some (.ref A.f_q47)
  F_q48:Fun K "_law_take" "_law_take" jO A.f_q48 A.d_q48
  b_q48:aM K A.d_q48 ["_law_pool_here","_law_many"] []
  k_q48:PySem.W.keepIn K (.ref A.f_q48) = true
  m_q48:mg "_law_take" = some (.ref A.f_q48)
  F_q30:Fun K "_law_number" "_law_number" jf A.f_q30 A.d_q30
  b_q30:aM K A.d_q30 ["_law_pool_here","_law_most"] []
  k_q30:PySem.W.keepIn K (.ref A.f_q30) = true
  m_q30:mg "_law_number" = some (.ref A.f_q30)
  F_q17:Fun K "_law_parents" "_law_parents" ji A.f_q17 A.d_q17
  b_q17:aM K A.d_q17 ["_law_pool_here","_law_most"] []
  k_q17:PySem.W.keepIn K (.ref A.f_q17) = true
  m_q17:mg "_law_parents" = some (.ref A.f_q17)
  F_q38:Fun K "_law_rooms" "_law_rooms" ja A.f_q38 A.d_q38
  b_q38:aM K A.d_q38 ["_law_pool_here","_law_many","_law_least"] []
  k_q38:PySem.W.keepIn K (.ref A.f_q38) = true
  m_q38:mg "_law_rooms" = some (.ref A.f_q38)
  F_q46:Fun K "_law_ends" "_law_ends" jG A.f_q46 A.d_q46
  b_q46:aM K A.d_q46 ["_law_pool_here","_law_many"] []
  k_q46:PySem.W.keepIn K (.ref A.f_q46) = true
  m_q46:mg "_law_ends" = some (.ref A.f_q46)
  F_q62:Fun K "_law_up" "_law_up" j8 A.f_q62 A.d_q62
  b_q62:aM K A.d_q62 ["_law_parents_here","_law_place"] []
  k_q62:PySem.W.keepIn K (.ref A.f_q62) = true
  m_q62:mg "_law_up" = some (.ref A.f_q62)
  F_q57:Fun K "_law_way" "_law_way" jQ A.f_q57 A.d_q57
  b_q57:aM K A.d_q57 ["_law_parents_here","_law_ask_here"] []
  k_q57:PySem.W.keepIn K (.ref A.f_q57) = true
  m_q57:mg "_law_way" = some (.ref A.f_q57)
  F_q54:Fun K "_law_ask" "_law_ask" i3 A.f_q54 A.d_q54
  b_q54:aM K A.d_q54 ["_law_pool_here","_law_tree"] []
  k_q54:PySem.W.keepIn K (.ref A.f_q54) = true
  m_q54:mg "_law_ask" = some (.ref A.f_q54)
  F_q55:Fun K "_law_low" "_law_low" j_ A.f_q55 A.d_q55
  b_q55:aM K A.d_q55 ["_law_top","_law_bottom"] []
  k_q55:PySem.W.keepIn K (.ref A.f_q55) = true
  m_q55:mg "_law_low" = some (.ref A.f_q55)
  F_q36:Fun K "_law_lists" "_law_lists" j5 A.f_q36 A.d_q36
  b_q36:aM K A.d_q36 ["_law_script","_law_tree","_law_ones"] []
  k_q36:PySem.W.keepIn K (.ref A.f_q36) = true
  m_q36:mg "_law_lists" = some (.ref A.f_q36)
  F_q56:Fun K "_law_met" "_law_met" i7 A.f_q56 A.d_q56
  b_q56:aM K A.d_q56 ["_law_tree","_law_asks","_law_keep","_law_tie"] []
  k_q56:PySem.W.keepIn K (.ref A.f_q56) = true
  m_q56:mg "_law_met" = some (.ref A.f_q56)
  F_q37:Fun K "_law_right" "_law_right" i9 A.f_q37 A.d_q37
  b_q37:aM K A.d_q37 ["_law_tree","_law_asks","_law_ones"] []
  k_q37:PySem.W.keepIn K (.ref A.f_q37) = true
  m_q37:mg "_law_right" = some (.ref A.f_q37)
  F_law:Fun K "law" "law" f_ A.f_law A.d_law
  b_law:aM K A.d_law ["_law_script"] []
  k_law:PySem.W.keepIn K (.ref A.f_law) = true
  m_law:mg "law" = some (.ref A.f_law)
  z_all:mg "all" = none
  z_any:mg "any" = none
  z_bool:mg "bool" = none
  z_enumerate:mg "enumerate" = none
  z_int:mg "int" = none
  z_isinstance:mg "isinstance" = none
  z_len:mg "len" = none
  z_list:mg "list" = none
  z_max:mg "max" = none
  z_min:mg "min" = none
  z_range:mg "range" = none
  z_sorted:mg "sorted" = none
  z_sum:mg "sum" = none
  z_tuple:mg "tuple" = none
  z_zip:mg "zip" = none
  c_MOST_TIES:∃ t,mg "MOST_TIES" = some (.int 23 t)
  c_MOST_ROOM:∃ t,mg "MOST_ROOM" = some (.int 1000000 t)
  c_MOST_ASKS:∃ t,mg "MOST_ASKS" = some (.int 30 t)
  c_MOST_SIZE:∃ t,mg "MOST_SIZE" = some (.int 1000000 t)
  c_MOST_WORTH:∃ t,mg "MOST_WORTH" = some (.int 1000000000000 t)
theorem wv:FnScope ["thing"] ["thing"] (af jh):=⟨rfl,rfl,rfl,by decide +kernel,rfl,by decide +kernel,by decide +kernel⟩
theorem uZ:FnScope ["thing","least","most"] ["thing","least","most"] (af jV):=⟨rfl,rfl,rfl,by decide +kernel,rfl,by decide +kernel,by decide +kernel⟩
theorem sc_q2:FnScope ["number","bottom"] ["number","bottom"] (af pI):=⟨rfl,rfl,rfl,by decide +kernel,rfl,by decide +kernel,by decide +kernel⟩
theorem uV:FnScope ["thing","top","bottom"] ["thing"] (af i6):=⟨rfl,rfl,rfl,by decide +kernel,rfl,by decide +kernel,by decide +kernel⟩
theorem sc_q5:FnScope ["thing","parents","rooms"] ["thing"] (af oK):=⟨rfl,rfl,rfl,by decide +kernel,rfl,by decide +kernel,by decide +kernel⟩
theorem vz:FnScope ["thing","parents","rooms","number","parent","room"] ["thing"] (af jI):=⟨rfl,rfl,rfl,by decide +kernel,rfl,by decide +kernel,by decide +kernel⟩
theorem xp:FnScope ["tree","thing"] ["tree","thing"] (af jp):=⟨rfl,rfl,rfl,by decide +kernel,rfl,by decide +kernel,by decide +kernel⟩
theorem vn:FnScope ["tree","one","other"] ["tree","one","other"] (af jw):=⟨rfl,rfl,rfl,by decide +kernel,rfl,by decide +kernel,by decide +kernel⟩
theorem vH:FnScope ["tree","thing","one","other","size","worth"] ["tree","thing"] (af jB):=⟨rfl,rfl,rfl,by decide +kernel,rfl,by decide +kernel,by decide +kernel⟩
theorem sc_q7:FnScope ["tree","thing","number","ask"] ["tree","thing"] (af oY):=⟨rfl,rfl,rfl,by decide +kernel,rfl,by decide +kernel,by decide +kernel⟩
theorem wf:FnScope ["top","bottom","common"] ["top","bottom"] (af jg):=⟨rfl,rfl,rfl,by decide +kernel,rfl,by decide +kernel,by decide +kernel⟩
theorem vo:FnScope ["one","other"] ["one","other"] (af iP):=⟨rfl,rfl,rfl,by decide +kernel,rfl,by decide +kernel,by decide +kernel⟩
theorem xf:FnScope ["one","other"] ["one","other"] (af ju):=⟨rfl,rfl,rfl,by decide +kernel,rfl,by decide +kernel,by decide +kernel⟩
theorem xg:FnScope ["some","bottom","one"] ["some"] (af jl):=⟨rfl,rfl,rfl,by decide +kernel,rfl,by decide +kernel,by decide +kernel⟩
theorem wO:FnScope ["one","other"] ["one","other"] (af jF):=⟨rfl,rfl,rfl,by decide +kernel,rfl,by decide +kernel,by decide +kernel⟩
theorem sc_q8:FnScope ["tree","one","other"] ["tree","one","other"] (af o4):=⟨rfl,rfl,rfl,by decide +kernel,rfl,by decide +kernel,by decide +kernel⟩
theorem we:FnScope ["tree","one","other","way","low"] ["tree","one","other"] (af iN):=⟨rfl,rfl,rfl,by decide +kernel,rfl,by decide +kernel,by decide +kernel⟩
theorem wm:FnScope ["tree","one","other","way","meeting"] ["tree","one","other"] (af j9):=⟨rfl,rfl,rfl,by decide +kernel,rfl,by decide +kernel,by decide +kernel⟩
theorem vk:FnScope ["tree","ask"] ["tree","ask"] (af jS):=⟨rfl,rfl,rfl,by decide +kernel,rfl,by decide +kernel,by decide +kernel⟩
theorem wT:FnScope ["tree","asks"] ["tree","asks"] (af kb):=⟨rfl,rfl,rfl,by decide +kernel,rfl,by decide +kernel,by decide +kernel⟩
theorem sc_q9:FnScope ["tree","asks","thing","least","place","number"] ["tree","asks","thing"] (af pJ):=⟨rfl,rfl,rfl,by decide +kernel,rfl,by decide +kernel,by decide +kernel⟩
theorem wB:FnScope ["ask","way","load","tie"] ["ask","way","load"] (af jA):=⟨rfl,rfl,rfl,by decide +kernel,rfl,by decide +kernel,by decide +kernel⟩
theorem wL:FnScope ["tree","ask","load","found"] ["tree","ask","load"] (af iL):=⟨rfl,rfl,rfl,by decide +kernel,rfl,by decide +kernel,by decide +kernel⟩
theorem u7:FnScope ["tree","ask","way","load"] ["tree","ask","way","load"] (af iO):=⟨rfl,rfl,rfl,by decide +kernel,rfl,by decide +kernel,by decide +kernel⟩
theorem vh:FnScope ["tree","asks","keep","found","number"] ["tree","asks","keep"] (af jT):=⟨rfl,rfl,rfl,by decide +kernel,rfl,by decide +kernel,by decide +kernel⟩
theorem vW:FnScope ["tree","asks","keep","number","load"] ["tree","asks","keep"] (af i4):=⟨rfl,rfl,rfl,by decide +kernel,rfl,by decide +kernel,by decide +kernel⟩
theorem xh:FnScope ["tree","asks","keep"] ["tree","asks","keep"] (af jm):=⟨rfl,rfl,rfl,by decide +kernel,rfl,by decide +kernel,by decide +kernel⟩
theorem wV:FnScope ["thing"] ["thing"] (af jX):=⟨rfl,rfl,rfl,by decide +kernel,rfl,by decide +kernel,by decide +kernel⟩
theorem sc_q4:FnScope ["tree","thing","ties","number","price"] ["tree","thing"] (af oP):=⟨rfl,rfl,rfl,by decide +kernel,rfl,by decide +kernel,by decide +kernel⟩
theorem vK:FnScope ["tree","ask","weight","prices","paid","spare"] ["tree","ask","weight","prices"] (af jz):=⟨rfl,rfl,rfl,by decide +kernel,rfl,by decide +kernel,by decide +kernel⟩
theorem uL:FnScope ["tree","asks","prices"] ["tree","asks","prices"] (af jL):=⟨rfl,rfl,rfl,by decide +kernel,rfl,by decide +kernel,by decide +kernel⟩
theorem wC:FnScope ["tree","asks","prices","spared","paid"] ["tree","asks","prices"] (af iT):=⟨rfl,rfl,rfl,by decide +kernel,rfl,by decide +kernel,by decide +kernel⟩
theorem v_:FnScope ["asks"] ["asks"] (af jN):=⟨rfl,rfl,rfl,by decide +kernel,rfl,by decide +kernel,by decide +kernel⟩
theorem sc_q6:FnScope ["tree","ask"] ["tree","ask"] (af oX):=⟨rfl,rfl,rfl,by decide +kernel,rfl,by decide +kernel,by decide +kernel⟩
theorem sc_q3:FnScope ["tree","asks","number","ask"] ["tree","asks"] (af pB):=⟨rfl,rfl,rfl,by decide +kernel,rfl,by decide +kernel,by decide +kernel⟩
theorem uK:FnScope ["ask"] ["ask"] (af iS):=⟨rfl,rfl,rfl,by decide +kernel,rfl,by decide +kernel,by decide +kernel⟩
theorem sc_q0:FnScope ["asks","order","number","ask","place"] ["asks"] (af oF):=⟨rfl,rfl,rfl,by decide +kernel,rfl,by decide +kernel,by decide +kernel⟩
theorem vp:FnScope ["tree","asks","ways","kept","order","load","prices","keep","sent","number","over"] ["tree","asks","ways","kept","order"] (af jd):=⟨rfl,rfl,rfl,by decide +kernel,rfl,by decide +kernel,by decide +kernel⟩
theorem wa:FnScope ["tree","asks","keep","prices","sent"] ["tree","asks"] (af jx):=⟨rfl,rfl,rfl,by decide +kernel,rfl,by decide +kernel,by decide +kernel⟩
theorem sc_q1:FnScope ["tree","asks","thing"] ["tree","asks","thing"] (af pe):=⟨rfl,rfl,rfl,by decide +kernel,rfl,by decide +kernel,by decide +kernel⟩
theorem xb:FnScope ["tree","thing"] ["tree","thing"] (af iZ):=⟨rfl,rfl,rfl,by decide +kernel,rfl,by decide +kernel,by decide +kernel⟩
theorem wc:FnScope ["tree","asks","thing","keep","prices","often","worth"] ["tree","asks","thing"] (af jW):=⟨rfl,rfl,rfl,by decide +kernel,rfl,by decide +kernel,by decide +kernel⟩
theorem vP:FnScope ["_law_script","_law_k","_law_cell","_law_seed"] ["_law_script","_law_k"] (af je):=⟨rfl,rfl,rfl,by decide +kernel,rfl,by decide +kernel,by decide +kernel⟩
theorem vw:FnScope ["_law_pool_here","_law_many","_law_found"] ["_law_pool_here","_law_many"] (af jO):=⟨rfl,rfl,rfl,by decide +kernel,rfl,by decide +kernel,by decide +kernel⟩
theorem wA:FnScope ["_law_pool_here","_law_most","_law_way_here"] ["_law_pool_here","_law_most"] (af jf):=⟨rfl,rfl,rfl,by decide +kernel,rfl,by decide +kernel,by decide +kernel⟩
theorem wY:FnScope ["_law_pool_here","_law_most","_law_shape","_law_parents_here","_law_place","_law_up_here"] ["_law_pool_here","_law_most"] (af ji):=⟨rfl,rfl,rfl,by decide +kernel,rfl,by decide +kernel,by decide +kernel⟩
theorem uY:FnScope ["_law_pool_here","_law_many","_law_least","_law_most"] ["_law_pool_here","_law_many","_law_least"] (af ja):=⟨rfl,rfl,rfl,by decide +kernel,rfl,by decide +kernel,by decide +kernel⟩
theorem ve:FnScope ["_law_pool_here","_law_many","_law_one"] ["_law_pool_here","_law_many"] (af jG):=⟨rfl,rfl,rfl,by decide +kernel,rfl,by decide +kernel,by decide +kernel⟩
theorem wF:FnScope ["_law_parents_here","_law_place","_law_found"] ["_law_parents_here","_law_place"] (af j8):=⟨rfl,rfl,rfl,by decide +kernel,rfl,by decide +kernel,by decide +kernel⟩
theorem ww:FnScope ["_law_parents_here","_law_ask_here","_law_one","_law_other","_law_found"] ["_law_parents_here","_law_ask_here"] (af jQ):=⟨rfl,rfl,rfl,by decide +kernel,rfl,by decide +kernel,by decide +kernel⟩
theorem wl:FnScope ["_law_pool_here","_law_tree","_law_one","_law_other","_law_least","_law_size","_law_worth"] ["_law_pool_here","_law_tree"] (af i3):=⟨rfl,rfl,rfl,by decide +kernel,rfl,by decide +kernel,by decide +kernel⟩
theorem vC:FnScope ["_law_top","_law_bottom","_law_one","_law_other"] ["_law_top","_law_bottom"] (af j_):=⟨rfl,rfl,rfl,by decide +kernel,rfl,by decide +kernel,by decide +kernel⟩
theorem wZ:FnScope ["_law_script","_law_tree","_law_ones","_law_found","_law_k","_law_one","_law_other","_law_size","_law_worth"] ["_law_script","_law_tree","_law_ones"] (af j5):=⟨rfl,rfl,rfl,by decide +kernel,rfl,by decide +kernel,by decide +kernel⟩
theorem uP:FnScope ["_law_tree","_law_asks","_law_keep","_law_tie","_law_room","_law_number_here"] ["_law_tree","_law_asks","_law_keep","_law_tie"] (af i7):=⟨rfl,rfl,rfl,by decide +kernel,rfl,by decide +kernel,by decide +kernel⟩
theorem wG:FnScope ["_law_tree","_law_asks","_law_ones","_law_keep","_law_prices","_law_worth","_law_most","_law_top","_law_bottom","_law_left","_law_sent","_law_tie","_law_just","_law_less"] ["_law_tree","_law_asks","_law_ones"] (af i9):=⟨rfl,rfl,rfl,by decide +kernel,rfl,by decide +kernel,by decide +kernel⟩
theorem uT:FnScope ["_law_script","_law_parents_here","_law_ones","_law_tree","_law_lists_here","_law_asks"] ["_law_script"] (af f_):=⟨rfl,rfl,rfl,by decide +kernel,rfl,by decide +kernel,by decide +kernel⟩
section
variable {P:Program} {w:World} {K:PySem.W.Frag} {mg:Str → Option Value} {base:Heap} {A:Adr}
theorem md (T:Txt K mg A):FnOk P w K mg base CX0 1 A.f_q29 A.d_q29 ["thing"] (bd [false] false (so)):=by
  have S:=wv
  refine fnD T.F_q29 S ⟨[false],[false],false⟩ _ ?hl rfl rfl fun cdv Ar outer s H E hr => ⟨_,(ag (aH (dX (dh rfl T.z_isinstance bc (aa 0) (cy (v:=.ty "int") rfl T.z_int rh rfl)) (eH (l5 (dh rfl T.z_isinstance bc (aa 0) (cy (v:=.ty "bool") rfl T.z_bool sT rfl))))))),fun ds q h => ?_⟩
  case hl => intro ds q h; obtain ⟨d,rfl,_⟩:=h; rfl
  obtain ⟨d,rfl,hs,q0⟩:=h
  cases d <;> first | exact q0 | cases hs
theorem kL (T:Txt K mg A):FnOk P w K mg base CX0 2 A.f_q16 A.d_q16 ["thing","least","most"] (bd [false,false,false] false (ph)):=by
  have G_q29:=md (P:=P) (w:=w) (base:=base) T
  have S:=uZ
  refine fnD T.F_q16 S ⟨[false,false,false],[false,false,false],false⟩ _ ?hl rfl rfl fun cdv Ar outer s H E hr => ⟨_,(ag (aH (dX (aj (G_q29) (hr.mono (by decide)) rfl T.m_q29 T.k_q29 T.b_q29 (ai (aa 0) ah)) (eH (lz lD lD dB dB (aa 1) (aa 0) (aa 2)))))),fun ds q h => ?_⟩
  case hl => intro ds q h; obtain ⟨d,lo,hi,rfl,_⟩:=h; rfl
  obtain ⟨d,lo,hi,rfl,hs,q0⟩:=h
  refine ⟨d,rfl,hs,?_⟩
  cases d
  case int i =>
    refine (bU (c:=decide (lo ≤ i) = true) (fun c => ?_) (fun c => ?_))
    · have:btw lo hi (.int i) = decide (i ≤ hi):=by show (decide (lo ≤ i) && decide (i ≤ hi)) = _; rw [c,Bool.true_and]
      rw [this] at q0; exact q0
    · have:btw lo hi (.int i) = false:=by show (decide (lo ≤ i) && decide (i ≤ hi)) = _; rw [Bool.eq_false_iff.mpr c,Bool.false_and]
      rw [this] at q0; exact q0
  all_goals first | exact q0 | cases hs
theorem ok_q5 (T:Txt K mg A):FnOk P w K mg base CX0 1 A.f_q5 A.d_q5 ["thing"] (bd [false] false (wS)):=by
  have S:=sc_q5
  refine fnD T.F_q5 S ⟨[false],[false,false,false],false⟩ _ ?hl rfl rfl fun cdv Ar outer s H E hr => ⟨_,(ad (a9 (QW.qt (eu (bn (a8 (dh rfl T.z_isinstance bc (aa 0) (cy (v:=.ty "tuple") rfl T.z_tuple fW rfl)))) (cW (aV (cK hr.units) dNe (aB aD c0 rfl T.z_len bB (ae (aa 0) am)) ac (aP _))))) (ag (aH ci)) aG)
      (ad (eh (aa 0) (b6 rfl (aF (aE (i:=1) S.nd rfl (Or.inl rfl)) (aF (aE (i:=2) S.nd rfl (Or.inl rfl)) bK)) (ak (ak a6))))
      (ad (a9 (QW.qt (eu (bn (a8 (dh rfl T.z_isinstance bc (aa 1) (cy (v:=.ty "list") rfl T.z_list d3 rfl)))) (cW (bn (a8 (dh rfl T.z_isinstance bc (aa 2) (cy (v:=.ty "list") rfl T.z_list d3 rfl))))))) (ag (aH ci)) aG)
      (ag (aH (dX (cU (cT hr.units) dEq (aB aD c0 rfl T.z_len bB (ae (aa 1) am)) (aB aD c0 rfl T.z_len bB (ae (aa 2) am)) (aP _)) (eH (lz lD lD dB dB ac (aB aD c0 rfl T.z_len bB (ae (aa 1) am)) (eR (i:=23) rfl T.c_MOST_TIES))))))))),fun ds q h => ?_⟩
  case hl => intro ds q h; obtain ⟨ps,rs,rfl,_⟩:=h; rfl
  obtain ⟨ps,rs,rfl,hT,q0⟩:=h
  have l1:((ps.map D.int).length:Int) = ps.length:=by rw [List.length_map]
  have l2:((rs.map D.int).length:Int) = rs.length:=by rw [List.length_map]
  have h1:=hT.len
  have h2:=hT.lo
  have h3:=hT.hi
  refine (bU (c:=decide (((ps.map D.int).length:Int) = ((rs.map D.int).length:Int)) = true) (fun c => ?_) (fun c => ?_))
  · refine (bU (c:=decide ((1:Int) ≤ ((ps.map D.int).length:Int)) = true) (fun c => ?_) (fun c => ?_))
    · show q (.bl (decide (((ps.map D.int).length:Int) ≤ 23))) []
      rw [decide_eq_true (by omega)]; exact q0
    · exact absurd (decide_eq_true (by omega)) c
  · exact absurd (decide_eq_true (by omega)) c
theorem mU (T:Txt K mg A):FnOk P w K mg base CX0 3 A.f_q10 A.d_q10 ["thing"] (bd [false] false (w4)):=by
  have G_q5:=ok_q5 (P:=P) (w:=w) (base:=base) T
  have G_q16:=kL (P:=P) (w:=w) (base:=base) T
  have S:=vz
  refine fnD T.F_q10 S ⟨[false],[false,false,false,false,false,false],false⟩ _ ?hl rfl rfl fun cdv Ar outer s H E hr => ⟨_,(ad (a9 (bn (a8 (aj (G_q5) (hr.mono (by decide)) rfl T.m_q5 T.k_q5 T.b_q5 (ai (aa 0) ah)))) (ag bJ) aG)
      (ad (eh (aa 0) (b6 rfl (aF (aE (i:=1) S.nd rfl (Or.inl rfl)) (aF (aE (i:=2) S.nd rfl (Or.inl rfl)) bK)) (ak (ak a6))))
      (ad (b2 PassesOwn.never rfl (dr rfl T.z_enumerate (ae (aa 1) am)) (b6 rfl (aF (aE (i:=3) S.nd rfl (Or.inl rfl)) (aF (aE (i:=4) S.nd rfl (Or.inl rfl)) bK)) (ak (ak a6))) (ag (a9 (bn (a8 (aj (G_q16) (hr.mono (by decide)) rfl T.m_q16 T.k_q16 T.b_q16 (ai (aa 4) (ai ac (ai (aa 3) ah)))))) (ag bJ) aG)))
      (ag (b2 PassesOwn.never rfl (dr rfl T.z_enumerate (ae (aa 2) am)) (b6 rfl (aF (aE (i:=3) S.nd rfl (Or.inl rfl)) (aF (aE (i:=5) S.nd rfl (Or.inl rfl)) bK)) (ak (ak a6))) (ag (a9 (bn (a8 (aj (G_q16) (hr.mono (by decide)) rfl T.m_q16 T.k_q16 T.b_q16 (ai (aa 5) (ai ac (ai (eR (i:=1000000) rfl T.c_MOST_ROOM) ah)))))) (ag bJ) aG))))))),fun ds q h => ?_⟩
  case hl => intro ds q h; obtain ⟨ps,rs,rfl,_⟩:=h; rfl
  obtain ⟨ps,rs,rfl,hT,q0⟩:=h
  refine ⟨ps,rs,rfl,hT,?_⟩
  refine ⟨fun _ ρ => ∃ v1 v2 v3,ρ = [some (aN ps rs),some (ap ps),some (ap rs),v1,v2,v3],⟨_,_,_,rfl⟩,?_,?_⟩
  · rintro i d ρ hd ⟨v1,v2,v3,rfl⟩
    obtain ⟨d',h1,rfl⟩:=c8 hd
    obtain ⟨z,hz,rfl⟩:=eU h1
    have hb:=hT.par i z hz
    refine ⟨.int z,0,(i:Int),rfl,rfl,?_⟩
    rw [d5 hb.1 hb.2]
    exact ⟨_,_,_,rfl⟩
  · rintro ρ ⟨v1,v2,v3,rfl⟩
    refine ⟨fun _ ρ => ∃ v1 v2 v3,ρ = [some (aN ps rs),some (ap ps),some (ap rs),v1,v2,v3],⟨_,_,_,rfl⟩,?_,?_⟩
    · rintro i d ρ hd ⟨v1,v2,v3,rfl⟩
      obtain ⟨d',h1,rfl⟩:=c8 hd
      obtain ⟨z,hz,rfl⟩:=eU h1
      have hb:=hT.room i z hz
      refine ⟨.int z,1,1000000,rfl,rfl,?_⟩
      rw [d5 hb.1 hb.2]
      exact ⟨_,_,_,rfl⟩
    · rintro ρ ⟨v1,v2,v3,rfl⟩
      exact q0
theorem xr (T:Txt K mg A):FnOk P w K mg base CX0 3 A.f_q26 A.d_q26 ["tree","thing"] (bd [false,false] false (t4)):=by
  have G_q16:=kL (P:=P) (w:=w) (base:=base) T
  have S:=xp
  refine fnD T.F_q26 S ⟨[false,false],[false,false],false⟩ _ ?hl rfl rfl fun cdv Ar outer s H E hr => ⟨_,(ag (aH (aj (G_q16) (hr.mono (by decide)) rfl T.m_q16 T.k_q16 T.b_q16 (ai (aa 1) (ai ac (ai (aB aD c0 rfl T.z_len bB (ae (ay ao dIx (aa 0) ac (fun _ _ => rfl)) am)) ah)))))),fun ds q h => ?_⟩
  case hl => intro ds q h; obtain ⟨ps,rs,d,rfl,_⟩:=h; rfl
  obtain ⟨ps,rs,d,rfl,hs,q0⟩:=h
  refine ⟨d,0,((ps.map D.int).length:Int),rfl,hs,?_⟩
  rw [List.length_map]; exact q0
theorem pW (T:Txt K mg A):FnOk P w K mg base CX0 4 A.f_q22 A.d_q22 ["tree","one","other"] (bd [false,false,false] false (wn)):=by
  have G_q26:=xr (P:=P) (w:=w) (base:=base) T
  have S:=vn
  refine fnD T.F_q22 S ⟨[false,false,false],[false,false,false],false⟩ _ ?hl rfl rfl fun cdv Ar outer s H E hr => ⟨_,(ag (aH (dX (aj (G_q26) (hr.mono (by decide)) rfl T.m_q26 T.k_q26 T.b_q26 (ai (aa 0) (ai (aa 1) ah))) (dX (aj (G_q26) (hr.mono (by decide)) rfl T.m_q26 T.k_q26 T.b_q26 (ai (aa 0) (ai (aa 2) ah))) (eH (cU (cK hr.units) dNe (aa 1) (aa 2) (aP _))))))),fun ds q h => ?_⟩
  case hl => intro ds q h; obtain ⟨ps,rs,a,b,rfl,_⟩:=h; rfl
  obtain ⟨ps,rs,a,b,rfl,he,q0⟩:=h
  refine ⟨ps,rs,.int a,rfl,rfl,?_⟩
  rw [d5 he.a0 he.a1]
  refine ⟨ps,rs,.int b,rfl,rfl,?_⟩
  rw [d5 he.b0 he.b1]
  have:(!decide (a = b)) = true:=by simp [he.ne]
  show q (.bl (!decide (a = b))) []
  rw [this]; exact q0
theorem wM (T:Txt K mg A):FnOk P w K mg base CX0 5 A.f_q45 A.d_q45 ["tree","thing"] (bd [false,false] false (tN)):=by
  have G_q22:=pW (P:=P) (w:=w) (base:=base) T
  have G_q16:=kL (P:=P) (w:=w) (base:=base) T
  have S:=vH
  refine fnD T.F_q45 S ⟨[false,false],[false,false,false,false,false,false],false⟩ _ ?hl rfl rfl fun cdv Ar outer s H E hr => ⟨_,(ad (a9 (QW.qt (eu (bn (a8 (dh rfl T.z_isinstance bc (aa 1) (cy (v:=.ty "tuple") rfl T.z_tuple fW rfl)))) (cW (aV (cK hr.units) dNe (aB aD c0 rfl T.z_len bB (ae (aa 1) am)) ac (aP _))))) (ag (aH ci)) aG)
      (ad (eh (aa 1) (b6 rfl (aF (aE (i:=2) S.nd rfl (Or.inl rfl)) (aF (aE (i:=3) S.nd rfl (Or.inl rfl)) (aF (aE (i:=4) S.nd rfl (Or.inl rfl)) (aF (aE (i:=5) S.nd rfl (Or.inl rfl)) bK)))) (ak (ak (ak (ak a6))))))
      (ag (aH (dX (aj (G_q22) (hr.mono (by decide)) rfl T.m_q22 T.k_q22 T.b_q22 (ai (aa 0) (ai (aa 2) (ai (aa 3) ah)))) (dX (aj (G_q16) (hr.mono (by decide)) rfl T.m_q16 T.k_q16 T.b_q16 (ai (aa 4) (ai ac (ai (eR (i:=1000000) rfl T.c_MOST_SIZE) ah)))) (eH (aj (G_q16) (hr.mono (by decide)) rfl T.m_q16 T.k_q16 T.b_q16 (ai (aa 5) (ai ac (ai (eR (i:=1000000000000) rfl T.c_MOST_WORTH) ah))))))))))),fun ds q h => ?_⟩
  case hl => intro ds q h; obtain ⟨ps,rs,a,rfl,_⟩:=h; rfl
  obtain ⟨ps,rs,a,rfl,ha,q0⟩:=h
  refine ⟨ps,rs,a.one,a.other,rfl,ha.ends,?_⟩
  refine ⟨.int a.size,1,1000000,rfl,rfl,?_⟩
  rw [d5 ha.s0 ha.s1]
  refine ⟨.int a.worth,1,1000000000000,rfl,rfl,?_⟩
  rw [d5 ha.w0 ha.w1]
  exact q0
theorem nz (T:Txt K mg A):FnOk P w K mg base CX0 6 A.f_q7 A.d_q7 ["tree","thing"] (bd [false,false] false (mZ)):=by
  have G_q45:=wM (P:=P) (w:=w) (base:=base) T
  have G_q10:=mU (P:=P) (w:=w) (base:=base) T
  have S:=sc_q7
  refine fnD T.F_q7 S ⟨[false,false],[false,false,false,false],false⟩ _ ?hl rfl rfl fun cdv Ar outer s H E hr => ⟨_,(ad (bR (aj (G_q10) (hr.mono (by decide)) rfl T.m_q10 T.k_q10 T.b_q10 (ai (aa 0) ah)))
      (ad (a9 (QW.qt (eu (bn (a8 (dh rfl T.z_isinstance bc (aa 1) (cy (v:=.ty "list") rfl T.z_list d3 rfl)))) (cW (aV fS dB (aB aD c0 rfl T.z_len bB (ae (aa 1) am)) (eR (i:=30) rfl T.c_MOST_ASKS) (aP _))))) (ag bJ) aG)
      (ag (b2 PassesOwn.never rfl (dr rfl T.z_enumerate (ae (aa 1) am)) (b6 rfl (aF (aE (i:=2) S.nd rfl (Or.inl rfl)) (aF (aE (i:=3) S.nd rfl (Or.inl rfl)) bK)) (ak (ak a6))) (ag (a9 (bn (a8 (aj (G_q45) (hr.mono (by decide)) rfl T.m_q45 T.k_q45 T.b_q45 (ai (aa 0) (ai (aa 3) ah))))) (ag bJ) aG)))))),fun ds q h => ?_⟩
  case hl => intro ds q h; obtain ⟨ps,rs,as,rfl,_⟩:=h; rfl
  obtain ⟨ps,rs,as,rfl,hT,ha,q0⟩:=h
  refine ⟨ps,rs,rfl,hT,?_⟩
  refine (bU (c:=decide ((30:Int) < ((as.map bY).length:Int)) = true) (fun c => ?_) (fun c => ?_))
  · have:=ha.len; rw [bx] at c; simp at c; omega
  refine ⟨fun _ ρ => ∃ v1 v2,ρ = [some (aN ps rs),some (aT as),v1,v2],⟨_,_,rfl⟩,?_,?_⟩
  · rintro i d ρ hd ⟨v1,v2,rfl⟩
    obtain ⟨d',h1,rfl⟩:=c8 hd
    obtain ⟨z,hz,rfl⟩:=kg h1
    refine ⟨ps,rs,z,rfl,ha.ok z (List.mem_of_getElem? hz),?_⟩
    exact ⟨_,_,rfl⟩
  · rintro ρ ⟨v1,v2,rfl⟩
    exact q0
theorem qZ (T:Txt K mg A):FnOk P w K mg base CX0 1 A.f_q2 A.d_q2 ["number","bottom"] (bd [false,false] false (sdGcd)):=by
  have S:=sc_q2
  refine fnD T.F_q2 S ⟨[false,false],[false,false],false⟩ _ ?hl rfl rfl fun cdv Ar outer s H E hr => ⟨_,(ad (eI PassesOwn.never (aV (cK hr.units) dNe (aa 1) ac (aP _)) (ag (kW (i:=0) (j:=1) rfl S.nd rfl rfl (by decide) rfl rfl (aa 1) (aw cV dIC (aa 0) (aa 1)) rfl)))
      (ag (aH (aa 0)))),fun ds q h => ?_⟩
  case hl => intro ds q h; obtain ⟨n,b,rfl,_⟩:=h; rfl
  obtain ⟨n,b,rfl,hb,q0⟩:=h
  refine ⟨fun k ρ => ∃ n' b':Int,ρ = [some (.int n'),some (.int b')] ∧ 0 ≤ b' ∧ b'.toNat = k ∧ ce n' b' = ce n b,⟨_,n,b,rfl,hb,rfl,rfl⟩,?_⟩
  rintro k ρ ⟨n',b',rfl,hb',hk,hg⟩
  refine (bU (c:=(!decide (b' = 0)) = true) (fun c => ?_) (fun c => ?_))
  · have c':b' ≠ 0:=by simpa using c
    have hp : 0 < b':=by omega
    refine ⟨hp,?_⟩
    have:=Int.emod_lt_of_pos n' hp
    have:=Int.emod_nonneg n' (show b' ≠ 0 by omega)
    exact ⟨_,by omega,b',n' % b',rfl,by omega,rfl,by rw [iU hp]; exact hg⟩
  · have c':b' = 0:=by simpa using c
    subst c'
    have e:ce n b = n':=by rw [← hg]; unfold ce; rw [if_pos rfl]
    rw [e] at q0; exact q0
theorem kx (T:Txt K mg A):FnOk P w K mg base CX0 2 A.f_q25 A.d_q25 ["top","bottom"] (bd [false,false] false (xa)):=by
  have G_q2:=qZ (P:=P) (w:=w) (base:=base) T
  have G_q29:=md (P:=P) (w:=w) (base:=base) T
  have S:=wf
  refine fnD T.F_q25 S ⟨[false,false],[false,false,false],false⟩ _ ?hl rfl rfl fun cdv Ar outer s H E hr => ⟨_,(ad (a9 (QW.qt (eu (bn (a8 (aj (G_q29) (hr.mono (by decide)) rfl T.m_q29 T.k_q29 T.b_q29 (ai (aa 0) ah)))) (cW (bn (a8 (aj (G_q29) (hr.mono (by decide)) rfl T.m_q29 T.k_q29 T.b_q29 (ai (aa 1) ah))))))) (ag bJ) aG)
      (ad (a9 (aV (cT hr.units) dEq (aa 1) ac (aP _)) (ag bJ) aG)
      (ad (cG (a9 (aV lc dB (aa 1) ac (aP _)) (ag (kW (i:=0) (j:=1) rfl S.nd rfl rfl (by decide) rfl rfl (mG (aa 0)) (mG (aa 1)) rfl)) aG))
      (ad (aQ (i:=2) S.nd rfl (Or.inl rfl) (aj (G_q2) (hr.mono (by decide)) rfl T.m_q2 T.k_q2 T.b_q2 (ai (aa 0) (ai (aa 1) ah))))
      (ag (aH (bE (ae (aw de dIC (aa 0) (aa 2)) (ae (aw de dIC (aa 1) (aa 2)) am))))))))),fun ds q h => ?_⟩
  case hl => intro ds q h; obtain ⟨t,b,rfl,_⟩:=h; rfl
  obtain ⟨t,b,rfl,hb,hs,q0⟩:=h
  refine ⟨.int t,rfl,rfl,?_⟩
  refine ⟨.int b,rfl,rfl,?_⟩
  refine (bU (c:=decide (b = 0) = true) (fun c => absurd (of_decide_eq_true c) hb) (fun _ => ?_))
  refine ⟨fun ρ => ∃ t' b':Int,ρ = [some (.int t'),some (.int b'),none] ∧ 0 < b' ∧ Sm b' ∧ Rat.divInt t' b' = Rat.divInt t b,?_,?_⟩
  · refine (bU (c:=decide (b < 0) = true) (fun c => ?_) (fun c => ?_))
    · have c':b < 0:=by simpa using c
      exact ⟨-t,-b,rfl,by omega,by show (-b).natAbs < _; rw [Int.natAbs_neg]; exact hs,Rat.neg_divInt_neg t b⟩
    · have c' : ¬ b < 0:=by simpa using c
      exact ⟨t,b,rfl,by omega,hs,rfl⟩
  · rintro ρ ⟨t',b',rfl,hp,hs',he⟩
    refine ⟨t',b',rfl,Int.le_of_lt hp,?_⟩
    have g:=e7 (n:=t') hp
    have gl:=ky (n:=t') hp
    have gs:Sm (ce t' b'):=by show (ce t' b').natAbs < _; exact Nat.lt_of_le_of_lt (by omega) hs'
    refine ⟨⟨g,gs⟩,⟨g,gs⟩,?_⟩
    rw [kE hp,kQ hp,he]
    exact q0
theorem vY (T:Txt K mg A):FnOk P w K mg base CX0 3 A.f_q59 A.d_q59 ["one","other"] (bd [false,false] false (sk)):=by
  have G_q25:=kx (P:=P) (w:=w) (base:=base) T
  have S:=vo
  refine fnD T.F_q59 S ⟨[false,false],[false,false],false⟩ _ ?hl rfl rfl fun cdv Ar outer s H E hr => ⟨_,(ag (aH (aj (G_q25) (hr.mono (by decide)) rfl T.m_q25 T.k_q25 T.b_q25 (ai (aw bv dI (aw b4 dIC (ay ao dIx (aa 0) ac (fun _ _ => rfl)) (ay ao dIx (aa 1) ac (fun _ _ => rfl))) (aw b4 dIC (ay ao dIx (aa 1) ac (fun _ _ => rfl)) (ay ao dIx (aa 0) ac (fun _ _ => rfl)))) (ai (aw b4 dIC (ay ao dIx (aa 0) ac (fun _ _ => rfl)) (ay ao dIx (aa 1) ac (fun _ _ => rfl))) ah))))),fun ds q h => ?_⟩
  case hl => intro ds q h; obtain ⟨r,s,rfl,_⟩:=h; rfl
  obtain ⟨r,s,rfl,hr,hs,q0⟩:=h
  refine ⟨⟨hr.smN (by decide),hs.smD (by decide)⟩,⟨hs.smN (by decide),hr.smD (by decide)⟩,⟨hr.smD (by decide),hs.smD (by decide)⟩,?_⟩
  refine ⟨_,_,rfl,Int.ne_of_gt (cQ r s),Sm.of (n:=7900) (by rw [bL,Int.natAbs_natCast,Int.natAbs_natCast]; exact bj (m:=3950) (n:=3950) hr.den hs.den) (by decide),?_⟩
  rw [← pT]; exact q0
theorem l9 (T:Txt K mg A):FnOk P w K mg base CX0 3 A.f_q60 A.d_q60 ["one","other"] (bd [false,false] false (sD)):=by
  have G_q25:=kx (P:=P) (w:=w) (base:=base) T
  have S:=xf
  refine fnD T.F_q60 S ⟨[false,false],[false,false],false⟩ _ ?hl rfl rfl fun cdv Ar outer s H E hr => ⟨_,(ag (aH (aj (G_q25) (hr.mono (by decide)) rfl T.m_q25 T.k_q25 T.b_q25 (ai (aw b4 dIC (ay ao dIx (aa 0) ac (fun _ _ => rfl)) (ay ao dIx (aa 1) ac (fun _ _ => rfl))) (ai (aw b4 dIC (ay ao dIx (aa 0) ac (fun _ _ => rfl)) (ay ao dIx (aa 1) ac (fun _ _ => rfl))) ah))))),fun ds q h => ?_⟩
  case hl => intro ds q h; obtain ⟨r,s,rfl,_⟩:=h; rfl
  obtain ⟨r,s,rfl,hr,hs,q0⟩:=h
  refine ⟨⟨hr.smN (by decide),hs.smN (by decide)⟩,⟨hr.smD (by decide),hs.smD (by decide)⟩,?_⟩
  refine ⟨_,_,rfl,Int.ne_of_gt (cQ r s),Sm.of (n:=7900) (by rw [bL,Int.natAbs_natCast,Int.natAbs_natCast]; exact bj (m:=3950) (n:=3950) hr.den hs.den) (by decide),?_⟩
  rw [← qX]; exact q0
theorem rG (T:Txt K mg A):FnOk P w K mg base CX0 3 A.f_q51 A.d_q51 ["some"] (bd [false] false (wW)):=by
  have G_q25:=kx (P:=P) (w:=w) (base:=base) T
  have G_q2:=qZ (P:=P) (w:=w) (base:=base) T
  have S:=xg
  refine fnD T.F_q51 S ⟨[false],[false,false,false],false⟩ _ ?hl rfl rfl fun cdv Ar outer s H E hr => ⟨_,(ad (aQ (i:=1) S.nd rfl (Or.inr rfl) ac)
      (ad (b2 PassesOwn.never rfl (bo (aa 0)) (aE (i:=2) S.nd rfl (Or.inl rfl)) (ag (aQ (i:=1) S.nd rfl (Or.inr rfl) (aw b4 dIC (aw de dIC (aa 1) (aj (G_q2) (hr.mono (by decide)) rfl T.m_q2 T.k_q2 T.b_q2 (ai (aa 1) (ai (ay ao dIx (aa 2) ac (fun _ _ => rfl)) ah)))) (ay ao dIx (aa 2) ac (fun _ _ => rfl))))))
      (ag (aH (aj (G_q25) (hr.mono (by decide)) rfl T.m_q25 T.k_q25 T.b_q25 (ai (aB (i_ rfl) dSum rfl T.z_sum qI (ae (b9 ["one"] [1] ⟨rfl,rfl,by decide +kernel,rfl,rfl,(by first | exact trivial | exact ⟨rfl,trivial⟩ | exact ⟨rfl,rfl,trivial⟩ | exact ⟨rfl,rfl,rfl,trivial⟩ | exact ⟨rfl,rfl,rfl,rfl,trivial⟩),rfl⟩ rfl (bo (aa 0)) (bC 0) (fun _ _ _ _ => ⟨(bh (i:=0) (show List.Nodup (["one","bottom"]:List Str) by decide +kernel) rfl (Or.inl rfl)),b8,(aw b4 dIC (ay ao dIx (aa 0) ac (fun _ _ => rfl)) (aw de dIC (aa 1) (ay ao dIx (aa 0) ac (fun _ _ => rfl))))⟩)) am)) (ai (aa 1) ah))))))),fun ds q h => ?_⟩
  case hl => intro ds q h; obtain ⟨rs,M,rfl,_⟩:=h; rfl
  obtain ⟨rs,M,rfl,hl,hn,hM,hp,q0⟩:=h
  refine ⟨fun i ρ => ∃ (B:Int) (v:Option D),ρ = [some (dQs rs),some (.int B),v] ∧ Com (rs.take i) M B,⟨1,_,rfl,tq M⟩,?_,?_⟩
  · rintro i d ρ hd ⟨B,v,rfl,hB⟩
    obtain ⟨r,hr,rfl⟩:∃ r,rs[i]? = some r ∧ dQ r = d:=by rw [List.getElem?_map,Option.map_eq_some_iff] at hd; exact hd
    have hd:=bH r
    have hmem:=List.mem_of_getElem? hr
    have hdp:=Nat.le_of_dvd hM (hn r hmem).2
    have hle:=hB.le hM
    have hB0:=hB.pos
    have g:=e7 (n:=B) hd
    have gl:=ky (n:=B) hd
    refine ⟨B,r.den,rfl,Int.le_of_lt hd,?_⟩
    refine ⟨⟨g,Sm.of (n:=3900) (by omega) (by decide)⟩,⟨Sm.of (n:=3900) (Nat.lt_of_le_of_lt (eE g) (by omega)) (by decide),Sm.of (n:=3900) (by omega) (by decide)⟩,?_⟩
    refine ⟨_,_,rfl,?_⟩
    rw [List.take_add_one,hr]
    exact rC hB (hn r hmem).2
  · rintro ρ ⟨B,v,rfl,hB⟩
    have el:(rs.map dQ).length = rs.length:=List.length_map _
    rw [el,List.take_length] at hB
    have hle:=hB.le hM
    have hB0:=hB.pos
    refine ⟨by rw [el]; omega,?_⟩
    refine bF (sumF B) ?_ ?_
    · intro d hd k hk
      obtain ⟨r,hr,rfl⟩:=List.mem_map.mp hd
      have hd:=bH r
      have hdp:=Nat.le_of_dvd hM (hn r hr).2
      refine ⟨⟨hd,Sm.of (n:=3900) (by omega) (by decide)⟩,⟨Sm.of (hn r hr).1 (by decide),Sm.of (n:=3900) (Nat.lt_of_le_of_lt (eE hd) (by omega)) (by decide)⟩,?_⟩
      exact hk
    · rw [rf]
      refine ⟨_,rfl,?_⟩
      refine ⟨_,B,rfl,by omega,Sm.of (n:=3900) (by omega) (by decide),?_⟩
      rw [h_ hB0 hB.dv]
      exact q0
theorem mE (T:Txt K mg A):FnOk P w K mg base CX0 1 A.f_q61 A.d_q61 ["one","other"] (bd [false,false] false (t5)):=by
  have S:=wO
  refine fnD T.F_q61 S ⟨[false,false],[false,false],false⟩ _ ?hl rfl rfl fun cdv Ar outer s H E hr => ⟨_,(ag (aH (cU lc dB (aw b4 dIC (ay ao dIx (aa 0) ac (fun _ _ => rfl)) (ay ao dIx (aa 1) ac (fun _ _ => rfl))) (aw b4 dIC (ay ao dIx (aa 1) ac (fun _ _ => rfl)) (ay ao dIx (aa 0) ac (fun _ _ => rfl))) (aP _)))),fun ds q h => ?_⟩
  case hl => intro ds q h; obtain ⟨r,s,rfl,_⟩:=h; rfl
  obtain ⟨r,s,rfl,hr,hs,q0⟩:=h
  refine ⟨⟨hr.smN (by decide),hs.smD (by decide)⟩,⟨hs.smN (by decide),hr.smD (by decide)⟩,?_⟩
  have e:decide (r < s) = decide (r.num * (s.den:Int) < s.num * (r.den:Int)):=decide_eq_decide.mpr (Rat.lt_iff r s)
  rw [e] at q0; exact q0
theorem ok_q8 (T:Txt K mg A):FnOk P w K mg base CX0 5 A.f_q8 A.d_q8 ["tree","one","other"] (bd [false,false,false] false (mQ)):=by
  have G_q22:=pW (P:=P) (w:=w) (base:=base) T
  have G_q10:=mU (P:=P) (w:=w) (base:=base) T
  have S:=sc_q8
  refine fnD T.F_q8 S ⟨[false,false,false],[false,false,false],false⟩ _ ?hl rfl rfl fun cdv Ar outer s H E hr => ⟨_,(ad (bR (aj (G_q10) (hr.mono (by decide)) rfl T.m_q10 T.k_q10 T.b_q10 (ai (aa 0) ah)))
      (ag (a9 (bn (a8 (aj (G_q22) (hr.mono (by decide)) rfl T.m_q22 T.k_q22 T.b_q22 (ai (aa 0) (ai (aa 1) (ai (aa 2) ah)))))) (ag bJ) aG))),fun ds q h => ?_⟩
  case hl => intro ds q h; obtain ⟨ps,rs,a,b,rfl,_⟩:=h; rfl
  obtain ⟨ps,rs,a,b,rfl,hT,he,q0⟩:=h
  refine ⟨ps,rs,rfl,hT,?_⟩
  exact ⟨ps,rs,a,b,rfl,he,q0⟩
theorem vj (T:Txt K mg A):FnOk P w K mg base CX0 1 A.f_q53 A.d_q53 ["tree","one","other"] (bd [false,false,false] true (sU)):=by
  have S:=we
  refine fnD T.F_q53 S ⟨[false,false,false],[false,false,false,true,false],true⟩ _ ?hl rfl rfl fun cdv Ar outer s H E hr => ⟨_,(ad (cE (i:=3) S.nd rfl (Or.inl rfl) (eD am))
      (ad (eI PassesOwn.never (aV (cK hr.units) dNe (aa 1) (aa 2) (aP _)) (ad (aQ (i:=4) S.nd rfl (Or.inl rfl) (aB (fg rfl) dMax rfl T.z_max gc (ae (aa 1) (ae (aa 2) am))))
      (ad (dG (i:=3) rfl (QE.qf (aa 4)))
      (ag (kW (i:=1) (j:=2) rfl S.nd rfl rfl (by decide) rfl rfl (aB (dN rfl) qO rfl T.z_min gw (ae (aa 1) (ae (aa 2) am))) (ay ao dIx (ay ao dIx (aa 0) ac (fun _ _ => rfl)) (aw bv dI (aa 4) ac) (fun _ _ => rfl)) rfl)))))
      (ag (bQ (mN (cA (QF.qm (QF.bor [3] (hZ em nb rfl T.z_sorted gr (ae (aa 3) am)))) (cA (QF.qm (QE.qf (aa 1))) gG))))))),fun ds q h => ?_⟩
  case hl => intro ds q h; obtain ⟨ps,rs,a,b,rfl,_⟩:=h; rfl
  obtain ⟨ps,rs,a,b,rfl,hT,a0,a1,b0,b1,q0⟩:=h
  refine ⟨rfl,?_⟩
  refine ⟨fun k ρ => ∃ a' b' acc v,ρ = [some (aN ps rs),some (.int a'),some (.int b'),some (ap acc),v] ∧ 0 ≤ a' ∧ a' ≤ ps.length ∧ 0 ≤ b' ∧ b' ≤ ps.length ∧ k = (a' + b').toNat ∧ acc.length + (a' + b').toNat ≤ 46 ∧ (∀ w m,Climb ps a' b' w m → Climb ps a b (acc ++ w) m),⟨_,a,b,[],_,rfl,a0,a1,b0,b1,rfl,by have:=hT.hi; simp; omega,fun w m h => h⟩,?_⟩
  rintro k ρ ⟨a',b',acc,v,rfl,a0',a1',b0',b1',rfl,hl,hc⟩
  have hi:=hT.hi
  refine (bU (c:=(!decide (a' = b')) = true) (fun c => ?_) (fun c => ?_))
  · have hne:a' ≠ b':=by simpa using c
    have key:∀ (low hig:Int),low = (if b' > a' then b' else a') → hig = (if b' < a' then b' else a') → 0 < low ∧ low ≤ ps.length ∧ 0 ≤ hig ∧ hig ≤ ps.length ∧ low + hig = a' + b' ∧ (∀ w m,Climb ps hig (d8 ps low) w m → Climb ps a' b' (low :: w) m):=by
      intro low hig e1 e2
      by_cases hlt:b' < a'
      · rw [if_neg (by omega)] at e1; rw [if_pos hlt] at e2; subst e1; subst e2
        exact ⟨by omega,a1',b0',b1',by omega,fun w m h => .left hlt h⟩
      · rw [if_pos (by omega)] at e1; rw [if_neg hlt] at e2; subst e1; subst e2
        exact ⟨by omega,b1',a0',a1',by omega,fun w m h => .right (by omega) h⟩
    obtain ⟨L,hL⟩:∃ L,L = (if b' > a' then b' else a'):=⟨_,rfl⟩
    obtain ⟨J,hJ⟩:∃ J,J = (if b' < a' then b' else a'):=⟨_,rfl⟩
    obtain ⟨k1,k2,k3,k4,k5,k6⟩:=key L J hL hJ
    clear key
    have hp:=hT.up k1 k2
    refine ⟨rfl,?_⟩
    refine ⟨by show (acc.map D.int).length < 1000; rw [List.length_map]; clear hL hJ; omega,?_⟩
    refine bg (bX (by rw [← hL]; clear hL hJ; omega) (by rw [← hL]; clear hL hJ; omega)) ?_
    refine ⟨(J + d8 ps L).toNat,by clear hL hJ; omega,J,d8 ps L,acc ++ [L],some (.int L),?_,k3,k4,hp.1,by clear hL hJ; omega,rfl,by rw [List.length_append]; show acc.length + 1 + _ ≤ 46; clear hL hJ; omega,fun w m h => by rw [List.append_assoc]; exact hc _ _ (k6 _ _ h)⟩
    show [some (aN ps rs),some (.int (if b' < a' then b' else a')),some (.int (d8 ps (if b' > a' then b' else a'))),some (D.lst (acc.map D.int ++ [D.int (if b' > a' then b' else a')])),some (.int (if b' > a' then b' else a'))] = _
    rw [← hL,← hJ,ap,List.map_append]; rfl
  · have:a' = b':=by simpa using c
    subst this
    have hw:=hc [] a' (.same a')
    rw [List.append_nil] at hw
    have hln:=hw.len hT a0 b0 a1 b1
    refine ⟨acc,rfl,by omega,bZ _,rfl,?_⟩
    exact q0 acc a' hw
theorem vd (T:Txt K mg A):FnOk P w K mg base CX0 6 A.f_q13 A.d_q13 ["tree","one","other"] (bd [false,false,false] true (sdWay)):=by
  have G_q53:=vj (P:=P) (w:=w) (base:=base) T
  have G_q8:=ok_q8 (P:=P) (w:=w) (base:=base) T
  have S:=wm
  refine fnD T.F_q13 S ⟨[false,false,false],[false,false,false,true,false],true⟩ _ ?hl rfl rfl fun cdv Ar outer s H E hr => ⟨_,(ad (bR (aj (G_q8) (hr.mono (by decide)) rfl T.m_q8 T.k_q8 T.b_q8 (ai (aa 0) (ai (aa 1) (ai (aa 2) ah)))))
      (ad (nQ rfl (QF.qm (a_ (G_q53) (hr.mono (by decide)) rfl T.m_q53 T.k_q53 T.b_q53 (ai (aa 0) (ai (aa 1) (ai (aa 2) ah))))) (kz (i:=3) S.nd rfl (Or.inl rfl) (pU (i:=4) S.nd rfl (Or.inl rfl) nW)) (ak (ak a6)))
      (ag (bQ (cB 3))))),fun ds q h => ?_⟩
  case hl => intro ds q h; obtain ⟨ps,rs,a,b,rfl,_⟩:=h; rfl
  obtain ⟨ps,rs,a,b,rfl,hT,he,q0⟩:=h
  refine ⟨ps,rs,a,b,rfl,hT,he,?_⟩
  refine ⟨ps,rs,a,b,rfl,hT,he.a0,he.a1,he.b0,he.b1,fun w m hw => ?_⟩
  exact q0 w m hw
theorem kd (T:Txt K mg A):FnOk P w K mg base CX0 7 A.f_q52 A.d_q52 ["tree","ask"] (bd [false,false] true (sI)):=by
  have G_q13:=vd (P:=P) (w:=w) (base:=base) T
  have S:=vk
  refine fnD T.F_q52 S ⟨[false,false],[false,false],true⟩ _ ?hl rfl rfl fun cdv Ar outer s H E hr => ⟨_,(ag (bQ (QF.qm (a_ (G_q13) (hr.mono (by decide)) rfl T.m_q13 T.k_q13 T.b_q13 (ai (aa 0) (ai (ay ao dIx (aa 1) ac (fun _ _ => rfl)) (ai (ay ao dIx (aa 1) ac (fun _ _ => rfl)) ah))))))),fun ds q h => ?_⟩
  case hl => intro ds q h; obtain ⟨ps,rs,a,rfl,_⟩:=h; rfl
  obtain ⟨ps,rs,a,rfl,hT,he,q0⟩:=h
  refine ⟨ps,rs,a.one,a.other,rfl,hT,he,fun w m hw => ?_⟩
  rw [(hw.way hT he.a0 he.b0 he.a1 he.b1).1]
  exact q0
theorem uk (T:Txt K mg A):FnOk P w K mg base CX0 7 A.f_q9 A.d_q9 ["tree","asks","thing"] (bd [false,false,false] false (mJ)):=by
  have G_q16:=kL (P:=P) (w:=w) (base:=base) T
  have G_q7:=nz (P:=P) (w:=w) (base:=base) T
  have S:=sc_q9
  refine fnD T.F_q9 S ⟨[false,false,false],[false,false,false,false,false,false],false⟩ _ ?hl rfl rfl fun cdv Ar outer s H E hr => ⟨_,(ad (bR (aj (G_q7) (hr.mono (by decide)) rfl T.m_q7 T.k_q7 T.b_q7 (ai (aa 0) (ai (aa 1) ah))))
      (ad (a9 (bn (a8 (dh rfl T.z_isinstance bc (aa 2) (cy (v:=.ty "list") rfl T.z_list d3 rfl)))) (ag bJ) aG)
      (ad (aQ (i:=3) S.nd rfl (Or.inl rfl) ac)
      (ag (b2 PassesOwn.never rfl (dr rfl T.z_enumerate (ae (aa 2) am)) (b6 rfl (aF (aE (i:=4) S.nd rfl (Or.inl rfl)) (aF (aE (i:=5) S.nd rfl (Or.inl rfl)) bK)) (ak (ak a6))) (ad (a9 (bn (a8 (aj (G_q16) (hr.mono (by decide)) rfl T.m_q16 T.k_q16 T.b_q16 (ai (aa 5) (ai (aa 3) (ai (aw bv dI (aB aD c0 rfl T.z_len bB (ae (aa 1) am)) ac) ah)))))) (ag bJ) aG)
      (ag (aQ (i:=3) S.nd rfl (Or.inl rfl) (aw bM dI (aa 5) ac))))))))),fun ds q h => ?_⟩
  case hl => intro ds q h; obtain ⟨ps,rs,as,ks,rfl,_⟩:=h; rfl
  obtain ⟨ps,rs,as,ks,rfl,hT,ha,hk,q0⟩:=h
  refine ⟨ps,rs,as,rfl,hT,ha,?_⟩
  refine ⟨fun i ρ => ∃ (l:Int) (v1 v2:Option D),ρ = [some (aN ps rs),some (aT as),some (ap ks),some (.int l),v1,v2] ∧ 0 ≤ l ∧ ∀ (j:Nat) (x:Int),i ≤ j → ks[j]? = some x → l ≤ x,⟨0,_,_,rfl,Int.le_refl 0,fun j x _ e => (hk.lo x (List.mem_of_getElem? e)).1⟩,?_,?_⟩
  · rintro i d ρ hd ⟨l,v1,v2,rfl,l0,hl⟩
    obtain ⟨d',h1,rfl⟩:=c8 hd
    obtain ⟨z,hz,rfl⟩:=eU h1
    have hz1:=hk.lo z (List.mem_of_getElem? hz)
    refine ⟨.int z,l,((as.map bY).length:Int) - 1,rfl,rfl,?_⟩
    rw [d5 (hl i z (Nat.le_refl _) hz) (by rw [bx]; omega)]
    refine ⟨z + 1,_,_,rfl,by omega,fun j x hj e => ?_⟩
    have hlt:=List.getElem?_eq_some_iff.mp hz
    have hlt2:=List.getElem?_eq_some_iff.mp e
    have:=List.pairwise_iff_getElem.mp hk.up i j hlt.1 hlt2.1 (by omega)
    rw [hlt.2,hlt2.2] at this
    omega
  · rintro ρ ⟨l,v1,v2,rfl,_,_⟩
    exact q0
def tu:SpD:=fun ds q => ∃ a w l,ds = [bY a,ap w,ap l] ∧ (∀ t ∈ w,0 < t ∧ t ≤ (l.length:Int)) ∧ q .non [some (ap (cF l w a.size))]
theorem qr (T:Txt K mg A):FnOk P w K mg base CX0 1 A.f_q49 A.d_q49 ["ask","way","load"] (bd [false,false,true] false (tu)):=by
  have S:=wB
  refine fnD T.F_q49 S ⟨[false,false,true],[false,false,true,false],false⟩ _ ?hl rfl rfl fun cdv Ar outer s H E hr => ⟨_,(ag (b2 PassesOwn.never rfl (bo (aa 1)) (aE (i:=3) S.nd rfl (Or.inl rfl)) (ag (sY (i:=2) rfl (ay ao dIx (aa 0) ac (fun _ _ => rfl)) (aw bv dI (aa 3) ac))))),fun ds q h => ?_⟩
  case hl => intro ds q h; obtain ⟨a,w,l,rfl,_⟩:=h; rfl
  obtain ⟨a,w,l,rfl,hw,q0⟩:=h
  refine ⟨fun i ρ => ∃ v,ρ = [some (bY a),some (ap w),some (ap (cF l (w.take i) a.size)),v],⟨_,rfl⟩,?_,?_⟩
  · rintro i d ρ hd ⟨v,rfl⟩
    obtain ⟨z,hz,rfl⟩:=eU hd
    have hm:=hw z (List.mem_of_getElem? hz)
    have hlen:(cF l (w.take i) a.size).length = l.length:=dc _ _ _
    refine ⟨by omega,?_⟩
    rw [bX (by omega) (by omega)]
    show (match ixN ((cF l (w.take i) a.size).map D.int).length (z - 1) with | some _ => _ | none => False)
    rw [aJ,nG (by omega) (by omega)]
    refine ⟨some (.int z),?_⟩
    rw [List.take_add_one,hz]
    show _ = [_,_,some (ap (cF l (_ ++ [z]) a.size)),_]
    rw [pz,gF,← oR]; rfl
  · rintro ρ ⟨v,rfl⟩
    rw [aJ,List.take_length]
    exact q0
theorem wK (T:Txt K mg A):FnOk P w K mg base CX0 8 A.f_q18 A.d_q18 ["tree","ask","load"] (bd [false,false,false] true (l3)):=by
  have G_q49:=qr (P:=P) (w:=w) (base:=base) T
  have G_q52:=kd (P:=P) (w:=w) (base:=base) T
  have S:=wL
  refine fnD T.F_q18 S ⟨[false,false,false],[false,false,false,true],true⟩ _ ?hl rfl rfl fun cdv Ar outer s H E hr => ⟨_,(ad (cE (i:=3) S.nd rfl (Or.inl rfl) (iY fF uH rfl T.z_list d3 (ae (aa 2) am)))
      (ad (bR (aj (G_q49) (hr.mono (by decide)) rfl T.m_q49 T.k_q49 T.b_q49 (ai (aa 1) (ai (QF.qe (a_ (G_q52) (hr.mono (by decide)) rfl T.m_q52 T.k_q52 T.b_q52 (ai (aa 0) (ai (aa 1) ah)))) (dn 3 ah)))))
      (ag (bQ (cB 3))))),fun ds q h => ?_⟩
  case hl => intro ds q h; obtain ⟨ps,rs,a,l,rfl,_⟩:=h; rfl
  obtain ⟨ps,rs,a,l,rfl,hT,he,hl,q0⟩:=h
  refine ⟨bZ _,?_⟩
  refine ⟨ps,rs,a,rfl,hT,he,?_⟩
  refine ⟨a,az ps a,l,rfl,fun t ht => ?_,q0⟩
  have hm:=cb hT he ht
  rw [hl]; exact ⟨by omega,by omega⟩
theorem pQ (T:Txt K mg A):FnOk P w K mg base CX0 9 A.f_q58 A.d_q58 ["tree","asks","keep"] (bd [false,false,false] true (tY)):=by
  have G_q18:=wK (P:=P) (w:=w) (base:=base) T
  have G_q9:=uk (P:=P) (w:=w) (base:=base) T
  have S:=vh
  refine fnD T.F_q58 S ⟨[false,false,false],[false,false,false,true,false],true⟩ _ ?hl rfl rfl fun cdv Ar outer s H E hr => ⟨_,(ad (bR (aj (G_q9) (hr.mono (by decide)) rfl T.m_q9 T.k_q9 T.b_q9 (ai (aa 0) (ai (aa 1) (ai (aa 2) ah)))))
      (ad (cE (i:=3) S.nd rfl (Or.inl rfl) (rK lU dRep (du (ae ac am)) (aB aD c0 rfl T.z_len bB (ae (ay ao dIx (aa 0) ac (fun _ _ => rfl)) am))))
      (ad (b2 PassesOwn.never rfl (bo (aa 2)) (aE (i:=4) S.nd rfl (Or.inl rfl)) (ag (cE (i:=3) S.nd rfl (Or.inl rfl) (QF.bor [3] (a_ (G_q18) (hr.mono (by decide)) rfl T.m_q18 T.k_q18 T.b_q18 (ai (aa 0) (ai (ay ao dIx (aa 1) (aa 4) (fun _ _ => rfl)) (ai (aa 3) ah))))))))
      (ag (bQ (cB 3)))))),fun ds q h => ?_⟩
  case hl => intro ds q h; obtain ⟨ps,rs,as,ks,rfl,_⟩:=h; rfl
  obtain ⟨ps,rs,as,ks,rfl,hT,ha,hk,q0⟩:=h
  have hi:=hT.hi
  refine ⟨ps,rs,as,ks,rfl,hT,ha,hk,?_⟩
  refine ⟨⟨by rw [aJ]; omega,by rw [aJ]; omega,by rw [aJ]; simp; omega⟩,?_⟩
  rw [aJ,gZ,show Int.toNat ((ps.length:Nat):Int) = ps.length by omega,j6]
  refine ⟨bZ _,?_⟩
  refine ⟨fun i ρ => ∃ v,ρ = [some (aN ps rs),some (aT as),some (ap ks),some (ap (aZ ps as (ks.take i))),v],⟨_,rfl⟩,?_,?_⟩
  · rintro i d ρ hd ⟨v,rfl⟩
    obtain ⟨z,hz,rfl⟩:=eU hd
    have hz1:=hk.lo z (List.mem_of_getElem? hz)
    refine bg (dO hz1.1 hz1.2) ?_
    have hmem:=cj (as:=as) (k:=z.toNat) (by omega)
    refine ⟨ps,rs,as.getD z.toNat cw,aZ ps as (ks.take i),rfl,hT,(ha.ok _ hmem).ends,bD _ _ _,?_⟩
    refine ⟨some (.int z),?_⟩
    rw [List.take_add_one,hz]
    show _ = [_,_,_,some (ap (aZ ps as (_ ++ [z]))),_]
    rw [eC]; rfl
  · rintro ρ ⟨v,rfl⟩
    rw [aJ,List.take_length]
    exact q0
theorem rV (T:Txt K mg A):FnOk P w K mg base CX0 10 A.f_q15 A.d_q15 ["tree","asks","keep"] (bd [false,false,false] false (tV)):=by
  have G_q58:=pQ (P:=P) (w:=w) (base:=base) T
  have S:=vW
  refine fnD T.F_q15 S ⟨[false,false,false],[false,false,false,false,false],false⟩ _ ?hl rfl rfl fun cdv Ar outer s H E hr => ⟨_,(ad (b2 PassesOwn.never rfl (dr rfl T.z_enumerate (ae (QF.qe (a_ (G_q58) (hr.mono (by decide)) rfl T.m_q58 T.k_q58 T.b_q58 (ai (aa 0) (ai (aa 1) (ai (aa 2) ah))))) am)) (b6 rfl (aF (aE (i:=3) S.nd rfl (Or.inl rfl)) (aF (aE (i:=4) S.nd rfl (Or.inl rfl)) bK)) (ak (ak a6))) (ag (a9 (aV fS dB (aa 4) (ay ao dIx (ay ao dIx (aa 0) ac (fun _ _ => rfl)) (aa 3) (fun _ _ => rfl)) (aP _)) (ag (aH (aw bM dI (aa 3) ac))) aG)))
      (ag (aH mP))),fun ds q h => ?_⟩
  case hl => intro ds q h; obtain ⟨ps,rs,as,ks,rfl,_⟩:=h; rfl
  obtain ⟨ps,rs,as,ks,rfl,hT,ha,hk,q0⟩:=h
  refine ⟨ps,rs,as,ks,rfl,hT,ha,hk,?_⟩
  have hll:=bD ps as ks
  generalize aZ ps as ks = ld at *
  refine ⟨fun i ρ => ∃ v1 v2,ρ = [some (aN ps rs),some (aT as),some (ap ks),v1,v2] ∧ ∀ j:Nat,j < i → ¬ ld.getD j 0 > rs.getD j 0,⟨_,_,rfl,fun j h => absurd h (Nat.not_lt_zero _)⟩,?_,?_⟩
  · rintro i d ρ hd ⟨v1,v2,rfl,hj⟩
    obtain ⟨d',h1,rfl⟩:=c8 hd
    obtain ⟨z,hz,rfl⟩:=eU h1
    have hil:=(List.getElem?_eq_some_iff.mp hz).1
    have hlr:=hT.len
    have ez:ld.getD i 0 = z:=by rw [List.getD_eq_getElem?_getD,hz]; rfl
    refine bg (bX (by omega) (by omega)) ?_
    rw [show (((i:Nat):Int)).toNat = i by omega]
    refine (bU (c:=decide (rs.getD i 0 < z) = true) (fun c => ?_) (fun c => ?_))
    · have:dY ld rs = .int ((i:Int) + 1):=by
        have c':rs.getD i 0 < z:=by simpa using c
        obtain ⟨r,hr⟩:=iH (ld:=ld) (rs:=rs) hil (by omega) hj
        unfold dY; rw [hr]
      rw [this] at q0; exact q0
    · have c' : ¬ rs.getD i 0 < z:=by simpa using c
      refine ⟨_,_,rfl,fun j h => ?_⟩
      by_cases e:j = i
      · subst e; omega
      · exact hj j (by omega)
  · rintro ρ ⟨v1,v2,rfl,hj⟩
    rw [ib,aJ] at hj
    have:dY ld rs = .non:=by
      have:ig ld rs = []:=by
        unfold ig
        rw [List.map_eq_nil_iff,List.filter_eq_nil_iff]
        intro k hk; simpa using hj k (List.mem_range.mp hk)
      unfold dY; rw [this]
    rw [this] at q0; exact q0
theorem qd (T:Txt K mg A):FnOk P w K mg base CX0 8 A.f_q32 A.d_q32 ["tree","asks","keep"] (bd [false,false,false] false (tX)):=by
  have G_q9:=uk (P:=P) (w:=w) (base:=base) T
  have S:=xh
  refine fnD T.F_q32 S ⟨[false,false,false],[false,false,false],false⟩ _ ?hl rfl rfl fun cdv Ar outer s H E hr => ⟨_,(ad (bR (aj (G_q9) (hr.mono (by decide)) rfl T.m_q9 T.k_q9 T.b_q9 (ai (aa 0) (ai (aa 1) (ai (aa 2) ah)))))
      (ag (aH (aB (i_ rfl) dSum rfl T.z_sum qI (ae (b9 ["number"] [1] ⟨rfl,rfl,by decide +kernel,rfl,rfl,(by first | exact trivial | exact ⟨rfl,trivial⟩ | exact ⟨rfl,rfl,trivial⟩ | exact ⟨rfl,rfl,rfl,trivial⟩ | exact ⟨rfl,rfl,rfl,rfl,trivial⟩),rfl⟩ rfl (bo (aa 2)) (bC 0) (fun _ _ _ _ => ⟨(bh (i:=0) (show List.Nodup (["number","asks"]:List Str) by decide +kernel) rfl (Or.inl rfl)),b8,(ay ao dIx (ay ao dIx (aa 1) (aa 0) (fun _ _ => rfl)) ac (fun _ _ => rfl))⟩)) am))))),fun ds q h => ?_⟩
  case hl => intro ds q h; obtain ⟨ps,rs,as,ks,rfl,_⟩:=h; rfl
  obtain ⟨ps,rs,as,ks,rfl,hT,ha,hk,q0⟩:=h
  refine ⟨ps,rs,as,ks,rfl,hT,ha,hk,?_⟩
  have hkl:=hk.len
  have hal:=ha.len
  refine ⟨by rw [aJ]; omega,?_⟩
  refine bF (fun d => match d with | .int k => .int (as.getD k.toNat cw).worth | _ => .non) ?_ ?_
  · intro d hd k hk'
    obtain ⟨x,hx,rfl⟩:=ck hd
    have:=hk.lo x hx
    refine bg (dO this.1 this.2) ?_
    exact hk'
  · refine ⟨ks.map fun k => (as.getD k.toNat cw).worth,by rw [List.map_map,List.map_map]; rfl,?_⟩
    exact q0
theorem rY (T:Txt K mg A):FnOk P w K mg base CX0 2 A.f_q11 A.d_q11 ["thing"] (bd [false] false (vy)):=by
  have G_q2:=qZ (P:=P) (w:=w) (base:=base) T
  have G_q29:=md (P:=P) (w:=w) (base:=base) T
  have S:=uV
  refine fnD T.F_q11 S ⟨[false],[false,false,false],false⟩ _ ?hl rfl rfl fun cdv Ar outer s H E hr => ⟨_,(ad (a9 (QW.qt (eu (bn (a8 (dh rfl T.z_isinstance bc (aa 0) (cy (v:=.ty "tuple") rfl T.z_tuple fW rfl)))) (cW (aV (cK hr.units) dNe (aB aD c0 rfl T.z_len bB (ae (aa 0) am)) ac (aP _))))) (ag (aH ci)) aG)
      (ad (eh (aa 0) (b6 rfl (aF (aE (i:=1) S.nd rfl (Or.inl rfl)) (aF (aE (i:=2) S.nd rfl (Or.inl rfl)) bK)) (ak (ak a6))))
      (ad (a9 (QW.qt (eu (bn (a8 (aj (G_q29) (hr.mono (by decide)) rfl T.m_q29 T.k_q29 T.b_q29 (ai (aa 1) ah)))) (cW (bn (a8 (aj (G_q29) (hr.mono (by decide)) rfl T.m_q29 T.k_q29 T.b_q29 (ai (aa 2) ah))))))) (ag (aH ci)) aG)
      (ag (aH (dX (cU p6 dB (aa 2) ac (aP _)) (eH (cU (cT hr.units) dEq (aj (G_q2) (hr.mono (by decide)) rfl T.m_q2 T.k_q2 T.b_q2 (ai (aa 1) (ai (aa 2) ah))) ac (aP _))))))))),fun ds q h => ?_⟩
  case hl => intro ds q h; obtain ⟨r,rfl,_⟩:=h; rfl
  obtain ⟨r,rfl,q0⟩:=h
  refine ⟨.int r.num,rfl,rfl,?_⟩
  refine ⟨.int r.den,rfl,rfl,?_⟩
  have hd:=bH r
  refine (bU (c:=decide ((1:Int) ≤ (r.den:Int)) = true) (fun _ => ?_) (fun c => absurd (decide_eq_true (by omega)) c))
  refine ⟨r.num,r.den,rfl,Int.le_of_lt hd,?_⟩
  rw [sE r]
  exact q0
theorem vB (T:Txt K mg A):FnOk P w K mg base CX0 3 A.f_q27 A.d_q27 ["thing"] (bd [false] false (wP)):=by
  have G_q11:=rY (P:=P) (w:=w) (base:=base) T
  have S:=wV
  refine fnD T.F_q27 S ⟨[false],[false],false⟩ _ ?hl rfl rfl fun cdv Ar outer s H E hr => ⟨_,(ag (aH (dX (aj (G_q11) (hr.mono (by decide)) rfl T.m_q11 T.k_q11 T.b_q11 (ai (aa 0) ah)) (eH (cU p6 dB (ay ao dIx (aa 0) ac (fun _ _ => rfl)) ac (aP _)))))),fun ds q h => ?_⟩
  case hl => intro ds q h; obtain ⟨r,rfl,_⟩:=h; rfl
  obtain ⟨r,rfl,hr,q0⟩:=h
  refine ⟨r,rfl,?_⟩
  show q (.bl (decide ((0:Int) ≤ r.num))) []
  rw [decide_eq_true (vR hr)]; exact q0
theorem uA (T:Txt K mg A):FnOk P w K mg base CX0 4 A.f_q4 A.d_q4 ["tree","thing"] (bd [false,false] false (qk)):=by
  have G_q27:=vB (P:=P) (w:=w) (base:=base) T
  have G_q10:=mU (P:=P) (w:=w) (base:=base) T
  have S:=sc_q4
  refine fnD T.F_q4 S ⟨[false,false],[false,false,false,false,false],false⟩ _ ?hl rfl rfl fun cdv Ar outer s H E hr => ⟨_,(ad (bR (aj (G_q10) (hr.mono (by decide)) rfl T.m_q10 T.k_q10 T.b_q10 (ai (aa 0) ah)))
      (ad (a9 (bn (a8 (dh rfl T.z_isinstance bc (aa 1) (cy (v:=.ty "list") rfl T.z_list d3 rfl)))) (ag bJ) aG)
      (ad (cG (aQ (i:=2) S.nd rfl (Or.inl rfl) (aB aD c0 rfl T.z_len bB (ae (ay ao dIx (aa 0) ac (fun _ _ => rfl)) am))))
      (ad (b2 PassesOwn.never rfl (dr rfl T.z_enumerate (ae (rg (aa 1) r_ (t3 (aa 2))) am)) (b6 rfl (aF (aE (i:=3) S.nd rfl (Or.inl rfl)) (aF (aE (i:=4) S.nd rfl (Or.inl rfl)) bK)) (ak (ak a6))) (ag (a9 (bn (a8 (aj (G_q27) (hr.mono (by decide)) rfl T.m_q27 T.k_q27 T.b_q27 (ai (aa 4) ah)))) (ag bJ) aG)))
      (ag (a9 (aV (cK hr.units) dNe (aB aD c0 rfl T.z_len bB (ae (aa 1) am)) (aa 2) (aP _)) (ag bJ) aG)))))),fun ds q h => ?_⟩
  case hl => intro ds q h; obtain ⟨ps,rs,prs,rfl,_⟩:=h; rfl
  obtain ⟨ps,rs,prs,rfl,hT,hp,q0⟩:=h
  have hi:=hT.hi
  have hl:=hp.len
  refine ⟨ps,rs,rfl,hT,?_⟩
  refine ⟨fun ρ => ∃ n:Int,n = ps.length ∧ ρ = [some (aN ps rs),some (dQs prs),some (.int n),none,none],⟨_,by rw [aJ],rfl⟩,?_⟩
  rintro ρ ⟨n,rfl,rfl⟩
  have ec:kO (prs.map dQ) none (some ((ps.length:Nat):Int)) = prs.map dQ:=oE (by rw [List.length_map]; omega)
  refine ⟨fun i ρ => ∃ v1 v2,ρ = [some (aN ps rs),some (dQs prs),some (.int (ps.length:Int)),v1,v2],⟨_,_,rfl⟩,?_,?_⟩
  · rintro i d ρ hd ⟨v1,v2,rfl⟩
    have hd:(k7 (kO (prs.map dQ) none (some ((ps.length:Nat):Int))))[i]? = some d:=hd
    rw [ec] at hd
    obtain ⟨d',h1,rfl⟩:=c8 hd
    obtain ⟨r,hr,rfl⟩:∃ r,prs[i]? = some r ∧ dQ r = d':=by rw [List.getElem?_map,Option.map_eq_some_iff] at h1; exact h1
    refine ⟨r,rfl,hp.pos r (List.mem_of_getElem? hr),?_⟩
    exact ⟨_,_,rfl⟩
  · rintro ρ ⟨v1,v2,rfl⟩
    refine (bU (c:=(!decide ((((prs.map dQ).length:Nat):Int) = (ps.length:Int))) = true) (fun c => absurd c ?_) (fun _ => q0))
    rw [List.length_map,decide_eq_true (by omega)]; decide
theorem vf (T:Txt K mg A):FnOk P w K mg base CX0 8 A.f_q31 A.d_q31 ["tree","ask","weight","prices"] (bd [false,false,false,false] false (pH)):=by
  have G_q59:=vY (P:=P) (w:=w) (base:=base) T
  have G_q51:=rG (P:=P) (w:=w) (base:=base) T
  have G_q60:=l9 (P:=P) (w:=w) (base:=base) T
  have G_q61:=mE (P:=P) (w:=w) (base:=base) T
  have G_q52:=kd (P:=P) (w:=w) (base:=base) T
  have S:=vK
  refine fnD T.F_q31 S ⟨[false,false,false,false],[false,false,false,false,false,false],false⟩ _ ?hl rfl rfl fun cdv Ar outer s H E hr => ⟨_,(ad (aQ (i:=4) S.nd rfl (Or.inl rfl) (aj (G_q51) (hr.mono (by decide)) rfl T.m_q51 T.k_q51 T.b_q51 (ai (b9 ["tie"] [3] ⟨rfl,rfl,by decide +kernel,rfl,rfl,(by first | exact trivial | exact ⟨rfl,trivial⟩ | exact ⟨rfl,rfl,trivial⟩ | exact ⟨rfl,rfl,rfl,trivial⟩ | exact ⟨rfl,rfl,rfl,rfl,trivial⟩),rfl⟩ rfl (bo (QF.qe (a_ (G_q52) (hr.mono (by decide)) rfl T.m_q52 T.k_q52 T.b_q52 (ai (aa 0) (ai (aa 1) ah))))) (bC 0) (fun _ _ _ _ => ⟨(bh (i:=0) (show List.Nodup (["tie","prices"]:List Str) by decide +kernel) rfl (Or.inl rfl)),b8,(ay ao dIx (aa 1) (aw bv dI (aa 0) ac) (fun _ _ => rfl))⟩)) ah)))
      (ad (aQ (i:=5) S.nd rfl (Or.inl rfl) (aj (G_q59) (hr.mono (by decide)) rfl T.m_q59 T.k_q59 T.b_q59 (ai (bE (ae (ay ao dIx (aa 1) ac (fun _ _ => rfl)) (ae ac am))) (ai (aj (G_q60) (hr.mono (by decide)) rfl T.m_q60 T.k_q60 T.b_q60 (ai (bE (ae (aa 2) (ae ac am))) (ai (aa 4) ah))) ah))))
      (ag (aH (pY (a8 (aj (G_q61) (hr.mono (by decide)) rfl T.m_q61 T.k_q61 T.b_q61 (ai (bE (ae ac (ae ac am))) (ai (aa 5) ah)))) (aa 5) (bE (ae ac (ae ac am)))))))),fun ds q h => ?_⟩
  case hl => intro ds q h; obtain ⟨ps,rs,a,w,prs,rfl,_⟩:=h; rfl
  obtain ⟨ps,rs,a,w,prs,rfl,hT,ha,hw,hp,q0⟩:=h
  have hwl:=cN hT ha.ends
  have hpl:=hp.len
  have hpb:=oh hT ha.ends hp
  have hpa:=lQ hT ha.ends hp
  refine ⟨ps,rs,a,rfl,hT,ha.ends,?_⟩
  refine ⟨by rw [aJ]; exact Nat.le_trans hwl (by decide),?_⟩
  refine bF (qo prs) ?_ ?_
  · intro d hd k hk
    obtain ⟨t,ht,rfl⟩:=ck hd
    have hm:=cb hT ha.ends ht
    refine bg (kR (by omega) (by omega)) ?_
    exact hk
  · rw [mm]
    refine ⟨_,aX prs,rfl,by rw [List.length_map]; exact Nat.le_trans hwl (by decide),fun r hr => ⟨Nat.lt_of_lt_of_le (hp.bt r (hpa r hr)).num (cq (by decide)),jE (hpa r hr)⟩,cu prs,?_,?_⟩
    · exact Nat.lt_of_le_of_lt (ki hp.bt) (Nat.pow_lt_pow_right (by decide) (by have:=hT.hi; omega))
    have e1:D.tup [.int w,.int 1] = dQ (w:Rat):=mL w
    have e2:D.tup [.int a.worth,.int 1] = dQ (a.worth:Rat):=mL a.worth
    have bw:Bt (w:Rat) 20:=lw 1000000 hw (by decide) (by decide)
    have ba:Bt (a.worth:Rat) 40:=lw 1000000000000 (by have:=ha.w0; have:=ha.w1; omega) (by decide) (by decide)
    have bt:Bt ((w:Rat) * b3 ps a prs) 3020:=(bw.mul hpb).mono (by decide)
    have bm:Bt ((a.worth:Rat) - (w:Rat) * b3 ps a prs) 3061:=(ba.sub bt).mono (by decide)
    refine ⟨(w:Rat),b3 ps a prs,by rw [← e1]; rfl,bw.mono (by decide),hpb.mono (by decide),?_⟩
    refine ⟨(a.worth:Rat),(w:Rat) * b3 ps a prs,by rw [← e2],ba.mono (by decide),bt.mono (by decide),?_⟩
    refine ⟨0,(a.worth:Rat) - (w:Rat) * b3 ps a prs,rfl,bt0 (by decide),bm.mono (by decide),?_⟩
    have eq:a7 ps a w prs = fu ((a.worth:Rat) - (w:Rat) * b3 ps a prs):=rfl
    rw [eq] at q0
    unfold fu at q0
    refine (bU (c:=decide ((0:Rat) < (a.worth:Rat) - (w:Rat) * b3 ps a prs) = true) (fun c => ?_) (fun c => ?_))
    · rw [if_pos (of_decide_eq_true c)] at q0; exact q0
    · rw [if_neg (fun z => c (decide_eq_true z))] at q0; exact q0
theorem p9 (T:Txt K mg A):FnOk P w K mg base CX0 9 A.f_q50 A.d_q50 ["tree","asks","prices"] (bd [false,false,false] true (p7)):=by
  have G_q7:=nz (P:=P) (w:=w) (base:=base) T
  have G_q4:=uA (P:=P) (w:=w) (base:=base) T
  have G_q31:=vf (P:=P) (w:=w) (base:=base) T
  have S:=uL
  refine fnD T.F_q50 S ⟨[false,false,false],[false,false,false],true⟩ _ ?hl rfl rfl fun cdv Ar outer s H E hr => ⟨_,(ad (bR (aj (G_q7) (hr.mono (by decide)) rfl T.m_q7 T.k_q7 T.b_q7 (ai (aa 0) (ai (aa 1) ah))))
      (ad (bR (aj (G_q4) (hr.mono (by decide)) rfl T.m_q4 T.k_q4 T.b_q4 (ai (aa 0) (ai (aa 2) ah))))
      (ag (bQ (QF.qm (nZ ["ask"] [0,2] ⟨rfl,rfl,by decide +kernel,rfl,rfl,(by first | exact trivial | exact ⟨rfl,trivial⟩ | exact ⟨rfl,rfl,trivial⟩ | exact ⟨rfl,rfl,rfl,trivial⟩ | exact ⟨rfl,rfl,rfl,rfl,trivial⟩),rfl⟩ rfl (bo (aa 1)) (bC 0) (fun _ _ _ _ => ⟨(bh (i:=0) (show List.Nodup (["ask","tree","prices"]:List Str) by decide +kernel) rfl (Or.inl rfl)),b8,(aj (G_q31) (hr.mono (by decide)) rfl T.m_q31 T.k_q31 T.b_q31 (ai (aa 1) (ai (aa 0) (ai (ay ao dIx (aa 0) ac (fun _ _ => rfl)) (ai (aa 2) ah)))))⟩))))))),fun ds q h => ?_⟩
  case hl => intro ds q h; obtain ⟨ps,rs,as,prs,rfl,_⟩:=h; rfl
  obtain ⟨ps,rs,as,prs,rfl,hT,ha,hp,q0⟩:=h
  have hal:=ha.len
  refine ⟨ps,rs,as,rfl,hT,ha,?_⟩
  refine ⟨ps,rs,prs,rfl,hT,hp,?_⟩
  refine ⟨by rw [List.length_map]; omega,?_⟩
  refine bF (qF ps prs) ?_ ?_
  · intro d hd k hk
    obtain ⟨a,hm,rfl⟩:=List.mem_map.mp hd
    have hok:=ha.ok a hm
    refine ⟨ps,rs,a,a.size,prs,rfl,hT,hok,by have:=hok.s0; have:=hok.s1; omega,hp,?_⟩
    exact hk
  · rw [mq]
    refine ⟨hE _,?_⟩
    exact q0
theorem rH (T:Txt K mg A):FnOk P w K mg base CX0 10 A.f_q24 A.d_q24 ["tree","asks","prices"] (bd [false,false,false] false (sy)):=by
  have G_q50:=p9 (P:=P) (w:=w) (base:=base) T
  have G_q51:=rG (P:=P) (w:=w) (base:=base) T
  have G_q60:=l9 (P:=P) (w:=w) (base:=base) T
  have S:=wC
  refine fnD T.F_q24 S ⟨[false,false,false],[false,false,false,false,false],false⟩ _ ?hl rfl rfl fun cdv Ar outer s H E hr => ⟨_,(ad (aQ (i:=3) S.nd rfl (Or.inl rfl) (QF.qe (a_ (G_q50) (hr.mono (by decide)) rfl T.m_q50 T.k_q50 T.b_q50 (ai (aa 0) (ai (aa 1) (ai (aa 2) ah))))))
      (ad (fE (i:=4) ["room","price"] [] ⟨rfl,rfl,by decide +kernel,rfl,rfl,(by first | exact trivial | exact ⟨rfl,trivial⟩ | exact ⟨rfl,rfl,trivial⟩ | exact ⟨rfl,rfl,rfl,trivial⟩ | exact ⟨rfl,rfl,rfl,rfl,trivial⟩),rfl⟩ rfl S.nd rfl (Or.inl rfl) (wN rfl T.z_zip (ae (ay ao dIx (aa 0) ac (fun _ _ => rfl)) (ae (aa 2) am))) (vv (lA (bC 0) (lA (bC 1) tP)) (ak (ak a6))) (fun _ _ _ _ => ⟨(mj rfl (eT (bh (i:=0) (show List.Nodup (["room","price"]:List Str) by decide +kernel) rfl (Or.inl rfl)) (eT (bh (i:=1) (show List.Nodup (["room","price"]:List Str) by decide +kernel) rfl (Or.inl rfl)) kH))),b8,(aj (G_q60) (hr.mono (by decide)) rfl T.m_q60 T.k_q60 T.b_q60 (ai (bE (ae (aa 0) (ae ac am))) (ai (aa 1) ah)))⟩))
      (ag (aH (aj (G_q51) (hr.mono (by decide)) rfl T.m_q51 T.k_q51 T.b_q51 (ai (rF mR dCat (aa 4) (aa 3)) ah)))))),fun ds q h => ?_⟩
  case hl => intro ds q h; obtain ⟨ps,rs,as,prs,rfl,_⟩:=h; rfl
  obtain ⟨ps,rs,as,prs,rfl,hT,ha,hp,q0⟩:=h
  have hal:=ha.len
  have hpl:=hp.len
  have hi:=hT.hi
  have hlr:=hT.len
  refine ⟨ps,rs,as,prs,rfl,hT,ha,hp,?_⟩
  have hzl:(kP (rs.map D.int) (prs.map dQ)).length = ps.length:=by unfold kP; rw [List.length_zipWith,List.length_map,List.length_map]; omega
  refine ⟨by rw [hzl]; omega,?_⟩
  refine bF gU ?_ ?_
  · intro d hd k hk
    obtain ⟨j,hj⟩:=List.getElem?_of_mem hd
    obtain ⟨x,y,e1,e2,rfl⟩:=nH hj
    obtain ⟨z,hz,rfl⟩:=eU e1
    obtain ⟨p,hpm,rfl⟩:∃ r,prs[j]? = some r ∧ dQ r = y:=by rw [List.getElem?_map,Option.map_eq_some_iff] at e2; exact e2
    have bz:=nU hT (List.mem_of_getElem? hz)
    have bp:=hp.bt p (List.mem_of_getElem? hpm)
    refine ⟨(z:Rat),p,by rw [← mL],bz.mono (by decide),bp.mono (by decide),?_⟩
    rw [iM] at hk
    exact hk
  · rw [gR]
    have hpal:=pw rs prs
    have hpr:=o9 hT hp
    have emap:(aq rs prs).map dQ ++ (as.map fun a => a7 ps a a.size prs).map dQ = (aq rs prs ++ as.map fun a => a7 ps a a.size prs).map dQ:=by rw [List.map_append]
    refine ⟨by rw [List.length_map,List.length_map,List.length_map]; omega,?_⟩
    refine ⟨aq rs prs ++ as.map fun a => a7 ps a a.size prs,aX prs,by rw [emap]; rfl,by rw [List.length_append,List.length_map]; omega,fun r hr => ?_,cu prs,Nat.lt_of_le_of_lt (ki hp.bt) (Nat.pow_lt_pow_right (by decide) (by omega)),?_⟩
    · rcases List.mem_append.mp hr with hr | hr
      · exact ⟨Nat.lt_of_lt_of_le (hpr r hr).1.num (cq (by decide)),(hpr r hr).2⟩
      · obtain ⟨a,hm,rfl⟩:=List.mem_map.mp hr
        exact ⟨Nat.lt_of_lt_of_le (qP hT (ha.ok a hm) hp).num (cq (by decide)),pr hT (ha.ok a hm).ends hpl⟩
    · rw [List.sum_append]
      exact q0
end
end K43
namespace K43
open PySem L2
section
variable {P:Program} {w:World} {K:PySem.W.Frag} {mg:Str → Option Value} {base:Heap} {A:Adr}
theorem xt (T:Txt K mg A):FnOk P w K mg base CX0 8 A.f_q41 A.d_q41 ["tree","asks"] (bd [false,false] false (qY)):=by
  have G_q52:=kd (P:=P) (w:=w) (base:=base) T
  have S:=wT
  refine fnD T.F_q41 S ⟨[false,false],[false,false],false⟩ _ ?hl rfl rfl fun cdv Ar outer s H E hr => ⟨_,(ag (aH (b9 ["ask"] [0] ⟨rfl,rfl,by decide +kernel,rfl,rfl,(by first | exact trivial | exact ⟨rfl,trivial⟩ | exact ⟨rfl,rfl,trivial⟩ | exact ⟨rfl,rfl,rfl,trivial⟩ | exact ⟨rfl,rfl,rfl,rfl,trivial⟩),rfl⟩ rfl (bo (aa 1)) (bC 0) (fun _ _ _ _ => ⟨(bh (i:=0) (show List.Nodup (["ask","tree"]:List Str) by decide +kernel) rfl (Or.inl rfl)),b8,(QF.qe (a_ (G_q52) (hr.mono (by decide)) rfl T.m_q52 T.k_q52 T.b_q52 (ai (aa 1) (ai (aa 0) ah))))⟩)))),fun ds q h => ?_⟩
  case hl => intro ds q h; obtain ⟨ps,rs,as,rfl,_⟩:=h; rfl
  obtain ⟨ps,rs,as,rfl,hT,ha,q0⟩:=h
  have hal:=ha.len
  refine ⟨by rw [bx]; omega,?_⟩
  refine bF (wayF ps) ?_ ?_
  · intro d hd k hk
    obtain ⟨a,hm,rfl⟩:=List.mem_map.mp hd
    refine ⟨ps,rs,a,rfl,hT,(ha.ok a hm).ends,?_⟩
    exact hk
  · rw [rp]
    exact q0
theorem wx (T:Txt K mg A):FnOk P w K mg base CX0 1 A.f_q39 A.d_q39 ["tree","ask","way","load"] (bd [false,false,false,false] true (rn)):=by
  have S:=u7
  refine fnD T.F_q39 S ⟨[false,false,false,false],[false,false,false,false],true⟩ _ ?hl rfl rfl fun cdv Ar outer s H E hr => ⟨_,(ag (bQ (QF.qm (nZ ["tie"] [3,1,0] ⟨rfl,rfl,by decide +kernel,rfl,rfl,(by first | exact trivial | exact ⟨rfl,trivial⟩ | exact ⟨rfl,rfl,trivial⟩ | exact ⟨rfl,rfl,rfl,trivial⟩ | exact ⟨rfl,rfl,rfl,rfl,trivial⟩),rfl⟩ rfl (bo (aa 2)) (bC 0) (fun _ _ _ _ => ⟨(bh (i:=0) (show List.Nodup (["tie","load","ask","tree"]:List Str) by decide +kernel) rfl (Or.inl rfl)),(fc (aV fS dB (aw bM dI (ay ao dIx (aa 1) (aw bv dI (aa 0) ac) (fun _ _ => rfl)) (ay ao dIx (aa 2) ac (fun _ _ => rfl))) (ay ao dIx (ay ao dIx (aa 3) ac (fun _ _ => rfl)) (aw bv dI (aa 0) ac) (fun _ _ => rfl)) (aP _))),(aa 0)⟩))))),fun ds q h => ?_⟩
  case hl => intro ds q h; obtain ⟨ps,rs,a,w,l,rfl,_⟩:=h; rfl
  obtain ⟨ps,rs,a,w,l,rfl,hT,hw,hwl,hl,q0⟩:=h
  have hlr:=hT.len
  refine ⟨by rw [aJ]; omega,?_⟩
  refine dJ (kK rs a.size l) ?_ ?_
  · intro d hd k hk
    obtain ⟨t,ht,rfl⟩:=ck hd
    have hm:=hw t ht
    refine bg (bX (by omega) (by omega)) ?_
    refine bg (bX (by omega) (by omega)) ?_
    have e:kK rs a.size l (.int t) = if decide (rs.getD (t - 1).toNat 0 < l.getD (t - 1).toNat 0 + a.size) = true then some (.int t) else none:=rfl
    rw [e] at hk
    show if decide (rs.getD (t - 1).toNat 0 < l.getD (t - 1).toNat 0 + a.size) = true then k (some (.int t)) else k none
    by_cases h:decide (rs.getD (t - 1).toNat 0 < l.getD (t - 1).toNat 0 + a.size) = true
    · rw [if_pos h] at hk ⊢; exact hk
    · rw [if_neg h] at hk ⊢; exact hk
  · rw [iu]
    exact ⟨bZ _,q0⟩
theorem vM (T:Txt K mg A):FnOk P w K mg base CX0 1 A.f_q23 A.d_q23 ["asks"] (bd [false] false (vX)):=by
  have S:=v_
  refine fnD T.F_q23 S ⟨[false],[false],false⟩ _ ?hl rfl rfl fun cdv Ar outer s H E hr => ⟨_,(ag (aH (aB (j7 rfl) dAll rfl T.z_all pS (ae (b9 ["ask"] [] ⟨rfl,rfl,by decide +kernel,rfl,rfl,(by first | exact trivial | exact ⟨rfl,trivial⟩ | exact ⟨rfl,rfl,trivial⟩ | exact ⟨rfl,rfl,rfl,trivial⟩ | exact ⟨rfl,rfl,rfl,rfl,trivial⟩),rfl⟩ rfl (bo (aa 0)) (bC 0) (fun _ _ _ _ => ⟨(bh (i:=0) (show List.Nodup (["ask"]:List Str) by decide +kernel) rfl (Or.inl rfl)),b8,(cU (cT hr.units) dEq (ay ao dIx (aa 0) ac (fun _ _ => rfl)) ac (aP _))⟩)) am)))),fun ds q h => ?_⟩
  case hl => intro ds q h; obtain ⟨ps,as,rfl,_⟩:=h; rfl
  obtain ⟨ps,as,rfl,ha,q0⟩:=h
  have hal:=ha.len
  refine ⟨by rw [bx]; omega,?_⟩
  refine bF oneF ?_ ?_
  · intro d hd k hk
    obtain ⟨a,hm,rfl⟩:=List.mem_map.mp hd
    exact hk
  · rw [qh]
    refine ⟨_,rfl,?_⟩
    have e:(as.map fun a => decide (a.size = 1)).all id = bP as:=by rw [List.all_map]; rfl
    rw [e]; exact q0
theorem ok_q6 (T:Txt K mg A):FnOk P w K mg base CX0 8 A.f_q6 A.d_q6 ["tree","ask"] (bd [false,false] false (vm)):=by
  have G_q52:=kd (P:=P) (w:=w) (base:=base) T
  have S:=sc_q6
  refine fnD T.F_q6 S ⟨[false,false],[false,false],false⟩ _ ?hl rfl rfl fun cdv Ar outer s H E hr => ⟨_,(ag (aH (aB (oQ rfl) dAny rfl T.z_any xq (ae (b9 ["tie"] [1,0] ⟨rfl,rfl,by decide +kernel,rfl,rfl,(by first | exact trivial | exact ⟨rfl,trivial⟩ | exact ⟨rfl,rfl,trivial⟩ | exact ⟨rfl,rfl,rfl,trivial⟩ | exact ⟨rfl,rfl,rfl,rfl,trivial⟩),rfl⟩ rfl (bo (QF.qe (a_ (G_q52) (hr.mono (by decide)) rfl T.m_q52 T.k_q52 T.b_q52 (ai (aa 0) (ai (aa 1) ah))))) (bC 0) (fun _ _ _ _ => ⟨(bh (i:=0) (show List.Nodup (["tie","ask","tree"]:List Str) by decide +kernel) rfl (Or.inl rfl)),b8,(cU fS dB (aw dt dIC ac (ay ao dIx (aa 1) ac (fun _ _ => rfl))) (ay ao dIx (ay ao dIx (aa 2) ac (fun _ _ => rfl)) (aw bv dI (aa 0) ac) (fun _ _ => rfl)) (aP _))⟩)) am)))),fun ds q h => ?_⟩
  case hl => intro ds q h; obtain ⟨ps,rs,a,rfl,_⟩:=h; rfl
  obtain ⟨ps,rs,a,rfl,hT,ha,q0⟩:=h
  have hlr:=hT.len
  refine ⟨ps,rs,a,rfl,hT,ha.ends,?_⟩
  refine ⟨by rw [aJ]; exact Nat.le_trans (cN hT ha.ends) (by decide),?_⟩
  refine bF (uE rs a.size) ?_ ?_
  · intro d hd k hk
    obtain ⟨t,ht,rfl⟩:=ck hd
    have hm:=cb hT ha.ends ht
    refine ⟨Or.inl ⟨by decide,by decide⟩,?_⟩
    refine bg (bX (by omega) (by omega)) ?_
    exact hk
  · rw [pA]
    refine ⟨_,rfl,?_⟩
    have e:((az ps a).map fun t => decide (rs.getD (t - 1).toNat 0 < 2 * a.size)).any id = fk ps rs a:=by rw [List.any_map]; rfl
    rw [e]; exact q0
theorem ok_q3 (T:Txt K mg A):FnOk P w K mg base CX0 9 A.f_q3 A.d_q3 ["tree","asks"] (bd [false,false] false (qA)):=by
  have G_q6:=ok_q6 (P:=P) (w:=w) (base:=base) T
  have S:=sc_q3
  refine fnD T.F_q3 S ⟨[false,false],[false,false,false,false],false⟩ _ ?hl rfl rfl fun cdv Ar outer s H E hr => ⟨_,(ag (b2 PassesOwn.never rfl (dr rfl T.z_enumerate (ae (aa 1) am)) (b6 rfl (aF (aE (i:=2) S.nd rfl (Or.inl rfl)) (aF (aE (i:=3) S.nd rfl (Or.inl rfl)) bK)) (ak (ak a6))) (ag (a9 (a8 (aj (G_q6) (hr.mono (by decide)) rfl T.m_q6 T.k_q6 T.b_q6 (ai (aa 0) (ai (aa 3) ah)))) (ag bJ) aG)))),fun ds q h => ?_⟩
  case hl => intro ds q h; obtain ⟨ps,rs,as,rfl,_⟩:=h; rfl
  obtain ⟨ps,rs,as,rfl,hT,ha,hh,q0⟩:=h
  refine ⟨fun i ρ => ∃ v1 v2,ρ = [some (aN ps rs),some (aT as),v1,v2],⟨_,_,rfl⟩,?_,?_⟩
  · rintro i d ρ hd ⟨v1,v2,rfl⟩
    obtain ⟨d',h1,rfl⟩:=c8 hd
    obtain ⟨a,hr,rfl⟩:=kg h1
    have hm:=List.mem_of_getElem? hr
    refine ⟨ps,rs,a,rfl,hT,ha.ok a hm,?_⟩
    rw [hh a hm]
    exact ⟨_,_,rfl⟩
  · rintro ρ ⟨v1,v2,rfl⟩
    exact q0
theorem qx (T:Txt K mg A):FnOk P w K mg base CX0 3 A.f_q40 A.d_q40 ["ask"] (bd [false] false (wu)):=by
  have G_q25:=kx (P:=P) (w:=w) (base:=base) T
  have S:=uK
  refine fnD T.F_q40 S ⟨[false],[false],false⟩ _ ?hl rfl rfl fun cdv Ar outer s H E hr => ⟨_,(ag (aH (aj (G_q25) (hr.mono (by decide)) rfl T.m_q25 T.k_q25 T.b_q25 (ai (ay ao dIx (aa 0) ac (fun _ _ => rfl)) (ai (ay ao dIx (aa 0) ac (fun _ _ => rfl)) ah))))),fun ds q h => ?_⟩
  case hl => intro ds q h; obtain ⟨ps,a,rfl,_⟩:=h; rfl
  obtain ⟨ps,a,rfl,ha,q0⟩:=h
  have:=ha.s0; have:=ha.s1
  exact ⟨a.worth,a.size,rfl,by omega,cr (n:=1000000) (by omega) (by decide +kernel),q0⟩
theorem ok_q0 (T:Txt K mg A):FnOk P w K mg base CX0 4 A.f_q0 A.d_q0 ["asks"] (bd [false] true (rA)):=by
  have G_q40:=qx (P:=P) (w:=w) (base:=base) T
  have G_q61:=mE (P:=P) (w:=w) (base:=base) T
  have S:=sc_q0
  refine fnD T.F_q0 S ⟨[false],[false,true,false,false,false],true⟩ _ ?hl rfl rfl fun cdv Ar outer s H E hr => ⟨_,(ad (cE (i:=1) S.nd rfl (Or.inl rfl) (eD am))
      (ad (b2 PassesOwn.never rfl (dr rfl T.z_enumerate (ae (aa 0) am)) (b6 rfl (aF (aE (i:=2) S.nd rfl (Or.inl rfl)) (aF (aE (i:=3) S.nd rfl (Or.inl rfl)) bK)) (ak (ak a6))) (ad (aQ (i:=4) S.nd rfl (Or.inl rfl) (QE.bor [1] (aB aD c0 rfl T.z_len bB (ae (aa 1) am))))
      (ad (eI PassesOwn.never (QT.bor [1] (QW.qt (kF (aV fS dB (aa 4) ac (aP _)) (kU (a8 (aj (G_q61) (hr.mono (by decide)) rfl T.m_q61 T.k_q61 T.b_q61 (ai (aj (G_q40) (hr.mono (by decide)) rfl T.m_q40 T.k_q40 T.b_q40 (ai (ay ao dIx (aa 0) (ay ao dIx (aa 1) (aw bv dI (aa 4) ac) (fun _ _ => rfl)) (fun _ _ => rfl)) ah)) (ai (aj (G_q40) (hr.mono (by decide)) rfl T.m_q40 T.k_q40 T.b_q40 (ai (aa 3) ah)) ah)))))))) (ag (vc (i:=4) S.nd rfl (Or.inl rfl) wX ac)))
      (ag (tJ (i:=1) rfl (ae (aa 4) (ae (aa 2) am)))))))
      (ag (bQ (cB 1))))),fun ds q h => ?_⟩
  case hl => intro ds q h; obtain ⟨ps,as,rfl,_⟩:=h; rfl
  obtain ⟨ps,as,rfl,ha,q0⟩:=h
  have hal:=ha.len
  refine ⟨rfl,?_⟩
  refine ⟨fun i ρ => ∃ o v1 v2 v3,ρ = [some (aT as),some (ap o),v1,v2,v3] ∧ OrdN as i o,⟨[],_,_,_,rfl,OrdN.nil as⟩,?_,?_⟩
  · rintro i d ρ hd ⟨o,v1,v2,v3,rfl,ho⟩
    obtain ⟨d',h1,rfl⟩:=c8 hd
    obtain ⟨a,hr,rfl⟩:=kg h1
    have hok:=ha.ok a (List.mem_of_getElem? hr)
    have hl:=ho.len
    have hil:i < as.length:=(List.getElem?_eq_some_iff.mp hr).1
    have hai:aK as (i:Int) = fm a:=by unfold aK; rw [Int.toNat_natCast,List.getD_eq_getElem?_getD,hr]; rfl
    refine ⟨rfl,?_⟩
    refine ⟨fun k ρ => ∃ p:Nat,p = k ∧ p ≤ i ∧ ρ = [some (aT as),some (ap o),some (.int i),some (bY a),some (.int p)] ∧ ∀ (j:Nat) x,p ≤ j → o[j]? = some x → aK as x < aK as (i:Int),⟨i,i,rfl,Nat.le_refl _,by rw [aJ,hl]; rfl,fun j x hj e => by rw [List.getElem?_eq_none (by omega)] at e; cases e⟩,?_⟩
    rintro k ρ ⟨p,rfl,hp,rfl,hx⟩
    refine (bU (c:=decide ((0:Int) < (p:Int)) = true) (fun c => ?_) (fun c => ?_))
    · have hp0 : 0 < p:=by simpa using c
      have hz:(o.getD (p - 1) 0) ∈ o:=by rw [List.getD_eq_getElem?_getD,List.getElem?_eq_getElem (by omega)]; exact List.getElem_mem _
      have hzr:=(ho.mem _).mp hz
      have ez:o[p - 1]? = some (o.getD (p - 1) 0):=by rw [List.getD_eq_getElem?_getD,List.getElem?_eq_getElem (by omega)]; rfl
      have hat:atI (o.map D.int) ((p:Int) - 1) = some (.int (o.getD (p - 1) 0)):=by rw [bX (by omega) (by omega),show ((p:Int) - 1).toNat = p - 1 by omega]
      generalize o.getD (p - 1) 0 = z at hz hzr ez hat
      refine bg hat ?_
      refine bg (dO hzr.1 (by omega)) ?_
      have hokz:=ha.ok _ (cj (as:=as) (k:=z.toNat) (by omega))
      refine ⟨ps,_,rfl,hokz,?_⟩
      refine ⟨ps,a,rfl,hok,?_⟩
      refine ⟨_,_,rfl,(kB hokz).mono (by decide),(kB hok).mono (by decide),?_⟩
      refine (bU (c:=decide (fm (as.getD z.toNat cw) < fm a) = true) (fun c => ?_) (fun c => ?_))
      · have c':=of_decide_eq_true c
        refine ⟨p - 1,by omega,p - 1,rfl,by omega,?_,fun j x hj e => ?_⟩
        · show _ = [_,_,_,_,some (D.int ((p - 1:Nat):Int))]
          rw [show ((p - 1:Nat):Int) = (p:Int) - 1 by omega]; rfl
        · by_cases e2:j = p - 1
          · rw [e2,ez] at e; injection e with e; rw [← e,hai]; exact c'
          · exact hx j x (by omega) e
      · refine ⟨o,p,(i:Int),rfl,rfl,by omega,by omega,?_⟩
        refine ⟨_,_,_,_,rfl,ho.ins hp hx fun x _ e => ?_⟩
        rw [ez] at e; injection e with e
        rw [← e,hai]; exact fun z => c (decide_eq_true z)
    · have hp0:p = 0:=by simp at c; omega
      refine ⟨o,p,(i:Int),rfl,rfl,by omega,by omega,?_⟩
      exact ⟨_,_,_,_,rfl,ho.ins hp hx fun x h0 _ => by omega⟩
  · rintro ρ ⟨o,v1,v2,v3,rfl,ho⟩
    refine q0 o ?_
    have:(k7 (as.map bY)).length = as.length:=by rw [ib,List.length_map]
    rw [this] at ho; exact ho
end
end K43
namespace K43
open PySem L2
section
variable {P:Program} {w:World} {K:PySem.W.Frag} {mg:Str → Option Value} {base:Heap} {A:Adr}
theorem xl (T:Txt K mg A):FnOk P w K mg base CX0 4 A.f_q35 A.d_q35 ["tree","asks","ways","kept","order"] (bd [false,false,false,false,false] true (qv)):=by
  have G_q49:=qr (P:=P) (w:=w) (base:=base) T
  have G_q39:=wx (P:=P) (w:=w) (base:=base) T
  have G_q40:=qx (P:=P) (w:=w) (base:=base) T
  have S:=vp
  refine fnD T.F_q35 S ⟨[false,false,false,false,false],[false,false,false,false,false,true,true,true,true,false,false],true⟩ _ ?hl rfl rfl fun cdv Ar outer s H E hr => ⟨_,(ad (cE (i:=5) S.nd rfl (Or.inl rfl) (rK lU dRep (du (ae ac am)) (aB aD c0 rfl T.z_len bB (ae (ay ao dIx (aa 0) ac (fun _ _ => rfl)) am))))
      (ad (cE (i:=6) S.nd rfl (Or.inr rfl) (rK lU dRep (du (ae (bE (ae ac (ae ac am))) am)) (aB aD c0 rfl T.z_len bB (ae (ay ao dIx (aa 0) ac (fun _ _ => rfl)) am))))
      (ad (cE (i:=7) S.nd rfl (Or.inl rfl) (iY fF uH rfl T.z_list d3 (ae (aa 3) am)))
      (ad (cG (cE (i:=8) S.nd rfl (Or.inl rfl) (eD am)))
      (ad (b2 PassesOwn.never rfl (bo (aa 3)) (aE (i:=9) S.nd rfl (Or.inl rfl)) (ag (bR (aj (G_q49) (hr.mono (by decide)) rfl T.m_q49 T.k_q49 T.b_q49 (ai (ay ao dIx (aa 1) (aa 9) (fun _ _ => rfl)) (ai (ay ao dIx (aa 2) (aa 9) (fun _ _ => rfl)) (dn 5 ah)))))))
      (ad (b2 PassesOwn.never rfl (bo (aa 4)) (aE (i:=9) S.nd rfl (Or.inl rfl)) (ad (aQ (i:=10) S.nd rfl (Or.inl rfl) (QF.qe (QF.bor [5] (a_ (G_q39) (hr.mono (by decide)) rfl T.m_q39 T.k_q39 T.b_q39 (ai (aa 0) (ai (ay ao dIx (aa 1) (aa 9) (fun _ _ => rfl)) (ai (ay ao dIx (aa 2) (aa 9) (fun _ _ => rfl)) (ai (aa 5) ah))))))))
      (ag (a9 (qH (aa 10)) (ad (dG (i:=8) rfl (QE.qf (aa 9)))
      (ag (cG (a9 (QT.bor [6] (a8 (aB (j7 rfl) dAll rfl T.z_all pS (ae (b9 ["tie"] [6] ⟨rfl,rfl,by decide +kernel,rfl,rfl,(by first | exact trivial | exact ⟨rfl,trivial⟩ | exact ⟨rfl,rfl,trivial⟩ | exact ⟨rfl,rfl,rfl,trivial⟩ | exact ⟨rfl,rfl,rfl,rfl,trivial⟩),rfl⟩ rfl (bo (aa 10)) (bC 0) (fun _ _ _ _ => ⟨(bh (i:=0) (show List.Nodup (["tie","prices"]:List Str) by decide +kernel) rfl (Or.inl rfl)),b8,(cU (cT hr.units) dEq (ay ao dIx (aa 1) (aw bv dI (aa 0) ac) (fun _ _ => rfl)) (bE (ae ac (ae ac am))) (aP _))⟩)) am)))) (ag (kf (i:=6) rfl (QE.qf (aj (G_q40) (hr.mono (by decide)) rfl T.m_q40 T.k_q40 T.b_q40 (ai (ay ao dIx (aa 1) (aa 9) (fun _ _ => rfl)) ah))) (aw bv dI (ay ao dIx (aa 10) ac (fun _ _ => rfl)) ac))) aG)))) (ad (dG (i:=7) rfl (QE.qf (aa 9)))
      (ag (bR (aj (G_q49) (hr.mono (by decide)) rfl T.m_q49 T.k_q49 T.b_q49 (ai (ay ao dIx (aa 1) (aa 9) (fun _ _ => rfl)) (ai (ay ao dIx (aa 2) (aa 9) (fun _ _ => rfl)) (dn 5 ah)))))))))))
      (ag (bQ (mN (cA (QF.qm (QF.bor [7] (hZ em nb rfl T.z_sorted gr (ae (aa 7) am)))) (cA (cB 6) (cA (cB 8) gG)))))))))))),fun ds q h => ?_⟩
  case hl => intro ds q h; obtain ⟨ps,rs,as,o,rfl,_⟩:=h; rfl
  obtain ⟨ps,rs,as,o,rfl,hT,ha,hol,hor,q0⟩:=h
  have hal:=ha.len
  have hti:=hT.hi
  refine ⟨⟨by rw [aJ]; omega,by rw [aJ]; omega,by rw [aJ]; simp; omega⟩,?_⟩
  rw [aJ,gZ,Int.toNat_natCast,j6]
  refine ⟨bZ _,?_⟩
  refine ⟨⟨by rw [aJ]; omega,by rw [aJ]; omega,by rw [aJ]; simp; omega⟩,?_⟩
  rw [aJ,gZ,Int.toNat_natCast]
  have ez:List.replicate ps.length (D.tup [.int 0,.int 1]) = (List.replicate ps.length (0:Rat)).map dQ:=by rw [List.map_replicate]; rfl
  rw [ez]
  refine ⟨hE _,?_⟩
  refine ⟨rfl,?_⟩
  refine ⟨fun ρ => ρ = [some (aN ps rs),some (aT as),some (jJ (dH ps as)),some (ap []),some (ap o),some (ap (cS ps).load),some (dQs (cS ps).prices),some (ap (cS ps).keep),some (ap (cS ps).sent),none,none],⟨rfl,rfl⟩,?_⟩
  rintro ρ rfl
  refine ⟨fun i ρ => ρ = [some (aN ps rs),some (aT as),some (jJ (dH ps as)),some (ap []),some (ap o),some (ap (cS ps).load),some (dQs (cS ps).prices),some (ap (cS ps).keep),some (ap (cS ps).sent),none,none],rfl,fun i d ρ hd _ => (by cases hd),?_⟩
  rintro ρ rfl
  refine ⟨fun i ρ => ∃ v9 v10,ρ = [some (aN ps rs),some (aT as),some (jJ (dH ps as)),some (ap []),some (ap o),some (ap (b5 ps rs as (o.take i)).load),some (dQs (b5 ps rs as (o.take i)).prices),some (ap (b5 ps rs as (o.take i)).keep),some (ap (b5 ps rs as (o.take i)).sent),v9,v10],⟨_,_,rfl⟩,?_,?_⟩
  · rintro i d ρ hd ⟨v9,v10,rfl⟩
    obtain ⟨z,hz,rfl⟩:=eU hd
    have hz1:=hor z (List.mem_of_getElem? hz)
    have hil:i < o.length:=(List.getElem?_eq_some_iff.mp hz).1
    have hok:=ha.ok _ (cj (as:=as) (k:=z.toNat) (by omega))
    have hF:=mS (ps:=ps) (rs:=rs) (as:=as) (o.take i) fun k hk => (hor k (List.mem_of_mem_take hk)).1
    rw [List.length_take,Nat.min_eq_left (Nat.le_of_lt hil)] at hF
    have hkl:=hF.kl; have hsl:=hF.sl; have hll:=hF.ll; have hpl:=hF.pl
    have es:b5 ps rs as (o.take (i + 1)) = bW ps rs as (b5 ps rs as (o.take i)) z:=by rw [List.take_add_one,hz]; exact mX ..
    generalize hS:b5 ps rs as (o.take i) = S at hkl hsl hll hpl es
    have hat:=dO (as:=as) hz1.1 hz1.2
    refine bg hat ?_
    have hwy:atI ((dH ps as).map ap) z = some (ap (az ps (aL as z))):=by
      refine kA (f:=ap) ?_
      have e:z = ((z.toNat:Nat):Int):=by omega
      have hl:z.toNat < (dH ps as).length:=by unfold dH; rw [List.length_map]; omega
      have h:atI (dH ps as) ((z.toNat:Nat):Int) = some (az ps (aL as z)):=fe (by unfold dH aL; rw [List.getElem?_map,List.getD_eq_getElem?_getD,List.getElem?_eq_getElem (by omega)]; rfl)
      rw [← e] at h; exact h
    refine bg hwy ?_
    have hwl:=cN hT hok.ends
    have hwm:∀ t ∈ az ps (aL as z),0 < t ∧ t ≤ (ps.length:Int):=fun t ht => cb hT hok.ends ht
    have hwl2:(az ps (aL as z)).length ≤ 46:=hwl
    refine ⟨ps,rs,aL as z,az ps (aL as z),S.load,rfl,hT,hwm,by omega,hll,?_⟩
    have eo:lJ rs (aL as z).size (az ps (aL as z)) S.load = eX ps rs as S z:=rfl
    rw [eo]
    have hom:∀ t ∈ eX ps rs as S z,0 < t ∧ t ≤ (ps.length:Int):=fun t ht => hwm t (List.mem_filter.mp ht).1
    have hol2:(eX ps rs as S z).length ≤ 46:=Nat.le_trans (List.length_filter_le _ _) hwl2
    have ef:bW ps rs as S z = (match eX ps rs as S z with
      | [] => ⟨S.keep ++ [z],cF S.load (az ps (aL as z)) (aL as z).size,S.prices,S.sent⟩
      | t :: ts => ⟨S.keep,S.load,if dz S.prices (t :: ts) = true then S.prices.set (t - 1).toNat (aK as z) else S.prices,S.sent ++ [z]⟩):=rfl
    rw [ef] at es
    cases hov:eX ps rs as S z with
    | nil =>
      rw [hov] at es
      refine ⟨rfl,by rw [aJ]; omega,?_⟩
      refine bg hat ?_
      refine bg hwy ?_
      refine ⟨aL as z,az ps (aL as z),S.load,rfl,by rw [hll]; exact hwm,?_⟩
      refine ⟨some (.int z),some (ap []),?_⟩
      rw [es]
      show _ = [_,_,_,_,_,_,_,some (ap (S.keep ++ [z])),_,_,_]
      rw [← dR]; rfl
    | cons t ts =>
      rw [hov] at hom hol2 es
      refine ⟨rfl,by rw [aJ]; omega,?_⟩
      refine ⟨fun ρ => ρ = [some (aN ps rs),some (aT as),some (jJ (dH ps as)),some (ap []),some (ap o),some (ap S.load),some (dQs (if dz S.prices (t :: ts) = true then S.prices.set (t - 1).toNat (aK as z) else S.prices)),some (ap S.keep),some (ap (S.sent ++ [z])),some (.int z),some (ap (t :: ts))],?_,?_⟩
      · refine ⟨by rw [aJ]; omega,?_⟩
        refine bF (uw S.prices) ?_ ?_
        · intro d hd k hk
          obtain ⟨x,hx,rfl⟩:=ck hd
          have hm:=hom x hx
          refine bg (kR (by omega) (by omega)) ?_
          refine ⟨gy _,gy 0,?_⟩
          show k (.bl (eqD (dQ (S.prices.getD (x - 1).toNat 0)) (dQ 0)))
          rw [eqDq]; exact hk
        · rw [o6]
          refine ⟨_,rfl,?_⟩
          have e:((t :: ts).map fun t => decide (S.prices.getD (t - 1).toNat 0 = 0)).all id = dz S.prices (t :: ts):=by rw [List.all_map]; rfl
          rw [e]
          refine (bU (c:=dz S.prices (t :: ts) = true) (fun c => ?_) (fun c => ?_))
          · refine bg hat ?_
            refine ⟨ps,aL as z,rfl,hok,rfl,?_⟩
            have ht:=hom t (.head _)
            refine bg (bX (ns:=t :: ts) (k:=0) (by decide) (by simp)) ?_
            show (match ixN (S.prices.map dQ).length (t - 1) with | some _ => _ | none => False)
            rw [List.length_map,nG (by omega) (by omega)]
            show _ = _
            rw [if_pos c,← dR]
            unfold dQs
            rw [List.map_set]; rfl
          · show _ = _
            rw [if_neg c,← dR]; rfl
      · rintro ρ rfl
        refine ⟨some (.int z),some (ap (t :: ts)),?_⟩
        rw [es]
  · rintro ρ ⟨v9,v10,rfl⟩
    rw [aJ,List.take_length]
    have hF:=mS (ps:=ps) (rs:=rs) (as:=as) o fun k hk => (hor k hk).1
    have hkl:=hF.kl
    refine ⟨_,rfl,by omega,?_⟩
    exact ⟨bZ _,q0⟩
theorem u9 (T:Txt K mg A):FnOk P w K mg base CX0 10 A.f_q12 A.d_q12 ["tree","asks"] (bd [false,false] true (qD)):=by
  have G_q23:=vM (P:=P) (w:=w) (base:=base) T
  have G_q35:=xl (P:=P) (w:=w) (base:=base) T
  have G_q0:=ok_q0 (P:=P) (w:=w) (base:=base) T
  have G_q7:=nz (P:=P) (w:=w) (base:=base) T
  have G_q3:=ok_q3 (P:=P) (w:=w) (base:=base) T
  have G_q41:=xt (P:=P) (w:=w) (base:=base) T
  have S:=wa
  refine fnD T.F_q12 S ⟨[false,false],[false,false,true,true,false],true⟩ _ ?hl rfl rfl fun cdv Ar outer s H E hr => ⟨_,(ad (bR (aj (G_q7) (hr.mono (by decide)) rfl T.m_q7 T.k_q7 T.b_q7 (ai (aa 0) (ai (aa 1) ah))))
      (ad (cG (a9 (bn (a8 (aj (G_q23) (hr.mono (by decide)) rfl T.m_q23 T.k_q23 T.b_q23 (ai (aa 1) ah)))) (ag (bR (aj (G_q3) (hr.mono (by decide)) rfl T.m_q3 T.k_q3 T.b_q3 (ai (aa 0) (ai (aa 1) ah))))) aG))
      (ad (nQ rfl (QF.qm (a_ (G_q35) (hr.mono (by decide)) rfl T.m_q35 T.k_q35 T.b_q35 (ai (aa 0) (ai (aa 1) (ai (aj (G_q41) (hr.mono (by decide)) rfl T.m_q41 T.k_q41 T.b_q41 (ai (aa 0) (ai (aa 1) ah))) (ai (du am) (ai (QF.qe (a_ (G_q0) (hr.mono (by decide)) rfl T.m_q0 T.k_q0 T.b_q0 (ai (aa 1) ah))) ah))))))) (kz (i:=2) S.nd rfl (Or.inl rfl) (kz (i:=3) S.nd rfl (Or.inl rfl) (pU (i:=4) S.nd rfl (Or.inl rfl) nW))) (ak (ak (ak a6))))
      (ag (bQ (mN (cA (cB 2) (cA (cB 3) gG)))))))),fun ds q h => ?_⟩
  case hl => intro ds q h; obtain ⟨ps,rs,as,rfl,_⟩:=h; rfl
  obtain ⟨ps,rs,as,rfl,hT,ha,hh,q0⟩:=h
  refine ⟨ps,rs,as,rfl,hT,ha,?_⟩
  refine ⟨fun ρ => ρ = [some (aN ps rs),some (aT as),none,none,none],?_,?_⟩
  · refine ⟨ps,as,rfl,ha,?_⟩
    refine (bU (c:=(!bP as) = true) (fun c => ?_) (fun c => rfl))
    refine ⟨ps,rs,as,rfl,hT,ha,hh.resolve_left (by intro h; rw [h] at c; cases c),?_⟩
    exact rfl
  rintro ρ rfl
  refine ⟨ps,rs,as,rfl,hT,ha,?_⟩
  refine ⟨ps,as,rfl,ha,fun o ho => ?_⟩
  refine ⟨ps,rs,as,o,rfl,hT,ha,by rw [ho.len]; omega,fun k hk => (ho.mem k).mp hk,?_⟩
  exact q0 o ho
end
end K43
namespace K43
open PySem L2
section
variable {P:Program} {w:World} {K:PySem.W.Frag} {mg:Str → Option Value} {base:Heap} {A:Adr}
theorem rE (T:Txt K mg A):FnOk P w K mg base CX0 1 A.f_q47 A.d_q47 ["_law_script","_law_k"] (bd [false,false] true (vI K)):=by
  have S:=vP
  refine fnD T.F_q47 S ⟨[false,false],[false,false,false,false],true⟩ _ ?hl rfl rfl fun cdv Ar outer s H E hr => ⟨_,(ad (aQ (i:=2) S.nd rfl (Or.inl rfl) ac)
      (ad (cG (a9 (aV lc dB (aa 1) (aB aD c0 rfl T.z_len bB (ae (aa 0) am)) (aP _)) (ag (aQ (i:=2) S.nd rfl (Or.inl rfl) (ay ao dIx (aa 0) (aa 1) (fun _ _ => rfl)))) aG))
      (ad (aQ (i:=3) S.nd rfl (Or.inl rfl) (aw cV dIC (aw dt dIC (aw bM dI (aw bM dI (aw cV dIC (aa 2) ac) (aw dt dIC (aw dt dIC ac (aa 1)) (aa 1))) ac) ac) ac))
      (ad (a9 (aV lc dB (aa 2) (aw fC dIC ac ac) (aP _)) (ag (aQ (i:=2) S.nd rfl (Or.inl rfl) ac)) aG)
      (ag (bQ (QF.qm (eD (ae (aa 2) (ae (aa 3) am)))))))))),fun ds q h => ?_⟩
  case hl => intro ds q h; obtain ⟨φ,ns,k,rfl,_⟩:=h; rfl
  obtain ⟨φ,ns,k,rfl,hφ,h0,h1,q0⟩:=h
  refine ⟨fun ρ => ∃ z:Int,ρ = [some (.scr φ ns),some (.int k),some (.int z),none],?_,?_⟩
  · refine ⟨hφ,?_⟩
    refine (bU (c:=decide (k < (ns.length:Int)) = true) (fun c => ?_) (fun c => ⟨0,rfl⟩))
    have c':k < ns.length:=by simpa using c
    refine ⟨hφ,?_⟩
    show (match atI ns k with | some n => _ | none => False)
    rw [vV h0 c']; exact ⟨_,rfl⟩
  rintro ρ ⟨z,rfl⟩
  refine ⟨(show (0:Int) < 1000000007 by decide),Or.inl ⟨by decide,by decide⟩,Or.inr ⟨by omega,by omega⟩,Or.inr ⟨by decide,by decide⟩,(show (0:Int) < 2147483647 by decide),?_⟩
  refine ⟨⟨by decide,by decide,by decide⟩,?_⟩
  refine (bU (c:=decide (z < 10 ^ 18) = true) (fun c => ?_) (fun c => ?_))
  · exact ⟨rfl,q0 _ _ (Int.le_refl 0)⟩
  · have c':(10:Int) ^ 18 ≤ z:=by simpa using c
    exact ⟨rfl,q0 _ _ (by omega)⟩
theorem gj (T:Txt K mg A):FnOk P w K mg base CX0 1 A.f_q48 A.d_q48 ["_law_pool_here","_law_many"] (bd [true,false] false (wE)):=by
  have S:=vw
  refine fnD T.F_q48 S ⟨[true,false],[true,false,false],false⟩ _ ?hl rfl rfl fun cdv Ar outer s H E hr => ⟨_,(ad (a9 (QT.bor [0] (aV fS dB (ay ao dIx (aa 0) ac (fun _ _ => rfl)) ac (aP _))) (ad (aQ (i:=2) S.nd rfl (Or.inl rfl) (QE.bor [0] (aw cV dIC (ay ao dIx (aa 0) ac (fun _ _ => rfl)) (aa 1))))
      (ad (kf (i:=0) rfl (QF.bor [0] (QE.qf (aw de dIC (ay ao dIx (aa 0) ac (fun _ _ => rfl)) (aa 1)))) ac)
      (ag (aH (aa 2))))) aG)
      (ad (kf (i:=0) rfl (QF.bor [0] (QE.qf (aw cV dIC (aw bM dI (aw dt dIC (ay ao dIx (aa 0) ac (fun _ _ => rfl)) ac) ac) ac))) ac)
      (ag (aH (QE.bor [0] (aw cV dIC (aw nB dIC (aw cV dIC (aw dt dIC (ay ao dIx (aa 0) ac (fun _ _ => rfl)) (ay ao dIx (aa 0) ac (fun _ _ => rfl))) ac) ac) (aa 1))))))),fun ds q h => ?_⟩
  case hl => intro ds q h; obtain ⟨c,m,many,rfl,_⟩:=h; rfl
  obtain ⟨c,m,many,rfl,h0,hm,hs,q0⟩:=h
  refine (bU (c:=decide (0 < c) = true) (fun c1 => ?_) (fun c1 => ?_))
  · refine ⟨hm,rfl,?_⟩
    refine ⟨⟨hm,hs⟩,rfl,?_⟩
    exact q0 _ (c / many) m (Int.emod_nonneg _ (Int.ne_of_gt hm)) (Int.emod_lt_of_pos _ hm) (Int.ediv_nonneg h0 (Int.le_of_lt hm))
  · refine ⟨Or.inr ⟨by decide,by decide⟩,(show (0:Int) < 2147483647 by decide),rfl,?_⟩
    have a1:=Int.emod_nonneg (m * 48271 + 11) (show (2147483647:Int) ≠ 0 by decide)
    have a2:=Int.emod_lt_of_pos (m * 48271 + 11) (show (0:Int) < 2147483647 by decide)
    refine ⟨Or.inl ⟨by omega,by omega⟩,(show (0:Int) < 2147483629 by decide),⟨by decide,by decide⟩,hm,?_⟩
    exact ⟨rfl,q0 _ c _ (Int.emod_nonneg _ (Int.ne_of_gt hm)) (Int.emod_lt_of_pos _ hm) h0⟩
theorem qM (T:Txt K mg A):FnOk P w K mg base CX0 2 A.f_q30 A.d_q30 ["_law_pool_here","_law_most"] (bd [true,false] false (pX)):=by
  have G_q48:=gj (P:=P) (w:=w) (base:=base) T
  have S:=wA
  refine fnD T.F_q30 S ⟨[true,false],[true,false,false],false⟩ _ ?hl rfl rfl fun cdv Ar outer s H E hr => ⟨_,(ad (aQ (i:=2) S.nd rfl (Or.inl rfl) (aj (G_q48) (hr.mono (by decide)) rfl T.m_q48 T.k_q48 T.b_q48 (dn 0 (ai ac ah))))
      (ad (a9 (aV (cT hr.units) dEq (aa 2) ac (aP _)) (ag (aH (aw bM dI ac (aj (G_q48) (hr.mono (by decide)) rfl T.m_q48 T.k_q48 T.b_q48 (dn 0 (ai (aB (dN rfl) qO rfl T.z_min gw (ae (aa 1) (ae ac am))) ah)))))) aG)
      (ad (a9 (aV (cT hr.units) dEq (aa 2) ac (aP _)) (ag (aH (aw bM dI ac (aj (G_q48) (hr.mono (by decide)) rfl T.m_q48 T.k_q48 T.b_q48 (dn 0 (ai (aB (dN rfl) qO rfl T.z_min gw (ae (aa 1) (ae ac am))) ah)))))) aG)
      (ad (a9 (aV (cT hr.units) dEq (aa 2) ac (aP _)) (ag (aH (aw bv dI (aa 1) (aj (G_q48) (hr.mono (by decide)) rfl T.m_q48 T.k_q48 T.b_q48 (dn 0 (ai (aB (dN rfl) qO rfl T.z_min gw (ae (aa 1) (ae ac am))) ah)))))) aG)
      (ag (aH (aw bM dI ac (aw cV dIC (aw bM dI (aw dt dIC (aj (G_q48) (hr.mono (by decide)) rfl T.m_q48 T.k_q48 T.b_q48 (dn 0 (ai (aw fC dIC ac ac) ah))) (aw fC dIC ac ac)) (aj (G_q48) (hr.mono (by decide)) rfl T.m_q48 T.k_q48 T.b_q48 (dn 0 (ai (aw fC dIC ac ac) ah)))) (aa 1))))))))),fun ds q h => ?_⟩
  case hl => intro ds q h; obtain ⟨c,m,most,rfl,_⟩:=h; rfl
  obtain ⟨c,m,most,rfl,h0,hm0,hm1,q0⟩:=h
  refine ⟨c,m,4,rfl,h0,by decide,cr (n:=4) (by decide) (by decide +kernel),fun w0 c1 m1 w00 w01 h1 => ?_⟩
  have hmin:∀ j:Int,1 ≤ j → ∃ z:Int,(if j < most then j else most) = z ∧ 1 ≤ z ∧ z ≤ most:=fun j hj => by
    by_cases h:j < most
    · exact ⟨j,by rw [if_pos h],hj,by omega⟩
    · exact ⟨most,by rw [if_neg h],hm0,Int.le_refl _⟩
  refine (bU (c:=decide (w0 = 0) = true) (fun c => ?_) (fun c => ?_))
  · obtain ⟨z,ez,z0,z1⟩:=hmin 3 (by decide)
    refine ⟨c1,m1,z,by rw [← ez],h1,by omega,cr (n:=1000000000000) (by omega) (by decide +kernel),fun u c2 m2 u0 u1 h2 => ?_⟩
    exact q0 _ c2 m2 (by omega) (by omega) h2
  refine (bU (c:=decide (w0 = 1) = true) (fun c => ?_) (fun c => ?_))
  · obtain ⟨z,ez,z0,z1⟩:=hmin 12 (by decide)
    refine ⟨c1,m1,z,by rw [← ez],h1,by omega,cr (n:=1000000000000) (by omega) (by decide +kernel),fun u c2 m2 u0 u1 h2 => ?_⟩
    exact q0 _ c2 m2 (by omega) (by omega) h2
  refine (bU (c:=decide (w0 = 2) = true) (fun c => ?_) (fun c => ?_))
  · obtain ⟨z,ez,z0,z1⟩:=hmin 3 (by decide)
    refine ⟨c1,m1,z,by rw [← ez],h1,by omega,cr (n:=1000000000000) (by omega) (by decide +kernel),fun u c2 m2 u0 u1 h2 => ?_⟩
    exact q0 _ c2 m2 (by omega) (by omega) h2
  refine ⟨⟨by decide,by decide,by decide⟩,?_⟩
  refine ⟨c1,m1,1000000,rfl,h1,by decide,cr (n:=1000000) (by decide) (by decide +kernel),fun u c2 m2 u0 u1 h2 => ?_⟩
  refine ⟨⟨by decide,by decide,by decide⟩,Or.inr ⟨by decide,by decide⟩,?_⟩
  refine ⟨⟨by decide,by decide,by decide⟩,?_⟩
  refine ⟨c2,m2,1000000,rfl,h2,by decide,cr (n:=1000000) (by decide) (by decide +kernel),fun u' c3 m3 u0' u1' h3 => ?_⟩
  refine ⟨(show (0:Int) < most by omega),?_⟩
  have e1:∀ z:Int,1 ≤ 1 + z % most:=fun z => by have:=Int.emod_nonneg z (show most ≠ 0 by omega); omega
  have e2:∀ z:Int,1 + z % most ≤ most:=fun z => by have:=Int.emod_lt_of_pos z (show 0 < most by omega); omega
  exact q0 _ c3 m3 (e1 _) (e2 _) h3
theorem uR (T:Txt K mg A):FnOk P w K mg base CX0 2 A.f_q17 A.d_q17 ["_law_pool_here","_law_most"] (bd [true,false] true (oW)):=by
  have G_q48:=gj (P:=P) (w:=w) (base:=base) T
  have S:=wY
  refine fnD T.F_q17 S ⟨[true,false],[true,false,false,true,false,false],true⟩ _ ?hl rfl rfl fun cdv Ar outer s H E hr => ⟨_,(ad (aQ (i:=2) S.nd rfl (Or.inl rfl) (aj (G_q48) (hr.mono (by decide)) rfl T.m_q48 T.k_q48 T.b_q48 (dn 0 (ai ac ah))))
      (ad (cE (i:=3) S.nd rfl (Or.inl rfl) (eD am))
      (ad (b2 PassesOwn.never rfl (gq rfl T.z_range (ae ac (ae (aw bM dI ac (aj (G_q48) (hr.mono (by decide)) rfl T.m_q48 T.k_q48 T.b_q48 (dn 0 (ai (aa 1) ah)))) am))) (aE (i:=4) S.nd rfl (Or.inl rfl)) (ad (aQ (i:=5) S.nd rfl (Or.inl rfl) (aj (G_q48) (hr.mono (by decide)) rfl T.m_q48 T.k_q48 T.b_q48 (dn 0 (ai (aa 4) ah))))
      (ag (dG (i:=3) rfl (QE.qf (ay ao dIx (du (ae (aa 5) (ae (aw bv dI (aa 4) ac) (ae ac (ae (aB (fg rfl) dMax rfl T.z_max gc (ae ac (ae (aw bv dI (aw bv dI (aa 4) ac) (aw cV dIC (aa 5) ac)) am))) am))))) (aa 2) (fun _ _ => rfl)))))))
      (ag (bQ (cB 3)))))),fun ds q h => ?_⟩
  case hl => intro ds q h; obtain ⟨c,m,most,rfl,_⟩:=h; rfl
  obtain ⟨c,m,most,rfl,h0,hm0,hm1,q0⟩:=h
  refine ⟨c,m,4,rfl,h0,by decide,cr (n:=4) (by decide) (by decide +kernel),fun w0 c1 m1 w00 w01 h1 => ?_⟩
  refine ⟨rfl,?_⟩
  refine ⟨c1,m1,most,rfl,h1,by omega,cr (n:=23) (by omega) (by decide +kernel),fun n c2 m2 n0 n1 h2 => ?_⟩
  refine ⟨⟨by omega,by omega,by omega⟩,?_⟩
  refine ⟨fun i ρ => ∃ (ps:List Int) (c m:Int) (v4 v5:Option D),ρ = [some (ap [c,m]),some (.int most),some (.int w0),some (ap ps),v4,v5] ∧ 0 ≤ c ∧ ps.length = i ∧ (∀ (j:Nat) (x:Int),ps[j]? = some x → 0 ≤ x ∧ x ≤ j),⟨[],c2,m2,_,_,rfl,h2,rfl,(fun j x h => by simp at h)⟩,?_,?_⟩
  · rintro i d ρ hd ⟨ps,c3,m3,v4,v5,rfl,h3,lp,hpar⟩
    obtain ⟨hi,rfl⟩:=er hd
    have hi2:i < 23:=by omega
    refine ⟨c3,m3,1 + (i:Int),rfl,h3,by omega,cr (n:=23) (by omega) (by decide +kernel),fun r c4 m4 r0 r1 h4 => ?_⟩
    refine ⟨(show (0:Int) < 3 by decide),?_⟩
    have e1:=Int.emod_nonneg r (show (3:Int) ≠ 0 by decide)
    obtain ⟨y,hy,y1,y2⟩:∃ y:Int,atI [D.int r,D.int (1 + (i:Int) - 1),D.int 0,D.int (if (0:Int) < 1 + (i:Int) - 1 - r % 3 then 1 + (i:Int) - 1 - r % 3 else 0)] w0 = some (.int y) ∧ 0 ≤ y ∧ y ≤ i:=by
      have:w0 = 0 ∨ w0 = 1 ∨ w0 = 2 ∨ w0 = 3:=by omega
      rcases this with rfl | rfl | rfl | rfl
      · exact ⟨_,rfl,by omega,by omega⟩
      · exact ⟨_,rfl,by omega,by omega⟩
      · exact ⟨_,rfl,by omega,by omega⟩
      · exact ⟨_,rfl,by split <;> omega,by split <;> omega⟩
    refine bg hy ?_
    refine ⟨rfl,by rw [aJ]; omega,?_⟩
    refine ⟨ps ++ [y],c4,m4,some (.int (1 + (i:Int))),some (.int r),?_,h4,by rw [List.length_append,lp]; rfl,nK hpar ⟨y1,by omega⟩⟩
    rw [← dR]; rfl
  · rintro ρ ⟨ps,c3,m3,v4,v5,rfl,h3,lp,hpar⟩
    rw [cP] at lp
    exact q0 ps c3 m3 ⟨by omega,by omega,hpar⟩ (by omega) h3
theorem wD (T:Txt K mg A):FnOk P w K mg base CX0 3 A.f_q38 A.d_q38 ["_law_pool_here","_law_many","_law_least"] (bd [true,false,false] true (sV)):=by
  have G_q30:=qM (P:=P) (w:=w) (base:=base) T
  have G_q48:=gj (P:=P) (w:=w) (base:=base) T
  have S:=uY
  refine fnD T.F_q38 S ⟨[true,false,false],[true,false,false,false],true⟩ _ ?hl rfl rfl fun cdv Ar outer s H E hr => ⟨_,(ad (aQ (i:=3) S.nd rfl (Or.inr rfl) (ay ao dIx (du (ae ac (ae ac (ae (aw fC dIC ac ac) am)))) (aj (G_q48) (hr.mono (by decide)) rfl T.m_q48 T.k_q48 T.b_q48 (dn 0 (ai ac ah))) (fun _ _ => rfl)))
      (ag (bQ (QF.qm (rz ["_law_k"] [2,0,3] 0 2 ⟨rfl,rfl,by decide +kernel,rfl,rfl,(by first | exact trivial | exact ⟨rfl,trivial⟩ | exact ⟨rfl,rfl,trivial⟩ | exact ⟨rfl,rfl,rfl,trivial⟩ | exact ⟨rfl,rfl,rfl,rfl,trivial⟩),rfl⟩ rfl (gg rfl T.z_range (ae (aa 1) am)) (re 0) (fun _ _ _ _ => ⟨(bh (i:=0) (show List.Nodup (["_law_k","_law_least","_law_pool_here","_law_most"]:List Str) by decide +kernel) rfl (Or.inl rfl)),b8,(aw bM dI (aw bv dI (aa 1) ac) (aj (G_q30) (hr.mono (by decide)) rfl T.m_q30 T.k_q30 T.b_q30 (dn 2 (ai (aw bM dI (aw bv dI (aa 3) (aa 1)) ac) ah))))⟩)))))),fun ds q h => ?_⟩
  case hl => intro ds q h; obtain ⟨c,m,n,least,rfl,_⟩:=h; rfl
  obtain ⟨c,m,n,least,rfl,h0,n0,n1,l0,l1,q0⟩:=h
  refine ⟨⟨by decide,by decide,by decide⟩,?_⟩
  refine ⟨c,m,3,rfl,h0,by decide,cr (n:=3) (by decide) (by decide +kernel),fun r c1 m1 r0 r1 h1 => ?_⟩
  obtain ⟨z,hz,z1,z2⟩:∃ z:Int,atI [D.int 3,D.int 60,D.int (10 ^ Int.toNat 6)] r = some (.int z) ∧ 3 ≤ z ∧ z ≤ 1000000:=by
    have:r = 0 ∨ r = 1 ∨ r = 2:=by omega
    rcases this with rfl | rfl | rfl
    all_goals exact ⟨_,rfl,by decide,by decide⟩
  refine bg hz ?_
  refine ⟨⟨by omega,by omega⟩,?_⟩
  refine ⟨by rw [cP]; omega,?_⟩
  refine ⟨fun i es d => ∃ (rs:List Int) (c m:Int),es = rs.map D.int ∧ d = ap [c,m] ∧ 0 ≤ c ∧ rs.length = i ∧ (∀ (j:Nat) (x:Int),rs[j]? = some x → least ≤ x ∧ x ≤ 1000000),⟨[],c1,m1,rfl,rfl,h1,rfl,(fun j x h => by simp at h)⟩,?_,?_⟩
  · rintro j x es d hx ⟨rs,c5,m5,rfl,rfl,h5,lr,hroom⟩
    refine ⟨c5,m5,z - least + 1,rfl,h5,by omega,by omega,fun u c6 m6 u0 u1 h6 => ?_⟩
    exact ⟨rs ++ [least - 1 + u],c6,m6,(List.map_append (l₂:=[least - 1 + u])).symm,rfl,h6,by rw [List.length_append,lr]; rfl,nK hroom ⟨by omega,by omega⟩⟩
  · rintro es d ⟨rs,c5,m5,rfl,rfl,h5,lr,hroom⟩
    rw [cP] at lr
    refine ⟨bZ _,?_⟩
    exact q0 rs c5 m5 ⟨by omega,hroom⟩ h5
theorem xo (T:Txt K mg A):FnOk P w K mg base CX0 2 A.f_q46 A.d_q46 ["_law_pool_here","_law_many"] (bd [true,false] false (tj)):=by
  have G_q48:=gj (P:=P) (w:=w) (base:=base) T
  have S:=ve
  refine fnD T.F_q46 S ⟨[true,false],[true,false,false],false⟩ _ ?hl rfl rfl fun cdv Ar outer s H E hr => ⟨_,(ad (aQ (i:=2) S.nd rfl (Or.inl rfl) (aj (G_q48) (hr.mono (by decide)) rfl T.m_q48 T.k_q48 T.b_q48 (dn 0 (ai (aw bM dI (aa 1) ac) ah))))
      (ag (aH (bE (ae (aa 2) (ae (aw cV dIC (aw bM dI (aw bM dI (aa 2) ac) (aj (G_q48) (hr.mono (by decide)) rfl T.m_q48 T.k_q48 T.b_q48 (dn 0 (ai (aa 1) ah)))) (aw bM dI (aa 1) ac)) am)))))),fun ds q h => ?_⟩
  case hl => intro ds q h; obtain ⟨c,m,n,rfl,_⟩:=h; rfl
  obtain ⟨c,m,n,rfl,h0,n0,n1,q0⟩:=h
  refine ⟨c,m,(n:Int) + 1,rfl,h0,by omega,cr (n:=24) (by omega) (by decide +kernel),fun a c1 m1 a0 a1 h1 => ?_⟩
  refine ⟨c1,m1,(n:Int),rfl,h1,by omega,cr (n:=24) (by omega) (by decide +kernel),fun r c2 m2 r0 r1 h2 => ?_⟩
  refine ⟨(show (0:Int) < (n:Int) + 1 by omega),?_⟩
  have he:=lY (ps:=List.replicate n 0) (a:=a) (r:=r) a0 (by rw [List.length_replicate]; omega) r0 (by rw [List.length_replicate]; omega)
  rw [List.length_replicate,show 1 + (n:Int) = (n:Int) + 1 by omega] at he
  have hb1:=he.b1
  rw [List.length_replicate] at hb1
  exact q0 _ _ c2 m2 he.a0 (by omega) he.b0 hb1 he.ne h2
end
end K43
namespace K43
open PySem L2
section
variable {P:Program} {w:World} {K:PySem.W.Frag} {mg:Str → Option Value} {base:Heap} {A:Adr}
theorem u8 (T:Txt K mg A):FnOk P w K mg base CX0 1 A.f_q62 A.d_q62 ["_law_parents_here","_law_place"] (bd [false,false] true (sdUpP)):=by
  have S:=wF
  refine fnD T.F_q62 S ⟨[false,false],[false,false,true],true⟩ _ ?hl rfl rfl fun cdv Ar outer s H E hr => ⟨_,(ad (cE (i:=2) S.nd rfl (Or.inl rfl) (eD am))
      (ad (eI PassesOwn.never (aV fS dB (aa 1) ac (aP _)) (ad (dG (i:=2) rfl (QE.qf (aa 1)))
      (ag (aQ (i:=1) S.nd rfl (Or.inl rfl) (ay ao dIx (aa 0) (aw bv dI (aa 1) ac) (fun _ _ => rfl))))))
      (ag (bQ (cB 2))))),fun ds q h => ?_⟩
  case hl => intro ds q h; obtain ⟨ps,rs,k,rfl,_⟩:=h; rfl
  obtain ⟨ps,rs,k,rfl,hT,h0,h1,q0⟩:=h
  have hi:=hT.hi
  refine ⟨rfl,?_⟩
  refine ⟨fun j ρ => ∃ (k':Int) (acc:List Int),ρ = [some (ap ps),some (.int k'),some (ap acc)] ∧ 0 ≤ k' ∧ k' ≤ ps.length ∧ j = k'.toNat ∧ acc.length + k'.toNat ≤ 24 ∧ (∀ u,Up ps k' u → Up ps k (acc ++ u)),⟨_,k,[],rfl,h0,h1,rfl,by show 0 + k.toNat ≤ 24; omega,fun u h => h⟩,?_⟩
  rintro j ρ ⟨k',acc,rfl,h0',h1',rfl,hl,hu⟩
  refine (bU (c:=decide (0 < k') = true) (fun c => ?_) (fun c => ?_))
  · have hk : 0 < k':=by simpa using c
    have hp:=hT.up hk h1'
    refine ⟨rfl,by rw [aJ]; omega,?_⟩
    refine bg (bX (by omega) (by omega)) ?_
    refine ⟨(d8 ps k').toNat,by omega,d8 ps k',acc ++ [k'],?_,hp.1,by omega,rfl,by rw [List.length_append]; show acc.length + 1 + _ ≤ 24; omega,fun u h => by rw [List.append_assoc]; exact hu _ (.step hk h)⟩
    rw [← dR]; rfl
  · have hk:k' = 0:=by simp at c; omega
    subst hk
    exact q0 acc (hu [0] .zero)
theorem mT (T:Txt K mg A):FnOk P w K mg base CX0 2 A.f_q57 A.d_q57 ["_law_parents_here","_law_ask_here"] (bd [false,false] true (uM)):=by
  have G_q62:=u8 (P:=P) (w:=w) (base:=base) T
  have S:=ww
  refine fnD T.F_q57 S ⟨[false,false],[false,false,false,false,false],true⟩ _ ?hl rfl rfl fun cdv Ar outer s H E hr => ⟨_,(ad (aQ (i:=2) S.nd rfl (Or.inr rfl) (QF.qe (a_ (G_q62) (hr.mono (by decide)) rfl T.m_q62 T.k_q62 T.b_q62 (ai (aa 0) (ai (ay ao dIx (aa 1) ac (fun _ _ => rfl)) ah)))))
      (ad (aQ (i:=3) S.nd rfl (Or.inr rfl) (QF.qe (a_ (G_q62) (hr.mono (by decide)) rfl T.m_q62 T.k_q62 T.b_q62 (ai (aa 0) (ai (ay ao dIx (aa 1) ac (fun _ _ => rfl)) ah)))))
      (ad (fE (i:=4) ["_law_tie"] [3] ⟨rfl,rfl,by decide +kernel,rfl,rfl,(by first | exact trivial | exact ⟨rfl,trivial⟩ | exact ⟨rfl,rfl,trivial⟩ | exact ⟨rfl,rfl,rfl,trivial⟩ | exact ⟨rfl,rfl,rfl,rfl,trivial⟩),rfl⟩ rfl S.nd rfl (Or.inl rfl) (bo (aa 2)) (bC 0) (fun _ _ _ _ => ⟨(bh (i:=0) (show List.Nodup (["_law_tie","_law_other"]:List Str) by decide +kernel) rfl (Or.inl rfl)),(fc (aV da dIn (aa 0) (aa 1) rfl)),(aa 0)⟩))
      (ag (bQ (QF.qm (hZ em nb rfl T.z_sorted gr (ae (rF mR dCat (aa 4) (b9 ["_law_tie"] [2] ⟨rfl,rfl,by decide +kernel,rfl,rfl,(by first | exact trivial | exact ⟨rfl,trivial⟩ | exact ⟨rfl,rfl,trivial⟩ | exact ⟨rfl,rfl,rfl,trivial⟩ | exact ⟨rfl,rfl,rfl,rfl,trivial⟩),rfl⟩ rfl (bo (aa 3)) (bC 0) (fun _ _ _ _ => ⟨(bh (i:=0) (show List.Nodup (["_law_tie","_law_one"]:List Str) by decide +kernel) rfl (Or.inl rfl)),(fc (aV da dIn (aa 0) (aa 1) rfl)),(aa 0)⟩))) am)))))))),fun ds q h => ?_⟩
  case hl => intro ds q h; obtain ⟨ps,rs,a,b,rest,rfl,_⟩:=h; rfl
  obtain ⟨ps,rs,a,b,rest,rfl,hT,a0,a1,b0,b1,q0⟩:=h
  have hi:=hT.hi
  have i0:atI (D.int a :: D.int b :: rest) 0 = some (.int a):=fe (j:=0) rfl
  have i1:atI (D.int a :: D.int b :: rest) 1 = some (.int b):=fe (j:=1) rfl
  refine bg i0 ?_
  refine ⟨ps,rs,a,rfl,hT,a0,a1,fun va hua => ?_⟩
  refine bg i1 ?_
  refine ⟨ps,rs,b,rfl,hT,b0,b1,fun vb hub => ?_⟩
  have hl:=hua.len hT a1
  have hl2:=hub.len hT b1
  rw [List.length_append] at hl hl2
  refine ⟨by rw [aJ]; simp at hl; omega,?_⟩
  refine dJ (filD fun x => !vb.contains x) ?_ ?_
  · intro d hd k hk
    obtain ⟨x,hx,rfl⟩:=ck hd
    refine ⟨rfl,dU vb,?_⟩
    change k (if (!vb.contains x) = true then some (.int x) else none) at hk
    show if (!inD (.int x) (vb.map D.int)) = true then k (some (.int x)) else k none
    rw [eG]
    cases e:vb.contains x with
    | true => rw [e] at hk; exact hk
    | false => rw [e] at hk; exact hk
  rw [gf]
  have hf1:=List.length_filter_le (fun x => !vb.contains x) va
  have hf2:=List.length_filter_le (fun x => !va.contains x) vb
  simp at hl hl2
  refine ⟨by rw [aJ]; omega,?_⟩
  refine dJ (filD fun x => !va.contains x) ?_ ?_
  · intro d hd k hk
    obtain ⟨x,hx,rfl⟩:=ck hd
    refine ⟨rfl,dU va,?_⟩
    change k (if (!va.contains x) = true then some (.int x) else none) at hk
    show if (!inD (.int x) (va.map D.int)) = true then k (some (.int x)) else k none
    rw [eG]
    cases e:va.contains x with
    | true => rw [e] at hk; exact hk
    | false => rw [e] at hk; exact hk
  rw [gf]
  refine ⟨by rw [aJ,aJ]; omega,?_⟩
  rw [← List.map_append]
  refine ⟨_,rfl,by rw [List.length_append]; omega,bZ _,?_⟩
  rw [← sv hT a0 b0 a1 b1 hua hub]
  exact q0
theorem vT (T:Txt K mg A):FnOk P w K mg base CX0 3 A.f_q54 A.d_q54 ["_law_pool_here","_law_tree"] (bd [true,false] false (wy)):=by
  have G_q46:=xo (P:=P) (w:=w) (base:=base) T
  have G_q30:=qM (P:=P) (w:=w) (base:=base) T
  have G_q48:=gj (P:=P) (w:=w) (base:=base) T
  have G_q57:=mT (P:=P) (w:=w) (base:=base) T
  have S:=wl
  refine fnD T.F_q54 S ⟨[true,false],[true,false,false,false,false,false,false],false⟩ _ ?hl rfl rfl fun cdv Ar outer s H E hr => ⟨_,(ad (eh (aj (G_q46) (hr.mono (by decide)) rfl T.m_q46 T.k_q46 T.b_q46 (dn 0 (ai (aB aD c0 rfl T.z_len bB (ae (ay ao dIx (aa 1) ac (fun _ _ => rfl)) am)) ah))) (b6 rfl (aF (aE (i:=2) S.nd rfl (Or.inl rfl)) (aF (aE (i:=3) S.nd rfl (Or.inl rfl)) bK)) (ak (ak a6))))
      (ad (aQ (i:=4) S.nd rfl (Or.inl rfl) (aB (oC rfl) dMinL rfl T.z_min gw (ae (b9 ["_law_tie"] [1] ⟨rfl,rfl,by decide +kernel,rfl,rfl,(by first | exact trivial | exact ⟨rfl,trivial⟩ | exact ⟨rfl,rfl,trivial⟩ | exact ⟨rfl,rfl,rfl,trivial⟩ | exact ⟨rfl,rfl,rfl,rfl,trivial⟩),rfl⟩ rfl (bo (QF.qe (a_ (G_q57) (hr.mono (by decide)) rfl T.m_q57 T.k_q57 T.b_q57 (ai (ay ao dIx (aa 1) ac (fun _ _ => rfl)) (ai (bE (ae (aa 2) (ae (aa 3) am))) ah))))) (bC 0) (fun _ _ _ _ => ⟨(bh (i:=0) (show List.Nodup (["_law_tie","_law_tree"]:List Str) by decide +kernel) rfl (Or.inl rfl)),b8,(ay ao dIx (ay ao dIx (aa 1) ac (fun _ _ => rfl)) (aw bv dI (aa 0) ac) (fun _ _ => rfl))⟩)) am)))
      (ad (aQ (i:=5) S.nd rfl (Or.inl rfl) (aj (G_q30) (hr.mono (by decide)) rfl T.m_q30 T.k_q30 T.b_q30 (dn 0 (ai (aw nB dIC (aa 4) ac) ah))))
      (ad (aQ (i:=6) S.nd rfl (Or.inl rfl) (aj (G_q30) (hr.mono (by decide)) rfl T.m_q30 T.k_q30 T.b_q30 (dn 0 (ai (aw fC dIC ac ac) ah))))
      (ad (cG (a9 (aV (cT hr.units) dEq (aj (G_q48) (hr.mono (by decide)) rfl T.m_q48 T.k_q48 T.b_q48 (dn 0 (ai ac ah))) ac (aP _)) (ag (aQ (i:=6) S.nd rfl (Or.inl rfl) (aB (fg rfl) dMax rfl T.z_max gc (ae ac (ae (aw bM dI (aw dt dIC (aa 5) (aw bM dI ac (aj (G_q48) (hr.mono (by decide)) rfl T.m_q48 T.k_q48 T.b_q48 (dn 0 (ai ac ah))))) (ay ao dIx (du (ae ac (ae ac (ae ac (ae (mG ac) am))))) (aj (G_q48) (hr.mono (by decide)) rfl T.m_q48 T.k_q48 T.b_q48 (dn 0 (ai ac ah))) (fun _ _ => rfl))) am))))) aG))
      (ag (aH (bE (ae (aa 2) (ae (aa 3) (ae (aa 5) (ae (aa 6) am)))))))))))),fun ds q h => ?_⟩
  case hl => intro ds q h; obtain ⟨c,m,ps,rs,rfl,_⟩:=h; rfl
  obtain ⟨c,m,ps,rs,rfl,h0,hT,hr2,q0⟩:=h
  have hi:=hT.hi
  have hlo:=hT.lo
  have hlr:=hT.len
  refine ⟨c,m,ps.length,by rw [aJ],h0,hlo,hi,fun a b c1 m1 a0 a1 b0 b1 hab h1 => ?_⟩
  have he:Ends2 ps a b:=⟨a0,a1,b0,b1,hab⟩
  refine ⟨ps,rs,a,b,[],rfl,hT,a0,a1,b0,b1,?_⟩
  have hwl:=cN hT he
  refine ⟨by rw [aJ]; omega,?_⟩
  refine bF (uJ rs) ?_ ?_
  · intro d hd k hk
    obtain ⟨t,ht,rfl⟩:=ck hd
    have hm:=cb hT he ht
    refine bg (bX (by omega) (by omega)) ?_
    exact hk
  rw [pC]
  refine ⟨_,rfl,by rw [List.length_map]; exact kX hT he,fun least hl hmin => ?_⟩
  obtain ⟨t0,ht0,rfl⟩:=List.mem_map.mp hl
  have hm0:=cb hT he ht0
  have hrm:=hr2 (t0 - 1).toNat (rs.getD (t0 - 1).toNat 0) (by rw [List.getD_eq_getElem?_getD,List.getElem?_eq_getElem (by omega)]; rfl)
  have hrm2:=hT.room (t0 - 1).toNat (rs.getD (t0 - 1).toNat 0) (by rw [List.getD_eq_getElem?_getD,List.getElem?_eq_getElem (by omega)]; rfl)
  generalize hle:rs.getD (t0 - 1).toNat 0 = least at hmin hrm hrm2
  refine ⟨⟨by decide,by decide⟩,?_⟩
  have hd1 : 1 ≤ least / 2:=by omega
  have hd2:least / 2 ≤ 500000:=by omega
  refine ⟨c1,m1,least / 2,rfl,h1,hd1,by omega,fun size c2 m2 s0 s1 h2 => ?_⟩
  refine ⟨⟨by decide,by decide,by decide⟩,?_⟩
  refine ⟨c2,m2,1000000000000,rfl,h2,by decide,by decide,fun worth c3 m3 w0 w1 h3 => ?_⟩
  refine ⟨fun ρ => ∃ (wo c m:Int),ρ = [some (ap [c,m]),some (aN ps rs),some (.int a),some (.int b),some (.int least),some (.int size),some (.int wo)] ∧ 0 ≤ c ∧ 1 ≤ wo ∧ wo ≤ 1000000000000,?_,?_⟩
  · refine ⟨c3,m3,3,rfl,h3,by decide,cr (n:=3) (by decide) (by decide +kernel),fun r c4 m4 r0 r1 h4 => ?_⟩
    refine (bU (c:=decide (r = 0) = true) (fun c => ?_) (fun c => ⟨worth,c4,m4,rfl,h4,w0,w1⟩))
    refine ⟨c4,m4,3,rfl,h4,by decide,cr (n:=3) (by decide) (by decide +kernel),fun u c5 m5 u0 u1 h5 => ?_⟩
    refine ⟨Or.inr ⟨by omega,by omega⟩,?_⟩
    refine ⟨c5,m5,4,rfl,h5,by decide,cr (n:=4) (by decide) (by decide +kernel),fun v c6 m6 v0 v1 h6 => ?_⟩
    obtain ⟨y,hy,y1,y2⟩:∃ y:Int,atI [D.int 0,D.int 0,D.int 1,D.int (-1)] v = some (.int y) ∧ -1 ≤ y ∧ y ≤ 1:=by
      have:v = 0 ∨ v = 1 ∨ v = 2 ∨ v = 3:=by omega
      rcases this with rfl | rfl | rfl | rfl
      all_goals exact ⟨_,rfl,by decide,by decide⟩
    refine bg hy ?_
    have hmul:size * (1 + u) ≤ 500000 * 3:=by
      have:u = 0 ∨ u = 1 ∨ u = 2:=by omega
      rcases this with rfl | rfl | rfl <;> omega
    refine ⟨_,c6,m6,rfl,h6,?_,?_⟩
    · show 1 ≤ (if (1:Int) < size * (1 + u) + y then size * (1 + u) + y else 1)
      split <;> omega
    · show (if (1:Int) < size * (1 + u) + y then size * (1 + u) + y else 1) ≤ 1000000000000
      split <;> omega
  · rintro ρ ⟨wo,c7,m7,rfl,h7,x0,x1⟩
    refine q0 ⟨a,b,size,wo⟩ c7 m7 ⟨he,s0,by show size ≤ 1000000; omega,x0,x1⟩ ?_ h7
    unfold fk
    rw [List.any_eq_false]
    intro t ht
    have:=hmin (rs.getD (t - 1).toNat 0) (List.mem_map.mpr ⟨t,ht,rfl⟩)
    show ¬ decide (rs.getD (t - 1).toNat 0 < 2 * size) = true
    rw [decide_eq_true_iff]; omega
def vi:SpD:=fun ds q => ∃ t b,ds = [.int t,.int b] ∧ 0 < b ∧ Sm b ∧ q (dQ (Rat.divInt t b)) []
theorem u5 (T:Txt K mg A):FnOk P w K mg base CX0 1 A.f_q55 A.d_q55 ["_law_top","_law_bottom"] (bd [false,false] false (vi)):=by
  have S:=vC
  refine fnD T.F_q55 S ⟨[false,false],[false,false,false,false],false⟩ _ ?hl rfl rfl fun cdv Ar outer s H E hr => ⟨_,(ad (aQ (i:=2) S.nd rfl (Or.inl rfl) (aa 0))
      (ad (aQ (i:=3) S.nd rfl (Or.inl rfl) (aa 1))
      (ad (eI PassesOwn.never (aV (cK hr.units) dNe (aa 3) ac (aP _)) (ag (kW (i:=2) (j:=3) rfl S.nd rfl rfl (by decide) rfl rfl (aa 3) (aw cV dIC (aa 2) (aa 3)) rfl)))
      (ag (aH (bE (ae (aw de dIC (aa 0) (aa 2)) (ae (aw de dIC (aa 1) (aa 2)) am)))))))),fun ds q h => ?_⟩
  case hl => intro ds q h; obtain ⟨t,b,rfl,_⟩:=h; rfl
  obtain ⟨t,b,rfl,hb,hs,q0⟩:=h
  refine ⟨fun k ρ => ∃ n' b':Int,ρ = [some (.int t),some (.int b),some (.int n'),some (.int b')] ∧ 0 ≤ b' ∧ b'.toNat = k ∧ ce n' b' = ce t b,⟨_,t,b,rfl,Int.le_of_lt hb,rfl,rfl⟩,?_⟩
  rintro k ρ ⟨n',b',rfl,hb',hk,hg⟩
  refine (bU (c:=(!decide (b' = 0)) = true) (fun c => ?_) (fun c => ?_))
  · have c':b' ≠ 0:=by simpa using c
    have hp : 0 < b':=by omega
    refine ⟨hp,?_⟩
    have:=Int.emod_lt_of_pos n' hp
    have:=Int.emod_nonneg n' (show b' ≠ 0 by omega)
    exact ⟨_,by omega,b',n' % b',rfl,by omega,rfl,by rw [iU hp]; exact hg⟩
  · have c':b' = 0:=by simpa using c
    subst c'
    have e:n' = ce t b:=by rw [← hg]; unfold ce; rw [if_pos rfl]
    subst e
    have g:=e7 (n:=t) hb
    have gl:=ky (n:=t) hb
    have gs:Sm (ce t b):=by show (ce t b).natAbs < _; exact Nat.lt_of_le_of_lt (by omega) hs
    refine ⟨⟨g,gs⟩,⟨g,gs⟩,?_⟩
    rw [kE hb,kQ hb]
    exact q0
end
end K43
namespace K43
open PySem L2
section
variable {P:Program} {w:World} {K:PySem.W.Frag} {mg:Str → Option Value} {base:Heap} {A:Adr}
theorem ok_q1 (T:Txt K mg A):FnOk P w K mg base CX0 11 A.f_q1 A.d_q1 ["tree","asks","thing"] (bd [false,false,false] false (wI)):=by
  have G_q15:=rV (P:=P) (w:=w) (base:=base) T
  have S:=sc_q1
  refine fnD T.F_q1 S ⟨[false,false,false],[false,false,false],false⟩ _ ?hl rfl rfl fun cdv Ar outer s H E hr => ⟨_,(ag (nR (fun _ _ h => h) (ag (aH (cU uN dIsN (aj (G_q15) (hr.mono (by decide)) rfl T.m_q15 T.k_q15 T.b_q15 (ai (aa 0) (ai (aa 1) (ai (aa 2) ah)))) mP (aP _)))))),fun ds q h => ?_⟩
  case hl => intro ds q h; obtain ⟨ps,rs,as,ks,rfl,_⟩:=h; rfl
  obtain ⟨ps,rs,as,ks,rfl,hT,ha,hk,hf,q0⟩:=h
  refine ⟨ps,rs,as,ks,rfl,hT,ha,hk,?_⟩
  rw [hf]
  exact q0
theorem wp (T:Txt K mg A):FnOk P w K mg base CX0 5 A.f_q14 A.d_q14 ["tree","thing"] (bd [false,false] false (sB)):=by
  have G_q4:=uA (P:=P) (w:=w) (base:=base) T
  have S:=xb
  refine fnD T.F_q14 S ⟨[false,false],[false,false],false⟩ _ ?hl rfl rfl fun cdv Ar outer s H E hr => ⟨_,(ad (nR (fun _ _ h => h) (ag (bR (aj (G_q4) (hr.mono (by decide)) rfl T.m_q4 T.k_q4 T.b_q4 (ai (aa 0) (ai (aa 1) ah))))))
      (ag (aH ci))),fun ds q h => ?_⟩
  case hl => intro ds q h; obtain ⟨ps,rs,prs,rfl,_⟩:=h; rfl
  obtain ⟨ps,rs,prs,rfl,hT,hp,q0⟩:=h
  exact ⟨ps,rs,prs,rfl,hT,hp,q0⟩
theorem uO (T:Txt K mg A):FnOk P w K mg base CX0 12 A.f_q28 A.d_q28 ["tree","asks","thing"] (bd [false,false,false] false (qS)):=by
  have G_q14:=wp (P:=P) (w:=w) (base:=base) T
  have G_q24:=rH (P:=P) (w:=w) (base:=base) T
  have G_q11:=rY (P:=P) (w:=w) (base:=base) T
  have G_q1:=ok_q1 (P:=P) (w:=w) (base:=base) T
  have G_q7:=nz (P:=P) (w:=w) (base:=base) T
  have G_q60:=l9 (P:=P) (w:=w) (base:=base) T
  have G_q61:=mE (P:=P) (w:=w) (base:=base) T
  have G_q32:=qd (P:=P) (w:=w) (base:=base) T
  have S:=wc
  refine fnD T.F_q28 S ⟨[false,false,false],[false,false,false,false,false,false,false],false⟩ _ ?hl rfl rfl fun cdv Ar outer s H E hr => ⟨_,(ad (bR (aj (G_q7) (hr.mono (by decide)) rfl T.m_q7 T.k_q7 T.b_q7 (ai (aa 0) (ai (aa 1) ah))))
      (ad (a9 (QW.qt (eu (bn (a8 (dh rfl T.z_isinstance bc (aa 2) (cy (v:=.ty "tuple") rfl T.z_tuple fW rfl)))) (cW (aV (cK hr.units) dNe (aB aD c0 rfl T.z_len bB (ae (aa 2) am)) ac (aP _))))) (ag (aH ci)) aG)
      (ad (eh (aa 2) (b6 rfl (aF (aE (i:=3) S.nd rfl (Or.inl rfl)) (aF (aE (i:=4) S.nd rfl (Or.inl rfl)) (aF (aE (i:=5) S.nd rfl (Or.inl rfl)) bK))) (ak (ak (ak a6)))))
      (ad (a9 (QW.qt (eu (bn (a8 (aj (G_q1) (hr.mono (by decide)) rfl T.m_q1 T.k_q1 T.b_q1 (ai (aa 0) (ai (aa 1) (ai (aa 3) ah)))))) (cW (bn (a8 (aj (G_q14) (hr.mono (by decide)) rfl T.m_q14 T.k_q14 T.b_q14 (ai (aa 0) (ai (aa 4) ah)))))))) (ag (aH ci)) aG)
      (ad (a9 (QW.qt (eu (bn (a8 (aj (G_q11) (hr.mono (by decide)) rfl T.m_q11 T.k_q11 T.b_q11 (ai (aa 5) ah)))) (cW (a8 (aj (G_q61) (hr.mono (by decide)) rfl T.m_q61 T.k_q61 T.b_q61 (ai (aa 5) (ai (bE (ae ac (ae ac am))) ah))))))) (ag (aH ci)) aG)
      (ad (aQ (i:=6) S.nd rfl (Or.inl rfl) (aj (G_q32) (hr.mono (by decide)) rfl T.m_q32 T.k_q32 T.b_q32 (ai (aa 0) (ai (aa 1) (ai (aa 3) ah)))))
      (ag (aH (l5 (aj (G_q61) (hr.mono (by decide)) rfl T.m_q61 T.k_q61 T.b_q61 (ai (aj (G_q60) (hr.mono (by decide)) rfl T.m_q60 T.k_q60 T.b_q60 (ai (aa 5) (ai (bE (ae (aa 6) (ae ac am))) ah))) (ai (aj (G_q24) (hr.mono (by decide)) rfl T.m_q24 T.k_q24 T.b_q24 (ai (aa 0) (ai (aa 1) (ai (aa 4) ah)))) ah)))))))))))),fun ds q h => ?_⟩
  case hl => intro ds q h; obtain ⟨ps,rs,as,ks,prs,r,rfl,_⟩:=h; rfl
  obtain ⟨ps,rs,as,ks,prs,r,rfl,hT,ha,hk,hf,hp,hb,q0⟩:=h
  refine ⟨ps,rs,as,rfl,hT,ha,?_⟩
  refine ⟨ps,rs,as,ks,rfl,hT,ha,hk,hf,?_⟩
  refine ⟨ps,rs,prs,rfl,hT,hp,?_⟩
  refine ⟨r,rfl,?_⟩
  refine ⟨r,1,rfl,hb.mono (by decide),bt1 (by decide),?_⟩
  refine (bU (c:=decide (r < 1) = true) (fun c => ?_) (fun c => ?_))
  · have c:=of_decide_eq_true c
    have e:shB ps rs as ks prs r = false:=by
      unfold shB; rw [decide_eq_false (Rat.not_le.mpr c)]; rfl
    rw [e] at q0; exact q0
  · have c:=of_decide_eq_false (by simpa using c)
    refine ⟨ps,rs,as,ks,rfl,hT,ha,hk,?_⟩
    have hw:=iw ha (Nat.le_trans hk.len ha.len) hk.lo
    have hw:Bt ((cx as ks:Int):Rat) 50:=btI (Nat.lt_of_le_of_lt hw (by decide)) (by decide)
    refine ⟨r,((cx as ks:Int):Rat),rfl,hb.mono (by decide),hw.mono (by decide),?_⟩
    refine ⟨ps,rs,as,prs,rfl,hT,ha,hp,?_⟩
    refine ⟨_,_,rfl,(hb.mul hw).mono (by decide),(lx hT ha hp).mono (by decide),?_⟩
    have e:shB ps rs as ks prs r = !decide (r * ((cx as ks:Int):Rat) < aS ps rs as prs):=by
      unfold shB; rw [decide_eq_true (Rat.not_lt.mp c),Bool.true_and,← decide_not]
      exact decide_eq_decide.mpr Rat.not_lt.symm
    rw [e] at q0; exact q0
end
end K43
namespace K43
open PySem L2
section
variable {P:Program} {w:World} {K:PySem.W.Frag} {mg:Str → Option Value} {base:Heap} {A:Adr}
structure ListV (ps rs:List Int) (b:Bool) (n:Nat) (as:List Ask):Prop where
  len:as.length ≤ n
  ok:∀ a ∈ as,AskOk ps a ∧ (b = true → a.size = 1) ∧ (b = false → fk ps rs a = false)
theorem ListV.more {ps rs:List Int} {b:Bool} {n:Nat} {as:List Ask} {a:Ask} (h:ListV ps rs b n as) (ha:AskOk ps a ∧ (b = true → a.size = 1) ∧ (b = false → fk ps rs a = false)):ListV ps rs b (n + 1) (as ++ [a]) :=
  ⟨by rw [List.length_append]; exact Nat.succ_le_succ h.len,fun x hx => (List.mem_append.mp hx).elim (h.ok x) fun h => by rw [List.mem_singleton.mp h]; exact ha⟩
theorem ListV.nil {ps rs:List Int} {b:Bool}:ListV ps rs b 0 []:=⟨Nat.le_refl _,fun a h => by cases h⟩
def s_ (K:PySem.W.Frag):SpD:=fun ds q => ∃ φ ns ps rs b,ds = [.scr φ ns,aN ps rs,.bl b] ∧ n_ K φ ns ∧ ns.length ≤ 63 ∧ Tree ps rs ∧ (∀ (i:Nat) (x:Int),rs[i]? = some x → 2 ≤ x) ∧ ∀ as0 as1,ListV ps rs b 30 as0 → ListV ps rs b 30 as1 → q (.lst [aT as0,aT as1]) []
theorem vg (T:Txt K mg A):FnOk P w K mg base CX0 4 A.f_q36 A.d_q36 ["_law_script","_law_tree","_law_ones"] (bd [false,false,false] true (s_ K)):=by
  have G_q54:=vT (P:=P) (w:=w) (base:=base) T
  have G_q47:=rE (P:=P) (w:=w) (base:=base) T
  have S:=wZ
  refine fnD T.F_q36 S ⟨[false,false,false],[false,false,false,true,false,false,false,false,false],true⟩ _ ?hl rfl rfl fun cdv Ar outer s H E hr => ⟨_,(ad (cG (tG (i:=3) S.nd rfl (Or.inl rfl) (xm (cA (QF.qm (eD am)) (cA (QF.qm (eD am)) gG)))))
      (ad (b2 PassesOwn.never rfl (gq rfl T.z_range (ae ac (ae (aB (dN rfl) qO rfl T.z_min gw (ae (aB aD c0 rfl T.z_len bB (ae (aa 0) am)) (ae ac am))) am))) (aE (i:=4) S.nd rfl (Or.inl rfl)) (ad (eh (aj (G_q54) (hr.mono (by decide)) rfl T.m_q54 T.k_q54 T.b_q54 (qk_t (a_ (G_q47) (hr.mono (by decide)) rfl T.m_q47 T.k_q47 T.b_q47 (ai (aa 0) (ai (aa 4) ah))) (ai (aa 1) ah))) (b6 rfl (aF (aE (i:=5) S.nd rfl (Or.inl rfl)) (aF (aE (i:=6) S.nd rfl (Or.inl rfl)) (aF (aE (i:=7) S.nd rfl (Or.inl rfl)) (aF (aE (i:=8) S.nd rfl (Or.inl rfl)) bK)))) (ak (ak (ak (ak a6))))))
      (ad (cG (a9 (a8 (aa 2)) (ag (aQ (i:=7) S.nd rfl (Or.inl rfl) ac)) aG))
      (ag (tO (i:=3) (qp_ix vq (qz_op cV (xi 4) wd)) (bE (ae (aa 5) (ae (aa 6) (ae (aa 7) (ae (aa 8) am))))))))))
      (ag (bQ (cB 3))))),fun ds q h => ?_⟩
  case hl => intro ds q h; obtain ⟨φ,ns,ps,rs,b,rfl,_⟩:=h; rfl
  obtain ⟨φ,ns,ps,rs,b,rfl,hφ,hl,hT,hR,q0⟩:=h
  have hi:=hT.hi
  refine ⟨fun ρ => ρ = [some (.scr φ ns),some (aN ps rs),some (.bl b),some (.lst [aT [],aT []]),none,none,none,none,none],⟨rfl,rfl,rfl⟩,?_⟩
  rintro ρ rfl
  refine ⟨hφ,?_⟩
  refine ⟨⟨by decide,by decide,by split <;> omega,by split <;> omega⟩,?_⟩
  refine ⟨fun i ρ => ∃ as0 as1 v4 v5 v6 v7 v8,ρ = [some (.scr φ ns),some (aN ps rs),some (.bl b),some (.lst [aT as0,aT as1]),v4,v5,v6,v7,v8] ∧ ListV ps rs b ((i + 1) / 2) as0 ∧ ListV ps rs b (i / 2) as1,⟨[],[],_,_,_,_,_,rfl,.nil,.nil⟩,?_,?_⟩
  · rintro i d ρ hd ⟨as0,as1,v4,v5,v6,v7,v8,rfl,hA,hB⟩
    obtain ⟨hi2,rfl⟩:=er hd
    have hi3:i < 60:=by revert hi2; split <;> omega
    refine ⟨φ,ns,2 + (i:Int),rfl,hφ,by omega,by omega,fun c6 m6 h6 => ?_⟩
    refine ⟨c6,m6,ps,rs,rfl,h6,hT,hR,fun a c7 m7 ha hh h7 => ?_⟩
    refine ⟨fun ρ => ∃ a:Ask,ρ = [some (.scr φ ns),some (aN ps rs),some (.bl b),some (.lst [aT as0,aT as1]),some (.int (2 + (i:Int))),some (.int a.one),some (.int a.other),some (.int a.size),some (.int a.worth)] ∧ AskOk ps a ∧ (b = true → a.size = 1) ∧ (b = false → fk ps rs a = false),?_,?_⟩
    · refine (bU (c:=b = true) (fun c => ?_) (fun c => ?_))
      · exact ⟨⟨a.one,a.other,1,a.worth⟩,rfl,⟨ha.ends,by show (1:Int) ≤ 1; decide,by show (1:Int) ≤ 1000000; decide,ha.w0,ha.w1⟩,fun _ => rfl,fun e => by rw [c] at e; cases e⟩
      · exact ⟨a,rfl,ha,fun e => absurd e c,fun _ => hh⟩
    rintro ρ ⟨a,rfl,ha⟩
    refine ⟨_,rfl,?_⟩
    refine ⟨2 + (i:Int),rfl,(by decide:(0:Int) < 2),?_⟩
    by_cases hpar:i % 2 = 0
    · refine ⟨0,aT as0,by show ixN 2 ((2 + (i:Int)) % 2) = some 0; rw [show (2 + (i:Int)) % 2 = 0 by omega]; rfl,rfl,?_⟩
      refine ⟨_,_,rfl,rfl,?_⟩
      have hl0:=hA.len
      refine ⟨rfl,by rw [bx]; omega,?_⟩
      refine ⟨as0 ++ [a],as1,some (.int (2 + (i:Int))),some (.int a.one),some (.int a.other),some (.int a.size),some (.int a.worth),?_,by rw [show (i + 1 + 1) / 2 = (i + 1) / 2 + 1 by omega]; exact hA.more ha,by rw [show (i + 1) / 2 = i / 2 by omega]; exact hB⟩
      show _ = [_,_,_,some (D.lst [D.lst ((as0 ++ [a]).map bY),_]),_,_,_,_,_]
      rw [List.map_append]; rfl
    · refine ⟨1,aT as1,by show ixN 2 ((2 + (i:Int)) % 2) = some 1; rw [show (2 + (i:Int)) % 2 = 1 by omega]; rfl,rfl,?_⟩
      refine ⟨_,_,rfl,rfl,?_⟩
      have hl0:=hB.len
      refine ⟨rfl,by rw [bx]; omega,?_⟩
      refine ⟨as0,as1 ++ [a],some (.int (2 + (i:Int))),some (.int a.one),some (.int a.other),some (.int a.size),some (.int a.worth),?_,by rw [show (i + 1 + 1) / 2 = (i + 1) / 2 by omega]; exact hA,by rw [show (i + 1) / 2 = i / 2 + 1 by omega]; exact hB.more ha⟩
      show _ = [_,_,_,some (D.lst [_,D.lst ((as1 ++ [a]).map bY)]),_,_,_,_,_]
      rw [List.map_append]; rfl
  · rintro ρ ⟨as0,as1,v4,v5,v6,v7,v8,rfl,hA,hB⟩
    rw [cP] at hA hB
    exact q0 as0 as1 ⟨Nat.le_trans hA.len (by split <;> omega),hA.ok⟩ ⟨Nat.le_trans hB.len (by split <;> omega),hB.ok⟩
def sdMet:SpD:=fun ds q => ∃ ps rs as ks j,ds = [aN ps rs,aT as,ap ks,.int ((j:Nat) + 1)] ∧ Tree ps rs ∧ AsksOk ps as ∧ KeepOk as.length ks ∧ j < ps.length ∧ (∃ k:Int,(0 ≤ k ∧ k < (as.length:Int)) ∧ k ∉ ks ∧ ((j:Int) + 1) ∈ az ps (aL as k) ∧ rs.getD j 0 - (aZ ps as ks).getD j 0 < (aL as k).size) ∧ q (.bl true) []
theorem w_ (T:Txt K mg A):FnOk P w K mg base CX0 10 A.f_q56 A.d_q56 ["_law_tree","_law_asks","_law_keep","_law_tie"] (bd [false,false,false,false] false (sdMet)):=by
  have G_q57:=mT (P:=P) (w:=w) (base:=base) T
  have G_q58:=pQ (P:=P) (w:=w) (base:=base) T
  have S:=uP
  refine fnD T.F_q56 S ⟨[false,false,false,false],[false,false,false,false,false,false],false⟩ _ ?hl rfl rfl fun cdv Ar outer s H E hr => ⟨_,(ad (aQ (i:=4) S.nd rfl (Or.inl rfl) (aw bv dI (ay ao dIx (ay ao dIx (aa 0) ac (fun _ _ => rfl)) (aw bv dI (aa 3) ac) (fun _ _ => rfl)) (ay ao dIx (QF.qe (a_ (G_q58) (hr.mono (by decide)) rfl T.m_q58 T.k_q58 T.b_q58 (ai (aa 0) (ai (aa 1) (ai (aa 2) ah))))) (aw bv dI (aa 3) ac) (fun _ _ => rfl))))
      (ad (b2 PassesOwn.never rfl (gg rfl T.z_range (ae (aB aD c0 rfl T.z_len bB (ae (aa 1) am)) am)) (aE (i:=5) S.nd rfl (Or.inl rfl)) (ag (a9 (QW.qt (kF (aV da dIn (aa 5) (aa 2) rfl) (kF (aV oT dIn (aa 3) (QF.qe (a_ (G_q57) (hr.mono (by decide)) rfl T.m_q57 T.k_q57 T.b_q57 (ai (ay ao dIx (aa 0) ac (fun _ _ => rfl)) (ai (ay ao dIx (aa 1) (aa 5) (fun _ _ => rfl)) ah)))) rfl) (kU (aV fS dB (ay ao dIx (ay ao dIx (aa 1) (aa 5) (fun _ _ => rfl)) ac (fun _ _ => rfl)) (aa 4) (aP _)))))) (ag (aH ci)) aG)))
      (ag (aH ci)))),fun ds q h => ?_⟩
  case hl => intro ds q h; obtain ⟨ps,rs,as,ks,j,rfl,_⟩:=h; rfl
  obtain ⟨ps,rs,as,ks,j,rfl,hT,ha,hk,hj,⟨n,⟨n0,n1⟩,hn,hm,hlt⟩,q0⟩:=h
  have hlr:=hT.len
  have hll:=bD ps as ks
  have hal:=ha.len
  refine bg (bX (by omega) (by omega)) ?_
  refine ⟨ps,rs,as,ks,rfl,hT,ha,hk,?_⟩
  refine bg (bX (by omega) (by omega)) ?_
  rw [show (((j:Nat):Int) + 1 - 1).toNat = j by omega]
  refine ⟨⟨by rw [bx]; omega,by rw [bx]; omega⟩,?_⟩
  refine ⟨fun i ρ => ∃ v,ρ = [some (aN ps rs),some (aT as),some (ap ks),some (.int ((j:Nat) + 1)),some (.int (rs.getD j 0 - (aZ ps as ks).getD j 0)),v] ∧ (i:Int) ≤ n,⟨_,rfl,n0⟩,?_,?_⟩
  · rintro i d ρ hd ⟨v,rfl,hin⟩
    obtain ⟨hi,rfl⟩:=er hd
    rw [bx] at hi
    have i0:(0:Int) ≤ 0 + (i:Int):=by omega
    have i1 : 0 + (i:Int) < (as.length:Int):=by omega
    have hok:=b_ ha i0 i1
    have hno:(0 + (i:Int)) ≠ n → ∃ v,[some (aN ps rs),some (aT as),some (ap ks),some (.int ((j:Nat) + 1)),some (.int (rs.getD j 0 - (aZ ps as ks).getD j 0)),some (.int (0 + (i:Int)))] = [some (aN ps rs),some (aT as),some (ap ks),some (.int ((j:Nat) + 1)),some (.int (rs.getD j 0 - (aZ ps as ks).getD j 0)),v] ∧ ((i + 1:Nat):Int) ≤ n:=fun e => ⟨_,rfl,by omega⟩
    refine ⟨rfl,dU ks,?_⟩
    refine (bU (c:=(!inD (.int (0 + (i:Int))) (ks.map D.int)) = true) (fun c => ?_) (fun c => ?_))
    · refine bg (dO i0 i1) ?_
      refine ⟨ps,rs,(aL as (0 + (i:Int))).one,(aL as (0 + (i:Int))).other,_,rfl,hT,hok.ends.a0,hok.ends.a1,hok.ends.b0,hok.ends.b1,?_⟩
      refine ⟨rfl,dU _,?_⟩
      refine (bU (c:=inD (.int ((j:Nat) + 1)) ((gx ps (aL as (0 + (i:Int))).one (aL as (0 + (i:Int))).other).map D.int) = true) (fun c => ?_) (fun c => ?_))
      · refine bg (dO i0 i1) ?_
        refine (bU (c:=decide (rs.getD j 0 - (aZ ps as ks).getD j 0 < (aL as (0 + (i:Int))).size) = true) (fun c => q0) (fun c => hno fun e => ?_))
        rw [e] at c; exact c (decide_eq_true hlt)
      · refine hno fun e => ?_
        rw [e,eG] at c; exact c (List.contains_iff_mem.mpr hm)
    · refine hno fun e => ?_
      rw [e,eG] at c
      cases hc:ks.contains n with
      | false => rw [hc] at c; exact c rfl
      | true => exact hn (List.contains_iff_mem.mp hc)
  · rintro ρ ⟨v,rfl,hin⟩
    rw [cP,bx] at hin
    exfalso; omega
end
end K43
namespace K43
open PySem L2
section
variable {P:Program} {w:World} {K:PySem.W.Frag} {mg:Str → Option Value} {base:Heap} {A:Adr}
def sX:SpD:=fun ds q => ∃ ps rs as,ds = [aN ps rs,aT as,.bl (bP as)] ∧ Tree ps rs ∧ AsksOk ps as ∧ eZ ps rs as ∧ q (.bl true) []
def t8 (ps:List Int):D → D
  | .tup (.int a :: .int b :: _) => .int (gx ps a b).length
  | d => d
theorem pG (ps:List Int) (as:List Ask):(as.map bY).map (t8 ps) = (as.map fun a => ((az ps a).length:Int)).map D.int:=by rw [List.map_map,List.map_map]; rfl
theorem vN (T:Txt K mg A):FnOk P w K mg base CX0 13 A.f_q37 A.d_q37 ["_law_tree","_law_asks","_law_ones"] (bd [false,false,false] false (sX)):=by
  have G_q55:=u5 (P:=P) (w:=w) (base:=base) T
  have G_q56:=w_ (P:=P) (w:=w) (base:=base) T
  have G_q57:=mT (P:=P) (w:=w) (base:=base) T
  have G_q24:=rH (P:=P) (w:=w) (base:=base) T
  have G_q15:=rV (P:=P) (w:=w) (base:=base) T
  have G_q28:=uO (P:=P) (w:=w) (base:=base) T
  have G_q12:=u9 (P:=P) (w:=w) (base:=base) T
  have G_q50:=p9 (P:=P) (w:=w) (base:=base) T
  have G_q32:=qd (P:=P) (w:=w) (base:=base) T
  have S:=wG
  refine fnD T.F_q37 S ⟨[false,false,false],[false,false,false,false,false,false,false,false,false,false,false,false,false,false],false⟩ _ ?hl rfl rfl fun cdv Ar outer s H E hr => ⟨_,(ad (eh (QF.qe (a_ (G_q12) (hr.mono (by decide)) rfl T.m_q12 T.k_q12 T.b_q12 (ai (aa 0) (ai (aa 1) ah)))) (b6 rfl (aF (aE (i:=3) S.nd rfl (Or.inr rfl)) (aF (aE (i:=4) S.nd rfl (Or.inl rfl)) bK)) (ak (ak a6))))
      (ad (aQ (i:=5) S.nd rfl (Or.inl rfl) (aj (G_q32) (hr.mono (by decide)) rfl T.m_q32 T.k_q32 T.b_q32 (ai (aa 0) (ai (aa 1) (ai (aa 3) ah)))))
      (ad (cG (aQ (i:=6) S.nd rfl (Or.inl rfl) (aw dt dIC (aB (pM rfl) dMaxL rfl T.z_max gc (ae (rF mR dCat (du (ae ac am)) (b9 ["_law_ask_here"] [0] ⟨rfl,rfl,by decide +kernel,rfl,rfl,(by first | exact trivial | exact ⟨rfl,trivial⟩ | exact ⟨rfl,rfl,trivial⟩ | exact ⟨rfl,rfl,rfl,trivial⟩ | exact ⟨rfl,rfl,rfl,rfl,trivial⟩),rfl⟩ rfl (bo (aa 1)) (bC 0) (fun _ _ _ _ => ⟨(bh (i:=0) (show List.Nodup (["_law_ask_here","_law_tree"]:List Str) by decide +kernel) rfl (Or.inl rfl)),b8,(aB aD c0 rfl T.z_len bB (ae (QF.qe (a_ (G_q57) (hr.mono (by decide)) rfl T.m_q57 T.k_q57 T.b_q57 (ai (ay ao dIx (aa 1) ac (fun _ _ => rfl)) (ai (aa 0) ah)))) am))⟩))) am)) (aw bv dI ac (pL pk dInt1 rfl T.z_int rh (ae (aa 2) am))))))
      (ad (eh (aj (G_q24) (hr.mono (by decide)) rfl T.m_q24 T.k_q24 T.b_q24 (ai (aa 0) (ai (aa 1) (ai (aa 4) ah)))) (b6 rfl (aF (aE (i:=7) S.nd rfl (Or.inl rfl)) (aF (aE (i:=8) S.nd rfl (Or.inl rfl)) bK)) (ak (ak a6))))
      (ad (a9 (aV sW dNotN (aj (G_q15) (hr.mono (by decide)) rfl T.m_q15 T.k_q15 T.b_q15 (ai (aa 0) (ai (aa 1) (ai (aa 3) ah)))) mP (aP _)) (ag (aH ci)) aG)
      (ad (cG (a9 (QW.qt (eu (aV fS dB (aa 7) (aw b4 dIC (aw dt dIC (aa 6) (aa 5)) (aa 8)) (aP _)) (cW (aV lc dB (aa 7) (aw b4 dIC (aa 5) (aa 8)) (aP _))))) (ag (aH ci)) aG))
      (ad (aQ (i:=9) S.nd rfl (Or.inr rfl) (QF.qe (a_ (G_q50) (hr.mono (by decide)) rfl T.m_q50 T.k_q50 T.b_q50 (ai (aa 0) (ai (aa 1) (ai (aa 4) ah))))))
      (ad (fE (i:=10) ["_law_number_here"] [3] ⟨rfl,rfl,by decide +kernel,rfl,rfl,(by first | exact trivial | exact ⟨rfl,trivial⟩ | exact ⟨rfl,rfl,trivial⟩ | exact ⟨rfl,rfl,rfl,trivial⟩ | exact ⟨rfl,rfl,rfl,rfl,trivial⟩),rfl⟩ rfl S.nd rfl (Or.inl rfl) (gg rfl T.z_range (ae (aB aD c0 rfl T.z_len bB (ae (aa 1) am)) am)) (bC 0) (fun _ _ _ _ => ⟨(bh (i:=0) (show List.Nodup (["_law_number_here","_law_keep"]:List Str) by decide +kernel) rfl (Or.inl rfl)),(fc (aV da dIn (aa 0) (aa 1) rfl)),(aa 0)⟩))
      (ad (a9 (aV (cK hr.units) dNe (b9 ["_law_number_here"] [9] ⟨rfl,rfl,by decide +kernel,rfl,rfl,(by first | exact trivial | exact ⟨rfl,trivial⟩ | exact ⟨rfl,rfl,trivial⟩ | exact ⟨rfl,rfl,rfl,trivial⟩ | exact ⟨rfl,rfl,rfl,rfl,trivial⟩),rfl⟩ rfl (bo (aa 10)) (bC 0) (fun _ _ _ _ => ⟨(bh (i:=0) (show List.Nodup (["_law_number_here","_law_left"]:List Str) by decide +kernel) rfl (Or.inl rfl)),(fc (aV (cK hr.units) dNe (ay ao dIx (aa 1) (aa 0) (fun _ _ => rfl)) (bE (ae ac (ae ac am))) (aP _))),(aa 0)⟩)) (du am) (aP _)) (ag (aH ci)) aG)
      (ad (cG (b2 PassesOwn.never rfl (gq rfl T.z_range (ae ac (ae (aw bM dI (aB aD c0 rfl T.z_len bB (ae (aa 4) am)) ac) am))) (aE (i:=11) S.nd rfl (Or.inl rfl)) (ag (a9 (QW.qt (kF (aV (cK hr.units) dNe (ay ao dIx (aa 4) (aw bv dI (aa 11) ac) (fun _ _ => rfl)) (bE (ae ac (ae ac am))) (aP _)) (kU (bn (a8 (aj (G_q56) (hr.mono (by decide)) rfl T.m_q56 T.k_q56 T.b_q56 (ai (aa 0) (ai (aa 1) (ai (aa 3) (ai (aa 11) ah)))))))))) (ag (aH ci)) aG))))
      (ad (a9 (bn (a8 (aj (G_q28) (hr.mono (by decide)) rfl T.m_q28 T.k_q28 T.b_q28 (ai (aa 0) (ai (aa 1) (ai (bE (ae (aa 3) (ae (aa 4) (ae (bE (ae (aB (fg rfl) dMax rfl T.z_max gc (ae ac (ae (aa 6) am))) (ae ac am))) am)))) ah)))))) (ag (aH ci)) aG)
      (ad (a9 (QW.qt (eu (aV (cT hr.units) dEq (aa 5) ac (aP _)) (cW (aV lD dB (aa 7) (aw b4 dIC (aa 5) (aa 8)) (aP _))))) (ag (aH ci)) aG)
      (ad (aQ (i:=12) S.nd rfl (Or.inl rfl) (aj (G_q55) (hr.mono (by decide)) rfl T.m_q55 T.k_q55 T.b_q55 (ai (aa 7) (ai (aw b4 dIC (aa 5) (aa 8)) ah))))
      (ad (aQ (i:=13) S.nd rfl (Or.inl rfl) (aj (G_q55) (hr.mono (by decide)) rfl T.m_q55 T.k_q55 T.b_q55 (ai (aw bM dI (ay ao dIx (aa 12) ac (fun _ _ => rfl)) (ay ao dIx (aa 12) ac (fun _ _ => rfl))) (ai (aw b4 dIC ac (ay ao dIx (aa 12) ac (fun _ _ => rfl))) ah))))
      (ad (a9 (aV p6 dB (aB (pF rfl) dMax4 rfl T.z_max gc (ae (ay ao dIx (aa 13) ac (fun _ _ => rfl)) (ae (ay ao dIx (aa 13) ac (fun _ _ => rfl)) (ae (ay ao dIx (aa 12) ac (fun _ _ => rfl)) (ae (ay ao dIx (aa 12) ac (fun _ _ => rfl)) am))))) (aw fC dIC ac ac) (aP _)) (ag (aH ci)) aG)
      (ad (a9 (bn (a8 (aj (G_q28) (hr.mono (by decide)) rfl T.m_q28 T.k_q28 T.b_q28 (ai (aa 0) (ai (aa 1) (ai (bE (ae (aa 3) (ae (aa 4) (ae (aa 12) am)))) ah)))))) (ag (aH ci)) aG)
      (ag (aH (l5 (aj (G_q28) (hr.mono (by decide)) rfl T.m_q28 T.k_q28 T.b_q28 (ai (aa 0) (ai (aa 1) (ai (bE (ae (aa 3) (ae (aa 4) (ae (aa 13) am)))) ah))))))))))))))))))))))),fun ds q h => ?_⟩
  case hl => intro ds q h; obtain ⟨ps,rs,as,rfl,_⟩:=h; rfl
  obtain ⟨ps,rs,as,rfl,hT,ha,hh,q0⟩:=h
  have hal:=ha.len
  have hti:=hT.hi
  refine ⟨ps,rs,as,rfl,hT,ha,hh,fun o ho => ?_⟩
  have hM:=qW hT ha hh ho
  generalize bO (b5 ps rs as o).keep = ks at hM
  generalize (b5 ps rs as o).prices = prs at hM
  have hU:=hM.ok
  have hk:KeepOk as.length ks:=⟨hU.up,hU.kr⟩
  refine ⟨ps,rs,as,ks,rfl,hT,ha,hk,?_⟩
  have hkl:=hk.len
  have hkr:=hU.kr
  have hwk:(cx as ks).natAbs ≤ 30000000000030:=iw ha (by omega) hkr
  have hwn : 0 ≤ cx as ks:=o_ ha hkr
  generalize hW:cx as ks = W at hwk hwn
  have hlr:=hT.len
  have hpl:=hU.prices.len
  have hll:=bD ps as ks
  refine ⟨fun ρ => ∃ M:Int,ρ = [some (aN ps rs),some (aT as),some (.bl (bP as)),some (ap ks),some (dQs prs),some (.int W),some (.int (M * (2 - if bP as = true then 1 else 0))),none,none,none,none,none,none,none] ∧ 0 ≤ M ∧ M ≤ 46 ∧ ∀ a ∈ as,((az ps a).length:Int) ≤ M,?_,?_⟩
  · refine ⟨by rw [bx]; omega,?_⟩
    refine bF (t8 ps) (fun d hd k hk => ?_) ?_
    · obtain ⟨a,hm,rfl⟩:=List.mem_map.mp hd
      have he:=(ha.ok a hm).ends
      refine ⟨ps,rs,a.one,a.other,_,rfl,hT,he.a0,he.a1,he.b0,he.b1,?_⟩
      show k (.int (((gx ps a.one a.other).map D.int).length:Nat))
      rw [aJ]; exact hk
    rw [pG]
    refine ⟨by rw [List.length_map,List.length_map]; show 1 + _ ≤ 1000; omega,?_⟩
    refine ⟨0 :: (as.map fun a => ((az ps a).length:Int)),rfl,by simp,fun M hM hmax => ?_⟩
    have M0 : 0 ≤ M:=hmax 0 (.head _)
    have M1:M ≤ 46:=by
      rcases List.mem_cons.mp hM with rfl | hM
      · decide
      · obtain ⟨a,hm,rfl⟩:=List.mem_map.mp hM
        have:(az ps a).length ≤ 46:=cN hT (ha.ok a hm).ends
        omega
    refine ⟨Or.inl ⟨by omega,by omega⟩,?_⟩
    exact ⟨M,rfl,M0,M1,fun a hm => hmax _ (.tail _ (List.mem_map.mpr ⟨a,hm,rfl⟩))⟩
  rintro ρ ⟨M,rfl,M0,M1,hM2⟩
  have htop:=nr hT ha hU hM2
  have hbt:=lx hT ha hU.prices
  have hgl:=tH hT ha hU (os:=ks) ⟨hU.nd,hkr,fun j hj => fJ.mp hU.fit j (by rw [hll]; exact hj)⟩ hM2
  have hgl:=hgl.2
  have hti2 : 0 ≤ M * (2 - if bP as = true then 1 else 0) ∧ M * (2 - if bP as = true then 1 else 0) ≤ 92:=by
    cases bP as with
    | true => simp; omega
    | false => simp; omega
  generalize M * (2 - if bP as = true then 1 else 0) = mo at htop hti2 ⊢
  have hf:=oO hU.fit
  refine ⟨ps,rs,as,prs,rfl,hT,ha,hU.prices,?_⟩
  refine ⟨ps,rs,as,ks,rfl,hT,ha,hk,?_⟩
  rw [hf]
  have htop2:(aS ps rs as prs).num ≤ mo * W * (aS ps rs as prs).den:=by
    have h3:=htop
    rw [hW,← Rat.intCast_mul] at h3
    have h4:=(ie _ _).mpr h3
    rw [Rat.num_intCast,Rat.den_intCast] at h4
    omega
  have hgl2:W * (aS ps rs as prs).den ≤ (aS ps rs as prs).num:=by rw [← hW]; exact hgl
  have hsm:=hbt.smD (by decide)
  have hsW:Sm W:=cr hwk (by decide +kernel)
  have hmW:(mo * W).natAbs ≤ 92 * 30000000000030:=by rw [Int.natAbs_mul]; exact Nat.mul_le_mul (by omega) hwk
  refine ⟨fun ρ => ρ = [some (aN ps rs),some (aT as),some (.bl (bP as)),some (ap ks),some (dQs prs),some (.int W),some (.int mo),some (.int (aS ps rs as prs).num),some (.int (aS ps rs as prs).den),none,none,none,none,none],?_,?_⟩
  · refine ⟨Or.inl ⟨by omega,by omega⟩,?_⟩
    refine ⟨⟨cr hmW (by decide +kernel),hsm⟩,?_⟩
    refine (bU (c:=decide (mo * W * (aS ps rs as prs).den < (aS ps rs as prs).num) = true) (fun c => ?_) (fun c => ?_))
    · exfalso; have:=of_decide_eq_true c; omega
    refine ⟨⟨hsW,hsm⟩,?_⟩
    refine (bU (c:=decide ((aS ps rs as prs).num < W * (aS ps rs as prs).den) = true) (fun c => ?_) (fun c => ?_))
    · exfalso; have:=of_decide_eq_true c; omega
    rfl
  rintro ρ rfl
  refine ⟨ps,rs,as,prs,rfl,hT,ha,hU.prices,?_⟩
  refine ⟨⟨by rw [bx]; omega,by rw [bx]; omega⟩,?_⟩
  refine ⟨by rw [cP,bx]; omega,?_⟩
  refine dJ (gO ks) ?_ ?_
  · intro d hd k hk
    obtain ⟨j,hj⟩:=List.getElem?_of_mem hd
    obtain ⟨h1,rfl⟩:=er hj
    refine ⟨rfl,dU ks,?_⟩
    rw [eG]
    show if (!ks.contains (0 + (j:Int))) = true then k (some (.int (0 + (j:Int)))) else k none
    have e:gO ks (.int (0 + (j:Int))) = if (!ks.contains (0 + (j:Int))) = true then some (.int (0 + (j:Int))) else none:=rfl
    rw [e] at hk
    by_cases h:(!ks.contains (0 + (j:Int))) = true
    · rw [if_pos h] at hk ⊢; exact hk
    · rw [if_neg h] at hk ⊢; exact hk
  rw [show (((as.map bY).length:Nat):Int).toNat = as.length by rw [bx]; rfl]
  have hmem:=fun d => oU (ks:=ks) (n:=as.length) (d:=d)
  have hsl:((ip 0 as.length).filterMap (gO ks)).length ≤ 30:=by
    have h1:=List.length_filterMap_le (gO ks) (ip 0 as.length)
    rw [cP] at h1; omega
  generalize (ip 0 as.length).filterMap (gO ks) = sent at hmem hsl
  refine ⟨by omega,?_⟩
  refine dJ (fun _ => none) ?_ ?_
  · intro d hd k hk
    obtain ⟨n,rfl,n0,n1,hn⟩:=hmem d hd
    have hat:atI ((as.map fun a => a7 ps a a.size prs).map dQ) n = some (dQ 0):=by
      have h1:=kR (rs:=as.map fun a => a7 ps a a.size prs) (i:=n) n0 (by rw [List.length_map]; exact n1)
      rw [h1,List.getD_eq_getElem?_getD,List.getElem?_map,List.getElem?_eq_getElem (by omega)]
      have h2:=hM.free n n0 n1 hn
      unfold aL at h2
      rw [List.getD_eq_getElem?_getD,List.getElem?_eq_getElem (by omega)] at h2
      exact congrArg (fun r => some (dQ r)) h2
    refine bg hat ?_
    refine ⟨gy 0,gy 0,?_⟩
    show if (!eqD (dQ 0) (dQ 0)) = true then k _ else k none
    rw [oA]; exact hk
  rw [show (sent.filterMap fun _ => (none:Option D)) = [] from List.filterMap_eq_nil_iff.mpr fun _ _ => rfl]
  refine ⟨gP [],gP [],?_⟩
  refine (bU (c:=(!eqD (ap []) (ap [])) = true) (fun c => ?_) (fun c => ?_))
  · exfalso; rw [eqDi] at c; exact absurd c (by decide)
  refine ⟨fun ρ => ∃ v9 v10 v11,ρ = [some (aN ps rs),some (aT as),some (.bl (bP as)),some (ap ks),some (dQs prs),some (.int W),some (.int mo),some (.int (aS ps rs as prs).num),some (.int (aS ps rs as prs).den),v9,v10,v11,none,none],?_,?_⟩
  · refine ⟨⟨by decide,by decide,by rw [List.length_map]; omega,by rw [List.length_map]; omega⟩,?_⟩
    refine ⟨fun i ρ => ∃ v9 v10 v11,ρ = [some (aN ps rs),some (aT as),some (.bl (bP as)),some (ap ks),some (dQs prs),some (.int W),some (.int mo),some (.int (aS ps rs as prs).num),some (.int (aS ps rs as prs).den),v9,v10,v11,none,none],⟨_,_,_,rfl⟩,?_,fun ρ h => h⟩
    rintro i d ρ hd ⟨v9,v10,v11,rfl⟩
    obtain ⟨hi,rfl⟩:=er hd
    rw [List.length_map] at hi
    have hi2:i < ps.length:=by omega
    refine bg (kR (by omega) (by omega)) ?_
    refine ⟨gy _,gy 0,?_⟩
    rw [show ((1:Int) + (i:Int) - 1).toNat = i by omega]
    refine (bU (c:=(!eqD (dQ (prs.getD i 0)) (dQ 0)) = true) (fun c => ?_) (fun c => ⟨_,_,_,rfl⟩))
    rw [eqDq] at c
    have hne:prs.getD i 0 ≠ 0:=by simpa using c
    refine ⟨ps,rs,as,ks,i,by rw [Int.add_comm],hT,ha,hk,hi2,hM.met i hne,?_⟩
    exact ⟨_,_,_,rfl⟩
  rintro ρ ⟨v9,v10,v11,rfl⟩
  have hm1 : 1 ≤ (if mo > 1 then mo else 1) ∧ mo ≤ (if mo > 1 then mo else 1) ∧ (if mo > 1 then mo else 1).natAbs ≤ 92:=by split <;> omega
  refine ⟨ps,rs,as,ks,prs,((if mo > 1 then mo else 1:Int):Rat),rfl,hT,ha,hk,hf,hU.prices,btI (Nat.lt_of_le_of_lt hm1.2.2 (by decide +kernel)) (by decide),?_⟩
  rw [sh (by rw [hW]; exact hwn) hm1.1 hm1.2.1 htop]
  refine (bU (c:=decide (W = 0) = true) (fun c => q0) (fun c => ?_))
  have c:=of_decide_eq_false (by simpa using c)
  refine ⟨⟨hsW,hsm⟩,?_⟩
  refine (bU (c:=decide ((aS ps rs as prs).num ≤ W * (aS ps rs as prs).den) = true) (fun c => q0) (fun c2 => ?_))
  have c2:W * ((aS ps rs as prs).den:Int) < (aS ps rs as prs).num:=by simpa using c2
  have hW0 : 0 < W:=by omega
  have hd0:=(aS ps rs as prs).den_pos
  have hb0 : 0 < W * ((aS ps rs as prs).den:Int):=Int.mul_pos hW0 (by omega)
  have hb:(W * ((aS ps rs as prs).den:Int)).natAbs < 2 ^ 1750:=by
    rw [Int.natAbs_mul,Int.natAbs_natCast]
    have h1:W.natAbs < 2 ^ 50:=Nat.lt_of_le_of_lt hwk (by decide +kernel)
    have h2:=Nat.mul_lt_mul'' h1 hbt.den
    rw [← Nat.pow_add] at h2; exact h2
  refine ⟨⟨hsW,hsm⟩,?_⟩
  refine ⟨_,_,rfl,hb0,Nat.lt_of_lt_of_le hb (cq (by decide)),?_⟩
  obtain ⟨j1,j2⟩:=sO hW0 c2
  have hrb:Bt (Rat.divInt (aS ps rs as prs).num (W * ((aS ps rs as prs).den:Int))) 1750:=Bt.divInt hb0 (Nat.lt_of_lt_of_le hbt.num (cq (by decide))) hb
  generalize Rat.divInt (aS ps rs as prs).num (W * ((aS ps rs as prs).den:Int)) = r at j1 j2 hrb
  have hrd:=r.den_pos
  refine ⟨⟨cr (n:=2) (by decide) (by decide +kernel),hrb.smD (by decide)⟩,?_⟩
  refine ⟨_,_,rfl,by show 0 < 2 * (r.den:Int); omega,?_,?_⟩
  · have h1:=Nat.mul_lt_mul'' (show 2 < 2 ^ 2 by decide) hrb.den
    rw [← Nat.pow_add] at h1
    show (2 * (r.den:Int)).natAbs < _
    rw [Int.natAbs_mul,Int.natAbs_natCast]
    exact Nat.lt_of_lt_of_le h1 (cq (by decide))
  have hl1:=tR j2 (show (0:Rat) < (W:Rat) by rw [show (0:Rat) = ((0:Int):Rat) from rfl]; exact Rat.intCast_lt_intCast.mpr hW0) j1
  have hl0:(0:Rat) ≤ (r + 1) / 2:=by grind
  rw [← sH] at hl1 hl0
  generalize Rat.divInt (r.num + r.den) (2 * r.den) = l at hl1 hl0
  refine ⟨_,_,_,_,rfl,fun m hm hmax => ?_⟩
  refine ⟨⟨by decide,by decide,by decide⟩,?_⟩
  refine (bU (c:=decide ((10:Int) ^ 60 ≤ m) = true) (fun c => q0) (fun c3 => ?_))
  have c3:m < 10 ^ 60:=by simpa using c3
  have big:(10:Int) ^ 60 = ((10 ^ 60:Nat):Int):=by decide +kernel
  have big2:(10:Nat) ^ 60 < 2 ^ 1000:=by decide +kernel
  rw [big] at c3
  have m1:=hmax l.num (.head _)
  have m2:=hmax (l.den:Int) (.tail _ (.head _))
  have m3:=hmax r.num (.tail _ (.tail _ (.head _)))
  have m4:=hmax (r.den:Int) (.tail _ (.tail _ (.tail _ (.head _))))
  have n1:=Rat.num_nonneg.mpr hl0
  have n3:=Rat.num_nonneg.mpr (Rat.le_trans (show (0:Rat) ≤ 1 by decide) (Rat.le_of_lt j2))
  have br:Bt r 1000:=⟨Nat.lt_trans (by clear big; omega) big2,Nat.lt_trans (by clear big; omega) big2⟩
  have bl:Bt l 1000:=⟨Nat.lt_trans (by clear big; omega) big2,Nat.lt_trans (by clear big; omega) big2⟩
  refine ⟨ps,rs,as,ks,prs,r,rfl,hT,ha,hk,hf,hU.prices,br,?_⟩
  rw [lG (Rat.le_of_lt j2) (by rw [hW,j1]; exact Rat.le_refl)]
  refine ⟨ps,rs,as,ks,prs,l,rfl,hT,ha,hk,hf,hU.prices,bl,?_⟩
  rw [qK (by rw [hW]; exact hl1)]
  exact q0
end
end K43
namespace K43
open PySem L2
section
variable {P:Program} {w:World} {K:PySem.W.Frag} {mg:Str → Option Value} {base:Heap} {A:Adr}
theorem wq (T:Txt K mg A):FnOk P w K mg base CX0 14 A.f_law A.d_law ["_law_script"] (bd [false] false (qT K)):=by
  have G_q36:=vg (P:=P) (w:=w) (base:=base) T
  have G_q17:=uR (P:=P) (w:=w) (base:=base) T
  have G_q47:=rE (P:=P) (w:=w) (base:=base) T
  have G_q37:=vN (P:=P) (w:=w) (base:=base) T
  have G_q38:=wD (P:=P) (w:=w) (base:=base) T
  have G_q48:=gj (P:=P) (w:=w) (base:=base) T
  have S:=uT
  refine fnD T.F_law S ⟨[false],[false,false,false,false,false,false],false⟩ _ ?hl rfl rfl fun cdv Ar outer s H E hr => ⟨_,(ad (aQ (i:=1) S.nd rfl (Or.inl rfl) (QF.qe (a_ (G_q17) (hr.mono (by decide)) rfl T.m_q17 T.k_q17 T.b_q17 (qk_t (a_ (G_q47) (hr.mono (by decide)) rfl T.m_q47 T.k_q47 T.b_q47 (ai (aa 0) (ai ac ah))) (ai ac ah)))))
      (ad (aQ (i:=2) S.nd rfl (Or.inl rfl) (cU (cT hr.units) dEq (aj (G_q48) (hr.mono (by decide)) rfl T.m_q48 T.k_q48 T.b_q48 (qk_t (a_ (G_q47) (hr.mono (by decide)) rfl T.m_q47 T.k_q47 T.b_q47 (ai (aa 0) (ai ac ah))) (ai ac ah))) ac (aP _)))
      (ad (aQ (i:=3) S.nd rfl (Or.inl rfl) (bE (ae (aa 1) (ae (QF.qe (a_ (G_q38) (hr.mono (by decide)) rfl T.m_q38 T.k_q38 T.b_q38 (qk_t (a_ (G_q47) (hr.mono (by decide)) rfl T.m_q47 T.k_q47 T.b_q47 (ai (aa 0) (ai ac ah))) (ai (aB aD c0 rfl T.z_len bB (ae (aa 1) am)) (ai ac ah))))) am))))
      (ad (aQ (i:=4) S.nd rfl (Or.inl rfl) (QF.qe (a_ (G_q36) (hr.mono (by decide)) rfl T.m_q36 T.k_q36 T.b_q36 (ai (aa 0) (ai (aa 3) (ai (aa 2) ah))))))
      (ad (cG (a9 (a8 (aa 2)) (ag (aQ (i:=3) S.nd rfl (Or.inl rfl) (bE (ae (aa 1) (ae (b9 ["_law_room"] [] ⟨rfl,rfl,by decide +kernel,rfl,rfl,(by first | exact trivial | exact ⟨rfl,trivial⟩ | exact ⟨rfl,rfl,trivial⟩ | exact ⟨rfl,rfl,rfl,trivial⟩ | exact ⟨rfl,rfl,rfl,rfl,trivial⟩),rfl⟩ rfl (bo (ay ao dIx (aa 3) ac (fun _ _ => rfl))) (bC 0) (fun _ _ _ _ => ⟨(bh (i:=0) (show List.Nodup (["_law_room"]:List Str) by decide +kernel) rfl (Or.inl rfl)),b8,(aw bv dI (aa 0) ac)⟩)) am))))) aG))
      (ad (b2 PassesOwn.never rfl (bo (aa 4)) (aE (i:=5) S.nd rfl (Or.inl rfl)) (ag (a9 (bn (a8 (aj (G_q37) (hr.mono (by decide)) rfl T.m_q37 T.k_q37 T.b_q37 (ai (aa 3) (ai (aa 5) (ai (qe_or (aa 2) (eH (cU (cT hr.units) dEq (b9 ["_law_ask_here"] [] ⟨rfl,rfl,by decide +kernel,rfl,rfl,(by first | exact trivial | exact ⟨rfl,trivial⟩ | exact ⟨rfl,rfl,trivial⟩ | exact ⟨rfl,rfl,rfl,trivial⟩ | exact ⟨rfl,rfl,rfl,rfl,trivial⟩),rfl⟩ rfl (bo (aa 5)) (bC 0) (fun _ _ _ _ => ⟨(bh (i:=0) (show List.Nodup (["_law_ask_here"]:List Str) by decide +kernel) rfl (Or.inl rfl)),(fc (aV (cK hr.units) dNe (ay ao dIx (aa 0) ac (fun _ _ => rfl)) ac (aP _))),(aa 0)⟩)) (du am) (aP _)))) ah)))))) (ag (aH ci)) aG)))
      (ag (aH ci)))))))),fun ds q h => ?_⟩
  case hl => intro ds q h; obtain ⟨φ,ns,rfl,_⟩:=h; rfl
  obtain ⟨φ,ns,rfl,hφ,hl,q0⟩:=h
  refine ⟨φ,ns,0,rfl,hφ,by decide,by decide,fun c m h0 => ?_⟩
  refine ⟨c,m,23,rfl,h0,by decide,by decide,fun ps c1 m1 hP _ h1 => ?_⟩
  have hi:=hP.hi
  refine ⟨φ,ns,62,rfl,hφ,by decide,by decide,fun c2 m2 h2 => ?_⟩
  refine ⟨c2,m2,3,rfl,h2,by decide,cr (n:=3) (by decide) (by decide +kernel),fun r3 c3 m3 _ _ h3 => ?_⟩
  refine ⟨φ,ns,1,rfl,hφ,by decide,by decide,fun c4 m4 h4 => ?_⟩
  refine ⟨c4,m4,ps.length,2,by rw [aJ],h4,hP.lo,hP.hi,by decide,by decide,fun rs c5 m5 hR h5 => ?_⟩
  have hT:=hP.tree hR (by decide)
  generalize decide (r3 = 0) = b
  refine ⟨φ,ns,ps,rs,b,rfl,hφ,hl,hT,fun i x e => (hR.room i x e).1,fun as0 as1 hA hB => ?_⟩
  have hlr:=hT.len
  have asks:∀ as,ListV ps rs b 30 as → AsksOk ps as:=fun as h => ⟨h.len,fun a m => (h.ok a m).1⟩
  have ones:b = true → ∀ as,ListV ps rs b 30 as → bP as = true:=fun hb as h => List.all_eq_true.mpr fun a m => decide_eq_true ((h.ok a m).2.1 hb)
  refine ⟨fun ρ => ∃ rs',ρ = [some (.scr φ ns),some (ap ps),some (.bl b),some (aN ps rs'),some (.lst [aT as0,aT as1]),none] ∧ Tree ps rs' ∧ (b = false → rs' = rs),?_,?_⟩
  · refine (bU (c:=b = true) (fun c => ?_) (fun c => ⟨rs,rfl,hT,fun _ => rfl⟩))
    refine ⟨by rw [aJ]; omega,?_⟩
    refine bF rL ?_ ?_
    · intro d hd k hk
      obtain ⟨t,ht,rfl⟩:=ck hd
      exact hk
    rw [nh]
    refine ⟨rs.map fun x => x - 1,rfl,⟨by rw [List.length_map]; exact hlr,hT.lo,hT.hi,hT.par,fun i x e => ?_⟩,fun e => by rw [c] at e; cases e⟩
    rw [List.getElem?_map,Option.map_eq_some_iff] at e
    obtain ⟨y,ey,rfl⟩:=e
    have:=hR.room i y ey; omega
  rintro ρ ⟨rs',rfl,hT',hrs⟩
  refine ⟨fun i ρ => ∃ v,ρ = [some (.scr φ ns),some (ap ps),some (.bl b),some (aN ps rs'),some (.lst [aT as0,aT as1]),v],⟨_,rfl⟩,?_,?_⟩
  · rintro i d ρ hd ⟨v,rfl⟩
    obtain ⟨as,rfl,hV⟩:∃ as,d = aT as ∧ ListV ps rs b 30 as:=by
      have hm:=List.mem_of_getElem? hd
      rcases List.mem_cons.mp hm with rfl | hm
      · exact ⟨as0,rfl,hA⟩
      · rw [List.mem_singleton.mp hm]; exact ⟨as1,rfl,hB⟩
    have ha:=asks as hV
    have hal:=ha.len
    have hh:eZ ps rs' as:=by
      cases hb:b with
      | true => exact .inl (ones hb as hV)
      | false => rw [hrs hb]; exact .inr fun a m => (hV.ok a m).2.2 hb
    refine (bU (c:=b = true) (fun c => ?_) (fun c => ?_))
    · refine ⟨ps,rs',as,by rw [ones c as hV],hT',ha,hh,?_⟩
      exact ⟨_,rfl⟩
    refine ⟨by rw [bx]; omega,?_⟩
    refine dJ ot ?_ ?_
    · intro d hd k hk
      obtain ⟨a,hm,rfl⟩:=List.mem_map.mp hd
      have e:ot (bY a) = if (!decide (a.size = 1)) = true then some (bY a) else none:=rfl
      rw [e] at hk
      show if (!decide (a.size = 1)) = true then k (some (bY a)) else k none
      by_cases h:(!decide (a.size = 1)) = true
      · rw [if_pos h] at hk ⊢; exact hk
      · rw [if_neg h] at hk ⊢; exact hk
    rw [jn]
    refine ⟨nA (ou 0 _) (by decide),gP [],?_⟩
    have eb:eqD (D.lst ((as.filter fun a => !decide (a.size = 1)).map bY)) (.lst []) = bP as:=by show eqD (aT _) _ = _; rw [kq,qB]
    rw [eb]
    refine ⟨ps,rs',as,rfl,hT',ha,hh,?_⟩
    exact ⟨_,rfl⟩
  · rintro ρ ⟨v,rfl⟩
    exact q0
end
end K43
namespace K43
open PySem L2
theorem fD {us:List Value} {n:Nat} (h:us.length = n + 1):∃ a r,us = a :: r ∧ r.length = n:=by
  cases us with
  | nil => cases h
  | cons a r => exact ⟨a,r,rfl,Nat.succ.inj h⟩
theorem us1 {fd:FuncData} {ps:List Str} (h:∀ a0,bindArgs fd ⟨[a0],[]⟩ = pure (ps.zip [a0])):∀ us:List Value,us.length = 1 → bindArgs fd ⟨us,[]⟩ = pure (ps.zip us):=fun us hl => by
  obtain ⟨a0,u0,rfl,h0⟩:=fD hl
  cases List.eq_nil_of_length_eq_zero h0
  exact h a0
theorem us2 {fd:FuncData} {ps:List Str} (h:∀ a0 a1,bindArgs fd ⟨[a0,a1],[]⟩ = pure (ps.zip [a0,a1])):∀ us:List Value,us.length = 2 → bindArgs fd ⟨us,[]⟩ = pure (ps.zip us):=fun us hl => by
  obtain ⟨a0,u0,rfl,h0⟩:=fD hl
  obtain ⟨a1,u1,rfl,h1⟩:=fD h0
  cases List.eq_nil_of_length_eq_zero h1
  exact h a0 a1
theorem us3 {fd:FuncData} {ps:List Str} (h:∀ a0 a1 a2,bindArgs fd ⟨[a0,a1,a2],[]⟩ = pure (ps.zip [a0,a1,a2])):∀ us:List Value,us.length = 3 → bindArgs fd ⟨us,[]⟩ = pure (ps.zip us):=fun us hl => by
  obtain ⟨a0,u0,rfl,h0⟩:=fD hl
  obtain ⟨a1,u1,rfl,h1⟩:=fD h0
  obtain ⟨a2,u2,rfl,h2⟩:=fD h1
  cases List.eq_nil_of_length_eq_zero h2
  exact h a0 a1 a2
theorem us4 {fd:FuncData} {ps:List Str} (h:∀ a0 a1 a2 a3,bindArgs fd ⟨[a0,a1,a2,a3],[]⟩ = pure (ps.zip [a0,a1,a2,a3])):∀ us:List Value,us.length = 4 → bindArgs fd ⟨us,[]⟩ = pure (ps.zip us):=fun us hl => by
  obtain ⟨a0,u0,rfl,h0⟩:=fD hl
  obtain ⟨a1,u1,rfl,h1⟩:=fD h0
  obtain ⟨a2,u2,rfl,h2⟩:=fD h1
  obtain ⟨a3,u3,rfl,h3⟩:=fD h2
  cases List.eq_nil_of_length_eq_zero h3
  exact h a0 a1 a2 a3
theorem us5 {fd:FuncData} {ps:List Str} (h:∀ a0 a1 a2 a3 a4,bindArgs fd ⟨[a0,a1,a2,a3,a4],[]⟩ = pure (ps.zip [a0,a1,a2,a3,a4])):∀ us:List Value,us.length = 5 → bindArgs fd ⟨us,[]⟩ = pure (ps.zip us):=fun us hl => by
  obtain ⟨a0,u0,rfl,h0⟩:=fD hl
  obtain ⟨a1,u1,rfl,h1⟩:=fD h0
  obtain ⟨a2,u2,rfl,h2⟩:=fD h1
  obtain ⟨a3,u3,rfl,h3⟩:=fD h2
  obtain ⟨a4,u4,rfl,h4⟩:=fD h3
  cases List.eq_nil_of_length_eq_zero h4
  exact h a0 a1 a2 a3 a4
theorem all_mk {l:PySem.W.OpenLaw} {w:World} {K:PySem.W.Frag} {h:Heap} {mg:Str → Option Value} {fa f_q29 f_q16 f_q2 f_q11 f_q5 f_q10 f_q26 f_q22 f_q45 f_q7 f_q25 f_q59 f_q60 f_q51 f_q61 f_q8 f_q53 f_q13 f_q52 f_q41 f_q9 f_q49 f_q18 f_q39 f_q58 f_q15 f_q32 f_q27 f_q4 f_q31 f_q50 f_q24 f_q23 f_q6 f_q3 f_q40 f_q0 f_q35 f_q12 f_q1 f_q14 f_q28 f_q47 f_q48 f_q30 f_q17 f_q38 f_q46 f_q62 f_q57 f_q54 f_q55 f_q36 f_q56 f_q37 f_law:Addr} (X:K.In h) (G:h.Ns mainGlobals mg) (hfa:mg "law" = some (.ref fa))
    {od_q29 an_q29:Option Addr} {sl_q29:Array (Option Value)} {oc_q29 kV_q29 dc_q29 pm_q29 cd_q29 ct_q29:Value} (a_q29:PySem.W.nsIn K mainGlobals "is_whole" = some (some (.ref f_q29))) (l_q29:K.lookup f_q29 = some ⟨oc_q29,od_q29,.func (PySem.W.fnOf "is_whole" "is_whole" (au jh) (ar jh) (af jh) .none kV_q29 dc_q29 pm_q29 an_q29 cd_q29 ct_q29),sl_q29⟩) (c_q29:PySem.W.codeIn K cd_q29 "is_whole" = true) (k_q29:PySem.W.keepIn K (.ref f_q29) = true)
    {od_q16 an_q16:Option Addr} {sl_q16:Array (Option Value)} {oc_q16 kV_q16 dc_q16 pm_q16 cd_q16 ct_q16:Value} (a_q16:PySem.W.nsIn K mainGlobals "is_between" = some (some (.ref f_q16))) (l_q16:K.lookup f_q16 = some ⟨oc_q16,od_q16,.func (PySem.W.fnOf "is_between" "is_between" (au jV) (ar jV) (af jV) .none kV_q16 dc_q16 pm_q16 an_q16 cd_q16 ct_q16),sl_q16⟩) (c_q16:PySem.W.codeIn K cd_q16 "is_between" = true) (k_q16:PySem.W.keepIn K (.ref f_q16) = true)
    {od_q2 an_q2:Option Addr} {sl_q2:Array (Option Value)} {oc_q2 kV_q2 dc_q2 pm_q2 cd_q2 ct_q2:Value} (a_q2:PySem.W.nsIn K mainGlobals "greatest_common" = some (some (.ref f_q2))) (l_q2:K.lookup f_q2 = some ⟨oc_q2,od_q2,.func (PySem.W.fnOf "greatest_common" "greatest_common" (au pI) (ar pI) (af pI) .none kV_q2 dc_q2 pm_q2 an_q2 cd_q2 ct_q2),sl_q2⟩) (c_q2:PySem.W.codeIn K cd_q2 "greatest_common" = true) (k_q2:PySem.W.keepIn K (.ref f_q2) = true)
    {od_q11 an_q11:Option Addr} {sl_q11:Array (Option Value)} {oc_q11 kV_q11 dc_q11 pm_q11 cd_q11 ct_q11:Value} (a_q11:PySem.W.nsIn K mainGlobals "is_fraction" = some (some (.ref f_q11))) (l_q11:K.lookup f_q11 = some ⟨oc_q11,od_q11,.func (PySem.W.fnOf "is_fraction" "is_fraction" (au i6) (ar i6) (af i6) .none kV_q11 dc_q11 pm_q11 an_q11 cd_q11 ct_q11),sl_q11⟩) (c_q11:PySem.W.codeIn K cd_q11 "is_fraction" = true) (k_q11:PySem.W.keepIn K (.ref f_q11) = true)
    {od_q5 an_q5:Option Addr} {sl_q5:Array (Option Value)} {oc_q5 kV_q5 dc_q5 pm_q5 cd_q5 ct_q5:Value} (a_q5:PySem.W.nsIn K mainGlobals "has_two_lists" = some (some (.ref f_q5))) (l_q5:K.lookup f_q5 = some ⟨oc_q5,od_q5,.func (PySem.W.fnOf "has_two_lists" "has_two_lists" (au oK) (ar oK) (af oK) .none kV_q5 dc_q5 pm_q5 an_q5 cd_q5 ct_q5),sl_q5⟩) (c_q5:PySem.W.codeIn K cd_q5 "has_two_lists" = true) (k_q5:PySem.W.keepIn K (.ref f_q5) = true)
    {od_q10 an_q10:Option Addr} {sl_q10:Array (Option Value)} {oc_q10 kV_q10 dc_q10 pm_q10 cd_q10 ct_q10:Value} (a_q10:PySem.W.nsIn K mainGlobals "look_at_tree" = some (some (.ref f_q10))) (l_q10:K.lookup f_q10 = some ⟨oc_q10,od_q10,.func (PySem.W.fnOf "look_at_tree" "look_at_tree" (au jI) (ar jI) (af jI) .none kV_q10 dc_q10 pm_q10 an_q10 cd_q10 ct_q10),sl_q10⟩) (c_q10:PySem.W.codeIn K cd_q10 "look_at_tree" = true) (k_q10:PySem.W.keepIn K (.ref f_q10) = true)
    {od_q26 an_q26:Option Addr} {sl_q26:Array (Option Value)} {oc_q26 kV_q26 dc_q26 pm_q26 cd_q26 ct_q26:Value} (a_q26:PySem.W.nsIn K mainGlobals "is_place" = some (some (.ref f_q26))) (l_q26:K.lookup f_q26 = some ⟨oc_q26,od_q26,.func (PySem.W.fnOf "is_place" "is_place" (au jp) (ar jp) (af jp) .none kV_q26 dc_q26 pm_q26 an_q26 cd_q26 ct_q26),sl_q26⟩) (c_q26:PySem.W.codeIn K cd_q26 "is_place" = true) (k_q26:PySem.W.keepIn K (.ref f_q26) = true)
    {od_q22 an_q22:Option Addr} {sl_q22:Array (Option Value)} {oc_q22 kV_q22 dc_q22 pm_q22 cd_q22 ct_q22:Value} (a_q22:PySem.W.nsIn K mainGlobals "are_ends" = some (some (.ref f_q22))) (l_q22:K.lookup f_q22 = some ⟨oc_q22,od_q22,.func (PySem.W.fnOf "are_ends" "are_ends" (au jw) (ar jw) (af jw) .none kV_q22 dc_q22 pm_q22 an_q22 cd_q22 ct_q22),sl_q22⟩) (c_q22:PySem.W.codeIn K cd_q22 "are_ends" = true) (k_q22:PySem.W.keepIn K (.ref f_q22) = true)
    {od_q45 an_q45:Option Addr} {sl_q45:Array (Option Value)} {oc_q45 kV_q45 dc_q45 pm_q45 cd_q45 ct_q45:Value} (a_q45:PySem.W.nsIn K mainGlobals "is_ask" = some (some (.ref f_q45))) (l_q45:K.lookup f_q45 = some ⟨oc_q45,od_q45,.func (PySem.W.fnOf "is_ask" "is_ask" (au jB) (ar jB) (af jB) .none kV_q45 dc_q45 pm_q45 an_q45 cd_q45 ct_q45),sl_q45⟩) (c_q45:PySem.W.codeIn K cd_q45 "is_ask" = true) (k_q45:PySem.W.keepIn K (.ref f_q45) = true)
    {od_q7 an_q7:Option Addr} {sl_q7:Array (Option Value)} {oc_q7 kV_q7 dc_q7 pm_q7 cd_q7 ct_q7:Value} (a_q7:PySem.W.nsIn K mainGlobals "look_at_asks" = some (some (.ref f_q7))) (l_q7:K.lookup f_q7 = some ⟨oc_q7,od_q7,.func (PySem.W.fnOf "look_at_asks" "look_at_asks" (au oY) (ar oY) (af oY) .none kV_q7 dc_q7 pm_q7 an_q7 cd_q7 ct_q7),sl_q7⟩) (c_q7:PySem.W.codeIn K cd_q7 "look_at_asks" = true) (k_q7:PySem.W.keepIn K (.ref f_q7) = true)
    {od_q25 an_q25:Option Addr} {sl_q25:Array (Option Value)} {oc_q25 kV_q25 dc_q25 pm_q25 cd_q25 ct_q25:Value} (a_q25:PySem.W.nsIn K mainGlobals "fraction" = some (some (.ref f_q25))) (l_q25:K.lookup f_q25 = some ⟨oc_q25,od_q25,.func (PySem.W.fnOf "fraction" "fraction" (au jg) (ar jg) (af jg) .none kV_q25 dc_q25 pm_q25 an_q25 cd_q25 ct_q25),sl_q25⟩) (c_q25:PySem.W.codeIn K cd_q25 "fraction" = true) (k_q25:PySem.W.keepIn K (.ref f_q25) = true)
    {od_q59 an_q59:Option Addr} {sl_q59:Array (Option Value)} {oc_q59 kV_q59 dc_q59 pm_q59 cd_q59 ct_q59:Value} (a_q59:PySem.W.nsIn K mainGlobals "minus" = some (some (.ref f_q59))) (l_q59:K.lookup f_q59 = some ⟨oc_q59,od_q59,.func (PySem.W.fnOf "minus" "minus" (au iP) (ar iP) (af iP) .none kV_q59 dc_q59 pm_q59 an_q59 cd_q59 ct_q59),sl_q59⟩) (c_q59:PySem.W.codeIn K cd_q59 "minus" = true) (k_q59:PySem.W.keepIn K (.ref f_q59) = true)
    {od_q60 an_q60:Option Addr} {sl_q60:Array (Option Value)} {oc_q60 kV_q60 dc_q60 pm_q60 cd_q60 ct_q60:Value} (a_q60:PySem.W.nsIn K mainGlobals "times" = some (some (.ref f_q60))) (l_q60:K.lookup f_q60 = some ⟨oc_q60,od_q60,.func (PySem.W.fnOf "times" "times" (au ju) (ar ju) (af ju) .none kV_q60 dc_q60 pm_q60 an_q60 cd_q60 ct_q60),sl_q60⟩) (c_q60:PySem.W.codeIn K cd_q60 "times" = true) (k_q60:PySem.W.keepIn K (.ref f_q60) = true)
    {od_q51 an_q51:Option Addr} {sl_q51:Array (Option Value)} {oc_q51 kV_q51 dc_q51 pm_q51 cd_q51 ct_q51:Value} (a_q51:PySem.W.nsIn K mainGlobals "sum_of" = some (some (.ref f_q51))) (l_q51:K.lookup f_q51 = some ⟨oc_q51,od_q51,.func (PySem.W.fnOf "sum_of" "sum_of" (au jl) (ar jl) (af jl) .none kV_q51 dc_q51 pm_q51 an_q51 cd_q51 ct_q51),sl_q51⟩) (c_q51:PySem.W.codeIn K cd_q51 "sum_of" = true) (k_q51:PySem.W.keepIn K (.ref f_q51) = true)
    {od_q61 an_q61:Option Addr} {sl_q61:Array (Option Value)} {oc_q61 kV_q61 dc_q61 pm_q61 cd_q61 ct_q61:Value} (a_q61:PySem.W.nsIn K mainGlobals "under" = some (some (.ref f_q61))) (l_q61:K.lookup f_q61 = some ⟨oc_q61,od_q61,.func (PySem.W.fnOf "under" "under" (au jF) (ar jF) (af jF) .none kV_q61 dc_q61 pm_q61 an_q61 cd_q61 ct_q61),sl_q61⟩) (c_q61:PySem.W.codeIn K cd_q61 "under" = true) (k_q61:PySem.W.keepIn K (.ref f_q61) = true)
    {od_q8 an_q8:Option Addr} {sl_q8:Array (Option Value)} {oc_q8 kV_q8 dc_q8 pm_q8 cd_q8 ct_q8:Value} (a_q8:PySem.W.nsIn K mainGlobals "look_at_ends" = some (some (.ref f_q8))) (l_q8:K.lookup f_q8 = some ⟨oc_q8,od_q8,.func (PySem.W.fnOf "look_at_ends" "look_at_ends" (au o4) (ar o4) (af o4) .none kV_q8 dc_q8 pm_q8 an_q8 cd_q8 ct_q8),sl_q8⟩) (c_q8:PySem.W.codeIn K cd_q8 "look_at_ends" = true) (k_q8:PySem.W.keepIn K (.ref f_q8) = true)
    {od_q53 an_q53:Option Addr} {sl_q53:Array (Option Value)} {oc_q53 kV_q53 dc_q53 pm_q53 cd_q53 ct_q53:Value} (a_q53:PySem.W.nsIn K mainGlobals "climb" = some (some (.ref f_q53))) (l_q53:K.lookup f_q53 = some ⟨oc_q53,od_q53,.func (PySem.W.fnOf "climb" "climb" (au iN) (ar iN) (af iN) .none kV_q53 dc_q53 pm_q53 an_q53 cd_q53 ct_q53),sl_q53⟩) (c_q53:PySem.W.codeIn K cd_q53 "climb" = true) (k_q53:PySem.W.keepIn K (.ref f_q53) = true)
    {od_q13 an_q13:Option Addr} {sl_q13:Array (Option Value)} {oc_q13 kV_q13 dc_q13 pm_q13 cd_q13 ct_q13:Value} (a_q13:PySem.W.nsIn K mainGlobals "way_between" = some (some (.ref f_q13))) (l_q13:K.lookup f_q13 = some ⟨oc_q13,od_q13,.func (PySem.W.fnOf "way_between" "way_between" (au j9) (ar j9) (af j9) .none kV_q13 dc_q13 pm_q13 an_q13 cd_q13 ct_q13),sl_q13⟩) (c_q13:PySem.W.codeIn K cd_q13 "way_between" = true) (k_q13:PySem.W.keepIn K (.ref f_q13) = true)
    {od_q52 an_q52:Option Addr} {sl_q52:Array (Option Value)} {oc_q52 kV_q52 dc_q52 pm_q52 cd_q52 ct_q52:Value} (a_q52:PySem.W.nsIn K mainGlobals "way_of" = some (some (.ref f_q52))) (l_q52:K.lookup f_q52 = some ⟨oc_q52,od_q52,.func (PySem.W.fnOf "way_of" "way_of" (au jS) (ar jS) (af jS) .none kV_q52 dc_q52 pm_q52 an_q52 cd_q52 ct_q52),sl_q52⟩) (c_q52:PySem.W.codeIn K cd_q52 "way_of" = true) (k_q52:PySem.W.keepIn K (.ref f_q52) = true)
    {od_q41 an_q41:Option Addr} {sl_q41:Array (Option Value)} {oc_q41 kV_q41 dc_q41 pm_q41 cd_q41 ct_q41:Value} (a_q41:PySem.W.nsIn K mainGlobals "ways_of" = some (some (.ref f_q41))) (l_q41:K.lookup f_q41 = some ⟨oc_q41,od_q41,.func (PySem.W.fnOf "ways_of" "ways_of" (au kb) (ar kb) (af kb) .none kV_q41 dc_q41 pm_q41 an_q41 cd_q41 ct_q41),sl_q41⟩) (c_q41:PySem.W.codeIn K cd_q41 "ways_of" = true) (k_q41:PySem.W.keepIn K (.ref f_q41) = true)
    {od_q9 an_q9:Option Addr} {sl_q9:Array (Option Value)} {oc_q9 kV_q9 dc_q9 pm_q9 cd_q9 ct_q9:Value} (a_q9:PySem.W.nsIn K mainGlobals "look_at_keep" = some (some (.ref f_q9))) (l_q9:K.lookup f_q9 = some ⟨oc_q9,od_q9,.func (PySem.W.fnOf "look_at_keep" "look_at_keep" (au pJ) (ar pJ) (af pJ) .none kV_q9 dc_q9 pm_q9 an_q9 cd_q9 ct_q9),sl_q9⟩) (c_q9:PySem.W.codeIn K cd_q9 "look_at_keep" = true) (k_q9:PySem.W.keepIn K (.ref f_q9) = true)
    {od_q49 an_q49:Option Addr} {sl_q49:Array (Option Value)} {oc_q49 kV_q49 dc_q49 pm_q49 cd_q49 ct_q49:Value} (a_q49:PySem.W.nsIn K mainGlobals "lay_on" = some (some (.ref f_q49))) (l_q49:K.lookup f_q49 = some ⟨oc_q49,od_q49,.func (PySem.W.fnOf "lay_on" "lay_on" (au jA) (ar jA) (af jA) .none kV_q49 dc_q49 pm_q49 an_q49 cd_q49 ct_q49),sl_q49⟩) (c_q49:PySem.W.codeIn K cd_q49 "lay_on" = true) (k_q49:PySem.W.keepIn K (.ref f_q49) = true)
    {od_q18 an_q18:Option Addr} {sl_q18:Array (Option Value)} {oc_q18 kV_q18 dc_q18 pm_q18 cd_q18 ct_q18:Value} (a_q18:PySem.W.nsIn K mainGlobals "load_with" = some (some (.ref f_q18))) (l_q18:K.lookup f_q18 = some ⟨oc_q18,od_q18,.func (PySem.W.fnOf "load_with" "load_with" (au iL) (ar iL) (af iL) .none kV_q18 dc_q18 pm_q18 an_q18 cd_q18 ct_q18),sl_q18⟩) (c_q18:PySem.W.codeIn K cd_q18 "load_with" = true) (k_q18:PySem.W.keepIn K (.ref f_q18) = true)
    {od_q39 an_q39:Option Addr} {sl_q39:Array (Option Value)} {oc_q39 kV_q39 dc_q39 pm_q39 cd_q39 ct_q39:Value} (a_q39:PySem.W.nsIn K mainGlobals "over_on" = some (some (.ref f_q39))) (l_q39:K.lookup f_q39 = some ⟨oc_q39,od_q39,.func (PySem.W.fnOf "over_on" "over_on" (au iO) (ar iO) (af iO) .none kV_q39 dc_q39 pm_q39 an_q39 cd_q39 ct_q39),sl_q39⟩) (c_q39:PySem.W.codeIn K cd_q39 "over_on" = true) (k_q39:PySem.W.keepIn K (.ref f_q39) = true)
    {od_q58 an_q58:Option Addr} {sl_q58:Array (Option Value)} {oc_q58 kV_q58 dc_q58 pm_q58 cd_q58 ct_q58:Value} (a_q58:PySem.W.nsIn K mainGlobals "loads" = some (some (.ref f_q58))) (l_q58:K.lookup f_q58 = some ⟨oc_q58,od_q58,.func (PySem.W.fnOf "loads" "loads" (au jT) (ar jT) (af jT) .none kV_q58 dc_q58 pm_q58 an_q58 cd_q58 ct_q58),sl_q58⟩) (c_q58:PySem.W.codeIn K cd_q58 "loads" = true) (k_q58:PySem.W.keepIn K (.ref f_q58) = true)
    {od_q15 an_q15:Option Addr} {sl_q15:Array (Option Value)} {oc_q15 kV_q15 dc_q15 pm_q15 cd_q15 ct_q15:Value} (a_q15:PySem.W.nsIn K mainGlobals "first_over" = some (some (.ref f_q15))) (l_q15:K.lookup f_q15 = some ⟨oc_q15,od_q15,.func (PySem.W.fnOf "first_over" "first_over" (au i4) (ar i4) (af i4) .none kV_q15 dc_q15 pm_q15 an_q15 cd_q15 ct_q15),sl_q15⟩) (c_q15:PySem.W.codeIn K cd_q15 "first_over" = true) (k_q15:PySem.W.keepIn K (.ref f_q15) = true)
    {od_q32 an_q32:Option Addr} {sl_q32:Array (Option Value)} {oc_q32 kV_q32 dc_q32 pm_q32 cd_q32 ct_q32:Value} (a_q32:PySem.W.nsIn K mainGlobals "worth_of" = some (some (.ref f_q32))) (l_q32:K.lookup f_q32 = some ⟨oc_q32,od_q32,.func (PySem.W.fnOf "worth_of" "worth_of" (au jm) (ar jm) (af jm) .none kV_q32 dc_q32 pm_q32 an_q32 cd_q32 ct_q32),sl_q32⟩) (c_q32:PySem.W.codeIn K cd_q32 "worth_of" = true) (k_q32:PySem.W.keepIn K (.ref f_q32) = true)
    {od_q27 an_q27:Option Addr} {sl_q27:Array (Option Value)} {oc_q27 kV_q27 dc_q27 pm_q27 cd_q27 ct_q27:Value} (a_q27:PySem.W.nsIn K mainGlobals "is_price" = some (some (.ref f_q27))) (l_q27:K.lookup f_q27 = some ⟨oc_q27,od_q27,.func (PySem.W.fnOf "is_price" "is_price" (au jX) (ar jX) (af jX) .none kV_q27 dc_q27 pm_q27 an_q27 cd_q27 ct_q27),sl_q27⟩) (c_q27:PySem.W.codeIn K cd_q27 "is_price" = true) (k_q27:PySem.W.keepIn K (.ref f_q27) = true)
    {od_q4 an_q4:Option Addr} {sl_q4:Array (Option Value)} {oc_q4 kV_q4 dc_q4 pm_q4 cd_q4 ct_q4:Value} (a_q4:PySem.W.nsIn K mainGlobals "look_at_prices" = some (some (.ref f_q4))) (l_q4:K.lookup f_q4 = some ⟨oc_q4,od_q4,.func (PySem.W.fnOf "look_at_prices" "look_at_prices" (au oP) (ar oP) (af oP) .none kV_q4 dc_q4 pm_q4 an_q4 cd_q4 ct_q4),sl_q4⟩) (c_q4:PySem.W.codeIn K cd_q4 "look_at_prices" = true) (k_q4:PySem.W.keepIn K (.ref f_q4) = true)
    {od_q31 an_q31:Option Addr} {sl_q31:Array (Option Value)} {oc_q31 kV_q31 dc_q31 pm_q31 cd_q31 ct_q31:Value} (a_q31:PySem.W.nsIn K mainGlobals "spare_of" = some (some (.ref f_q31))) (l_q31:K.lookup f_q31 = some ⟨oc_q31,od_q31,.func (PySem.W.fnOf "spare_of" "spare_of" (au jz) (ar jz) (af jz) .none kV_q31 dc_q31 pm_q31 an_q31 cd_q31 ct_q31),sl_q31⟩) (c_q31:PySem.W.codeIn K cd_q31 "spare_of" = true) (k_q31:PySem.W.keepIn K (.ref f_q31) = true)
    {od_q50 an_q50:Option Addr} {sl_q50:Array (Option Value)} {oc_q50 kV_q50 dc_q50 pm_q50 cd_q50 ct_q50:Value} (a_q50:PySem.W.nsIn K mainGlobals "spares" = some (some (.ref f_q50))) (l_q50:K.lookup f_q50 = some ⟨oc_q50,od_q50,.func (PySem.W.fnOf "spares" "spares" (au jL) (ar jL) (af jL) .none kV_q50 dc_q50 pm_q50 an_q50 cd_q50 ct_q50),sl_q50⟩) (c_q50:PySem.W.codeIn K cd_q50 "spares" = true) (k_q50:PySem.W.keepIn K (.ref f_q50) = true)
    {od_q24 an_q24:Option Addr} {sl_q24:Array (Option Value)} {oc_q24 kV_q24 dc_q24 pm_q24 cd_q24 ct_q24:Value} (a_q24:PySem.W.nsIn K mainGlobals "bound_of" = some (some (.ref f_q24))) (l_q24:K.lookup f_q24 = some ⟨oc_q24,od_q24,.func (PySem.W.fnOf "bound_of" "bound_of" (au iT) (ar iT) (af iT) .none kV_q24 dc_q24 pm_q24 an_q24 cd_q24 ct_q24),sl_q24⟩) (c_q24:PySem.W.codeIn K cd_q24 "bound_of" = true) (k_q24:PySem.W.keepIn K (.ref f_q24) = true)
    {od_q23 an_q23:Option Addr} {sl_q23:Array (Option Value)} {oc_q23 kV_q23 dc_q23 pm_q23 cd_q23 ct_q23:Value} (a_q23:PySem.W.nsIn K mainGlobals "are_ones" = some (some (.ref f_q23))) (l_q23:K.lookup f_q23 = some ⟨oc_q23,od_q23,.func (PySem.W.fnOf "are_ones" "are_ones" (au jN) (ar jN) (af jN) .none kV_q23 dc_q23 pm_q23 an_q23 cd_q23 ct_q23),sl_q23⟩) (c_q23:PySem.W.codeIn K cd_q23 "are_ones" = true) (k_q23:PySem.W.keepIn K (.ref f_q23) = true)
    {od_q6 an_q6:Option Addr} {sl_q6:Array (Option Value)} {oc_q6 kV_q6 dc_q6 pm_q6 cd_q6 ct_q6:Value} (a_q6:PySem.W.nsIn K mainGlobals "is_above_half" = some (some (.ref f_q6))) (l_q6:K.lookup f_q6 = some ⟨oc_q6,od_q6,.func (PySem.W.fnOf "is_above_half" "is_above_half" (au oX) (ar oX) (af oX) .none kV_q6 dc_q6 pm_q6 an_q6 cd_q6 ct_q6),sl_q6⟩) (c_q6:PySem.W.codeIn K cd_q6 "is_above_half" = true) (k_q6:PySem.W.keepIn K (.ref f_q6) = true)
    {od_q3 an_q3:Option Addr} {sl_q3:Array (Option Value)} {oc_q3 kV_q3 dc_q3 pm_q3 cd_q3 ct_q3:Value} (a_q3:PySem.W.nsIn K mainGlobals "look_at_halves" = some (some (.ref f_q3))) (l_q3:K.lookup f_q3 = some ⟨oc_q3,od_q3,.func (PySem.W.fnOf "look_at_halves" "look_at_halves" (au pB) (ar pB) (af pB) .none kV_q3 dc_q3 pm_q3 an_q3 cd_q3 ct_q3),sl_q3⟩) (c_q3:PySem.W.codeIn K cd_q3 "look_at_halves" = true) (k_q3:PySem.W.keepIn K (.ref f_q3) = true)
    {od_q40 an_q40:Option Addr} {sl_q40:Array (Option Value)} {oc_q40 kV_q40 dc_q40 pm_q40 cd_q40 ct_q40:Value} (a_q40:PySem.W.nsIn K mainGlobals "rate_of" = some (some (.ref f_q40))) (l_q40:K.lookup f_q40 = some ⟨oc_q40,od_q40,.func (PySem.W.fnOf "rate_of" "rate_of" (au iS) (ar iS) (af iS) .none kV_q40 dc_q40 pm_q40 an_q40 cd_q40 ct_q40),sl_q40⟩) (c_q40:PySem.W.codeIn K cd_q40 "rate_of" = true) (k_q40:PySem.W.keepIn K (.ref f_q40) = true)
    {od_q0 an_q0:Option Addr} {sl_q0:Array (Option Value)} {oc_q0 kV_q0 dc_q0 pm_q0 cd_q0 ct_q0:Value} (a_q0:PySem.W.nsIn K mainGlobals "greatest_rate_first" = some (some (.ref f_q0))) (l_q0:K.lookup f_q0 = some ⟨oc_q0,od_q0,.func (PySem.W.fnOf "greatest_rate_first" "greatest_rate_first" (au oF) (ar oF) (af oF) .none kV_q0 dc_q0 pm_q0 an_q0 cd_q0 ct_q0),sl_q0⟩) (c_q0:PySem.W.codeIn K cd_q0 "greatest_rate_first" = true) (k_q0:PySem.W.keepIn K (.ref f_q0) = true)
    {od_q35 an_q35:Option Addr} {sl_q35:Array (Option Value)} {oc_q35 kV_q35 dc_q35 pm_q35 cd_q35 ct_q35:Value} (a_q35:PySem.W.nsIn K mainGlobals "fill_up" = some (some (.ref f_q35))) (l_q35:K.lookup f_q35 = some ⟨oc_q35,od_q35,.func (PySem.W.fnOf "fill_up" "fill_up" (au jd) (ar jd) (af jd) .none kV_q35 dc_q35 pm_q35 an_q35 cd_q35 ct_q35),sl_q35⟩) (c_q35:PySem.W.codeIn K cd_q35 "fill_up" = true) (k_q35:PySem.W.keepIn K (.ref f_q35) = true)
    {od_q12 an_q12:Option Addr} {sl_q12:Array (Option Value)} {oc_q12 kV_q12 dc_q12 pm_q12 cd_q12 ct_q12:Value} (a_q12:PySem.W.nsIn K mainGlobals "keep_unlike" = some (some (.ref f_q12))) (l_q12:K.lookup f_q12 = some ⟨oc_q12,od_q12,.func (PySem.W.fnOf "keep_unlike" "keep_unlike" (au jx) (ar jx) (af jx) .none kV_q12 dc_q12 pm_q12 an_q12 cd_q12 ct_q12),sl_q12⟩) (c_q12:PySem.W.codeIn K cd_q12 "keep_unlike" = true) (k_q12:PySem.W.keepIn K (.ref f_q12) = true)
    {od_q1 an_q1:Option Addr} {sl_q1:Array (Option Value)} {oc_q1 kV_q1 dc_q1 pm_q1 cd_q1 ct_q1:Value} (a_q1:PySem.W.nsIn K mainGlobals "is_keep_that_fits" = some (some (.ref f_q1))) (l_q1:K.lookup f_q1 = some ⟨oc_q1,od_q1,.func (PySem.W.fnOf "is_keep_that_fits" "is_keep_that_fits" (au pe) (ar pe) (af pe) .none kV_q1 dc_q1 pm_q1 an_q1 cd_q1 ct_q1),sl_q1⟩) (c_q1:PySem.W.codeIn K cd_q1 "is_keep_that_fits" = true) (k_q1:PySem.W.keepIn K (.ref f_q1) = true)
    {od_q14 an_q14:Option Addr} {sl_q14:Array (Option Value)} {oc_q14 kV_q14 dc_q14 pm_q14 cd_q14 ct_q14:Value} (a_q14:PySem.W.nsIn K mainGlobals "are_prices" = some (some (.ref f_q14))) (l_q14:K.lookup f_q14 = some ⟨oc_q14,od_q14,.func (PySem.W.fnOf "are_prices" "are_prices" (au iZ) (ar iZ) (af iZ) .none kV_q14 dc_q14 pm_q14 an_q14 cd_q14 ct_q14),sl_q14⟩) (c_q14:PySem.W.codeIn K cd_q14 "are_prices" = true) (k_q14:PySem.W.keepIn K (.ref f_q14) = true)
    {od_q28 an_q28:Option Addr} {sl_q28:Array (Option Value)} {oc_q28 kV_q28 dc_q28 pm_q28 cd_q28 ct_q28:Value} (a_q28:PySem.W.nsIn K mainGlobals "is_share" = some (some (.ref f_q28))) (l_q28:K.lookup f_q28 = some ⟨oc_q28,od_q28,.func (PySem.W.fnOf "is_share" "is_share" (au jW) (ar jW) (af jW) .none kV_q28 dc_q28 pm_q28 an_q28 cd_q28 ct_q28),sl_q28⟩) (c_q28:PySem.W.codeIn K cd_q28 "is_share" = true) (k_q28:PySem.W.keepIn K (.ref f_q28) = true)
    {od_q47 an_q47:Option Addr} {sl_q47:Array (Option Value)} {oc_q47 kV_q47 dc_q47 pm_q47 cd_q47 ct_q47:Value} (a_q47:PySem.W.nsIn K mainGlobals "_law_pool" = some (some (.ref f_q47))) (l_q47:K.lookup f_q47 = some ⟨oc_q47,od_q47,.func (PySem.W.fnOf "_law_pool" "_law_pool" (au je) (ar je) (af je) .none kV_q47 dc_q47 pm_q47 an_q47 cd_q47 ct_q47),sl_q47⟩) (c_q47:PySem.W.codeIn K cd_q47 "_law_pool" = true) (k_q47:PySem.W.keepIn K (.ref f_q47) = true)
    {od_q48 an_q48:Option Addr} {sl_q48:Array (Option Value)} {oc_q48 kV_q48 dc_q48 pm_q48 cd_q48 ct_q48:Value} (a_q48:PySem.W.nsIn K mainGlobals "_law_take" = some (some (.ref f_q48))) (l_q48:K.lookup f_q48 = some ⟨oc_q48,od_q48,.func (PySem.W.fnOf "_law_take" "_law_take" (au jO) (ar jO) (af jO) .none kV_q48 dc_q48 pm_q48 an_q48 cd_q48 ct_q48),sl_q48⟩) (c_q48:PySem.W.codeIn K cd_q48 "_law_take" = true) (k_q48:PySem.W.keepIn K (.ref f_q48) = true)
    {od_q30 an_q30:Option Addr} {sl_q30:Array (Option Value)} {oc_q30 kV_q30 dc_q30 pm_q30 cd_q30 ct_q30:Value} (a_q30:PySem.W.nsIn K mainGlobals "_law_number" = some (some (.ref f_q30))) (l_q30:K.lookup f_q30 = some ⟨oc_q30,od_q30,.func (PySem.W.fnOf "_law_number" "_law_number" (au jf) (ar jf) (af jf) .none kV_q30 dc_q30 pm_q30 an_q30 cd_q30 ct_q30),sl_q30⟩) (c_q30:PySem.W.codeIn K cd_q30 "_law_number" = true) (k_q30:PySem.W.keepIn K (.ref f_q30) = true)
    {od_q17 an_q17:Option Addr} {sl_q17:Array (Option Value)} {oc_q17 kV_q17 dc_q17 pm_q17 cd_q17 ct_q17:Value} (a_q17:PySem.W.nsIn K mainGlobals "_law_parents" = some (some (.ref f_q17))) (l_q17:K.lookup f_q17 = some ⟨oc_q17,od_q17,.func (PySem.W.fnOf "_law_parents" "_law_parents" (au ji) (ar ji) (af ji) .none kV_q17 dc_q17 pm_q17 an_q17 cd_q17 ct_q17),sl_q17⟩) (c_q17:PySem.W.codeIn K cd_q17 "_law_parents" = true) (k_q17:PySem.W.keepIn K (.ref f_q17) = true)
    {od_q38 an_q38:Option Addr} {sl_q38:Array (Option Value)} {oc_q38 kV_q38 dc_q38 pm_q38 cd_q38 ct_q38:Value} (a_q38:PySem.W.nsIn K mainGlobals "_law_rooms" = some (some (.ref f_q38))) (l_q38:K.lookup f_q38 = some ⟨oc_q38,od_q38,.func (PySem.W.fnOf "_law_rooms" "_law_rooms" (au ja) (ar ja) (af ja) .none kV_q38 dc_q38 pm_q38 an_q38 cd_q38 ct_q38),sl_q38⟩) (c_q38:PySem.W.codeIn K cd_q38 "_law_rooms" = true) (k_q38:PySem.W.keepIn K (.ref f_q38) = true)
    {od_q46 an_q46:Option Addr} {sl_q46:Array (Option Value)} {oc_q46 kV_q46 dc_q46 pm_q46 cd_q46 ct_q46:Value} (a_q46:PySem.W.nsIn K mainGlobals "_law_ends" = some (some (.ref f_q46))) (l_q46:K.lookup f_q46 = some ⟨oc_q46,od_q46,.func (PySem.W.fnOf "_law_ends" "_law_ends" (au jG) (ar jG) (af jG) .none kV_q46 dc_q46 pm_q46 an_q46 cd_q46 ct_q46),sl_q46⟩) (c_q46:PySem.W.codeIn K cd_q46 "_law_ends" = true) (k_q46:PySem.W.keepIn K (.ref f_q46) = true)
    {od_q62 an_q62:Option Addr} {sl_q62:Array (Option Value)} {oc_q62 kV_q62 dc_q62 pm_q62 cd_q62 ct_q62:Value} (a_q62:PySem.W.nsIn K mainGlobals "_law_up" = some (some (.ref f_q62))) (l_q62:K.lookup f_q62 = some ⟨oc_q62,od_q62,.func (PySem.W.fnOf "_law_up" "_law_up" (au j8) (ar j8) (af j8) .none kV_q62 dc_q62 pm_q62 an_q62 cd_q62 ct_q62),sl_q62⟩) (c_q62:PySem.W.codeIn K cd_q62 "_law_up" = true) (k_q62:PySem.W.keepIn K (.ref f_q62) = true)
    {od_q57 an_q57:Option Addr} {sl_q57:Array (Option Value)} {oc_q57 kV_q57 dc_q57 pm_q57 cd_q57 ct_q57:Value} (a_q57:PySem.W.nsIn K mainGlobals "_law_way" = some (some (.ref f_q57))) (l_q57:K.lookup f_q57 = some ⟨oc_q57,od_q57,.func (PySem.W.fnOf "_law_way" "_law_way" (au jQ) (ar jQ) (af jQ) .none kV_q57 dc_q57 pm_q57 an_q57 cd_q57 ct_q57),sl_q57⟩) (c_q57:PySem.W.codeIn K cd_q57 "_law_way" = true) (k_q57:PySem.W.keepIn K (.ref f_q57) = true)
    {od_q54 an_q54:Option Addr} {sl_q54:Array (Option Value)} {oc_q54 kV_q54 dc_q54 pm_q54 cd_q54 ct_q54:Value} (a_q54:PySem.W.nsIn K mainGlobals "_law_ask" = some (some (.ref f_q54))) (l_q54:K.lookup f_q54 = some ⟨oc_q54,od_q54,.func (PySem.W.fnOf "_law_ask" "_law_ask" (au i3) (ar i3) (af i3) .none kV_q54 dc_q54 pm_q54 an_q54 cd_q54 ct_q54),sl_q54⟩) (c_q54:PySem.W.codeIn K cd_q54 "_law_ask" = true) (k_q54:PySem.W.keepIn K (.ref f_q54) = true)
    {od_q55 an_q55:Option Addr} {sl_q55:Array (Option Value)} {oc_q55 kV_q55 dc_q55 pm_q55 cd_q55 ct_q55:Value} (a_q55:PySem.W.nsIn K mainGlobals "_law_low" = some (some (.ref f_q55))) (l_q55:K.lookup f_q55 = some ⟨oc_q55,od_q55,.func (PySem.W.fnOf "_law_low" "_law_low" (au j_) (ar j_) (af j_) .none kV_q55 dc_q55 pm_q55 an_q55 cd_q55 ct_q55),sl_q55⟩) (c_q55:PySem.W.codeIn K cd_q55 "_law_low" = true) (k_q55:PySem.W.keepIn K (.ref f_q55) = true)
    {od_q36 an_q36:Option Addr} {sl_q36:Array (Option Value)} {oc_q36 kV_q36 dc_q36 pm_q36 cd_q36 ct_q36:Value} (a_q36:PySem.W.nsIn K mainGlobals "_law_lists" = some (some (.ref f_q36))) (l_q36:K.lookup f_q36 = some ⟨oc_q36,od_q36,.func (PySem.W.fnOf "_law_lists" "_law_lists" (au j5) (ar j5) (af j5) .none kV_q36 dc_q36 pm_q36 an_q36 cd_q36 ct_q36),sl_q36⟩) (c_q36:PySem.W.codeIn K cd_q36 "_law_lists" = true) (k_q36:PySem.W.keepIn K (.ref f_q36) = true)
    {od_q56 an_q56:Option Addr} {sl_q56:Array (Option Value)} {oc_q56 kV_q56 dc_q56 pm_q56 cd_q56 ct_q56:Value} (a_q56:PySem.W.nsIn K mainGlobals "_law_met" = some (some (.ref f_q56))) (l_q56:K.lookup f_q56 = some ⟨oc_q56,od_q56,.func (PySem.W.fnOf "_law_met" "_law_met" (au i7) (ar i7) (af i7) .none kV_q56 dc_q56 pm_q56 an_q56 cd_q56 ct_q56),sl_q56⟩) (c_q56:PySem.W.codeIn K cd_q56 "_law_met" = true) (k_q56:PySem.W.keepIn K (.ref f_q56) = true)
    {od_q37 an_q37:Option Addr} {sl_q37:Array (Option Value)} {oc_q37 kV_q37 dc_q37 pm_q37 cd_q37 ct_q37:Value} (a_q37:PySem.W.nsIn K mainGlobals "_law_right" = some (some (.ref f_q37))) (l_q37:K.lookup f_q37 = some ⟨oc_q37,od_q37,.func (PySem.W.fnOf "_law_right" "_law_right" (au i9) (ar i9) (af i9) .none kV_q37 dc_q37 pm_q37 an_q37 cd_q37 ct_q37),sl_q37⟩) (c_q37:PySem.W.codeIn K cd_q37 "_law_right" = true) (k_q37:PySem.W.keepIn K (.ref f_q37) = true)
    {od_law an_law:Option Addr} {sl_law:Array (Option Value)} {oc_law kV_law dc_law pm_law cd_law ct_law:Value} (a_law:PySem.W.nsIn K mainGlobals "law" = some (some (.ref f_law))) (l_law:K.lookup f_law = some ⟨oc_law,od_law,.func (PySem.W.fnOf "law" "law" (au f_) (ar f_) (af f_) .none kV_law dc_law pm_law an_law cd_law ct_law),sl_law⟩) (c_law:PySem.W.codeIn K cd_law "law" = true) (k_law:PySem.W.keepIn K (.ref f_law) = true)
    {t_MOST_TIES:Tok} (c_MOST_TIES:PySem.W.nsIn K mainGlobals "MOST_TIES" = some (some (.int 23 t_MOST_TIES)))
    {t_MOST_ROOM:Tok} (c_MOST_ROOM:PySem.W.nsIn K mainGlobals "MOST_ROOM" = some (some (.int 1000000 t_MOST_ROOM)))
    {t_MOST_ASKS:Tok} (c_MOST_ASKS:PySem.W.nsIn K mainGlobals "MOST_ASKS" = some (some (.int 30 t_MOST_ASKS)))
    {t_MOST_SIZE:Tok} (c_MOST_SIZE:PySem.W.nsIn K mainGlobals "MOST_SIZE" = some (some (.int 1000000 t_MOST_SIZE)))
    {t_MOST_WORTH:Tok} (c_MOST_WORTH:PySem.W.nsIn K mainGlobals "MOST_WORTH" = some (some (.int 1000000000000 t_MOST_WORTH)))
    (z_all:PySem.W.nsIn K mainGlobals "all" = some none)
    (z_any:PySem.W.nsIn K mainGlobals "any" = some none)
    (z_bool:PySem.W.nsIn K mainGlobals "bool" = some none)
    (z_enumerate:PySem.W.nsIn K mainGlobals "enumerate" = some none)
    (z_int:PySem.W.nsIn K mainGlobals "int" = some none)
    (z_isinstance:PySem.W.nsIn K mainGlobals "isinstance" = some none)
    (z_len:PySem.W.nsIn K mainGlobals "len" = some none)
    (z_list:PySem.W.nsIn K mainGlobals "list" = some none)
    (z_max:PySem.W.nsIn K mainGlobals "max" = some none)
    (z_min:PySem.W.nsIn K mainGlobals "min" = some none)
    (z_range:PySem.W.nsIn K mainGlobals "range" = some none)
    (z_sorted:PySem.W.nsIn K mainGlobals "sorted" = some none)
    (z_sum:PySem.W.nsIn K mainGlobals "sum" = some none)
    (z_tuple:PySem.W.nsIn K mainGlobals "tuple" = some none)
    (z_zip:PySem.W.nsIn K mainGlobals "zip" = some none)
   :∃ fd:FuncData,(∀ (s:Shared) (v:Value),BindsTo s fd ⟨[v],[]⟩ [("_law_script",v)]) ∧ ∀ base:Heap,K.In base → base.Ns mainGlobals mg → FnOk l.prog w K mg base CX0 14 fa fd ["_law_script"] (nS K):=by
  have e:=hfa.symm.trans (PySem.W.mg_of X G a_law)
  cases e
  have F_q29:=aI (st:=jh) l_q29 c_q29 k_q29
  have b_q29:=F_q29.binds (ps:=["thing"]) fun _ _ _ _ _ _ us hl => us1 (fun _ => rfl) us hl
  have F_q16:=aI (st:=jV) l_q16 c_q16 k_q16
  have b_q16:=F_q16.binds (ps:=["thing","least","most"]) fun _ _ _ _ _ _ us hl => us3 (fun _ _ _ => rfl) us hl
  have F_q2:=aI (st:=pI) l_q2 c_q2 k_q2
  have b_q2:=F_q2.binds (ps:=["number","bottom"]) fun _ _ _ _ _ _ us hl => us2 (fun _ _ => rfl) us hl
  have F_q11:=aI (st:=i6) l_q11 c_q11 k_q11
  have b_q11:=F_q11.binds (ps:=["thing"]) fun _ _ _ _ _ _ us hl => us1 (fun _ => rfl) us hl
  have F_q5:=aI (st:=oK) l_q5 c_q5 k_q5
  have b_q5:=F_q5.binds (ps:=["thing"]) fun _ _ _ _ _ _ us hl => us1 (fun _ => rfl) us hl
  have F_q10:=aI (st:=jI) l_q10 c_q10 k_q10
  have b_q10:=F_q10.binds (ps:=["thing"]) fun _ _ _ _ _ _ us hl => us1 (fun _ => rfl) us hl
  have F_q26:=aI (st:=jp) l_q26 c_q26 k_q26
  have b_q26:=F_q26.binds (ps:=["tree","thing"]) fun _ _ _ _ _ _ us hl => us2 (fun _ _ => rfl) us hl
  have F_q22:=aI (st:=jw) l_q22 c_q22 k_q22
  have b_q22:=F_q22.binds (ps:=["tree","one","other"]) fun _ _ _ _ _ _ us hl => us3 (fun _ _ _ => rfl) us hl
  have F_q45:=aI (st:=jB) l_q45 c_q45 k_q45
  have b_q45:=F_q45.binds (ps:=["tree","thing"]) fun _ _ _ _ _ _ us hl => us2 (fun _ _ => rfl) us hl
  have F_q7:=aI (st:=oY) l_q7 c_q7 k_q7
  have b_q7:=F_q7.binds (ps:=["tree","thing"]) fun _ _ _ _ _ _ us hl => us2 (fun _ _ => rfl) us hl
  have F_q25:=aI (st:=jg) l_q25 c_q25 k_q25
  have b_q25:=F_q25.binds (ps:=["top","bottom"]) fun _ _ _ _ _ _ us hl => us2 (fun _ _ => rfl) us hl
  have F_q59:=aI (st:=iP) l_q59 c_q59 k_q59
  have b_q59:=F_q59.binds (ps:=["one","other"]) fun _ _ _ _ _ _ us hl => us2 (fun _ _ => rfl) us hl
  have F_q60:=aI (st:=ju) l_q60 c_q60 k_q60
  have b_q60:=F_q60.binds (ps:=["one","other"]) fun _ _ _ _ _ _ us hl => us2 (fun _ _ => rfl) us hl
  have F_q51:=aI (st:=jl) l_q51 c_q51 k_q51
  have b_q51:=F_q51.binds (ps:=["some"]) fun _ _ _ _ _ _ us hl => us1 (fun _ => rfl) us hl
  have F_q61:=aI (st:=jF) l_q61 c_q61 k_q61
  have b_q61:=F_q61.binds (ps:=["one","other"]) fun _ _ _ _ _ _ us hl => us2 (fun _ _ => rfl) us hl
  have F_q8:=aI (st:=o4) l_q8 c_q8 k_q8
  have b_q8:=F_q8.binds (ps:=["tree","one","other"]) fun _ _ _ _ _ _ us hl => us3 (fun _ _ _ => rfl) us hl
  have F_q53:=aI (st:=iN) l_q53 c_q53 k_q53
  have b_q53:=F_q53.binds (ps:=["tree","one","other"]) fun _ _ _ _ _ _ us hl => us3 (fun _ _ _ => rfl) us hl
  have F_q13:=aI (st:=j9) l_q13 c_q13 k_q13
  have b_q13:=F_q13.binds (ps:=["tree","one","other"]) fun _ _ _ _ _ _ us hl => us3 (fun _ _ _ => rfl) us hl
  have F_q52:=aI (st:=jS) l_q52 c_q52 k_q52
  have b_q52:=F_q52.binds (ps:=["tree","ask"]) fun _ _ _ _ _ _ us hl => us2 (fun _ _ => rfl) us hl
  have F_q41:=aI (st:=kb) l_q41 c_q41 k_q41
  have b_q41:=F_q41.binds (ps:=["tree","asks"]) fun _ _ _ _ _ _ us hl => us2 (fun _ _ => rfl) us hl
  have F_q9:=aI (st:=pJ) l_q9 c_q9 k_q9
  have b_q9:=F_q9.binds (ps:=["tree","asks","thing"]) fun _ _ _ _ _ _ us hl => us3 (fun _ _ _ => rfl) us hl
  have F_q49:=aI (st:=jA) l_q49 c_q49 k_q49
  have b_q49:=F_q49.binds (ps:=["ask","way","load"]) fun _ _ _ _ _ _ us hl => us3 (fun _ _ _ => rfl) us hl
  have F_q18:=aI (st:=iL) l_q18 c_q18 k_q18
  have b_q18:=F_q18.binds (ps:=["tree","ask","load"]) fun _ _ _ _ _ _ us hl => us3 (fun _ _ _ => rfl) us hl
  have F_q39:=aI (st:=iO) l_q39 c_q39 k_q39
  have b_q39:=F_q39.binds (ps:=["tree","ask","way","load"]) fun _ _ _ _ _ _ us hl => us4 (fun _ _ _ _ => rfl) us hl
  have F_q58:=aI (st:=jT) l_q58 c_q58 k_q58
  have b_q58:=F_q58.binds (ps:=["tree","asks","keep"]) fun _ _ _ _ _ _ us hl => us3 (fun _ _ _ => rfl) us hl
  have F_q15:=aI (st:=i4) l_q15 c_q15 k_q15
  have b_q15:=F_q15.binds (ps:=["tree","asks","keep"]) fun _ _ _ _ _ _ us hl => us3 (fun _ _ _ => rfl) us hl
  have F_q32:=aI (st:=jm) l_q32 c_q32 k_q32
  have b_q32:=F_q32.binds (ps:=["tree","asks","keep"]) fun _ _ _ _ _ _ us hl => us3 (fun _ _ _ => rfl) us hl
  have F_q27:=aI (st:=jX) l_q27 c_q27 k_q27
  have b_q27:=F_q27.binds (ps:=["thing"]) fun _ _ _ _ _ _ us hl => us1 (fun _ => rfl) us hl
  have F_q4:=aI (st:=oP) l_q4 c_q4 k_q4
  have b_q4:=F_q4.binds (ps:=["tree","thing"]) fun _ _ _ _ _ _ us hl => us2 (fun _ _ => rfl) us hl
  have F_q31:=aI (st:=jz) l_q31 c_q31 k_q31
  have b_q31:=F_q31.binds (ps:=["tree","ask","weight","prices"]) fun _ _ _ _ _ _ us hl => us4 (fun _ _ _ _ => rfl) us hl
  have F_q50:=aI (st:=jL) l_q50 c_q50 k_q50
  have b_q50:=F_q50.binds (ps:=["tree","asks","prices"]) fun _ _ _ _ _ _ us hl => us3 (fun _ _ _ => rfl) us hl
  have F_q24:=aI (st:=iT) l_q24 c_q24 k_q24
  have b_q24:=F_q24.binds (ps:=["tree","asks","prices"]) fun _ _ _ _ _ _ us hl => us3 (fun _ _ _ => rfl) us hl
  have F_q23:=aI (st:=jN) l_q23 c_q23 k_q23
  have b_q23:=F_q23.binds (ps:=["asks"]) fun _ _ _ _ _ _ us hl => us1 (fun _ => rfl) us hl
  have F_q6:=aI (st:=oX) l_q6 c_q6 k_q6
  have b_q6:=F_q6.binds (ps:=["tree","ask"]) fun _ _ _ _ _ _ us hl => us2 (fun _ _ => rfl) us hl
  have F_q3:=aI (st:=pB) l_q3 c_q3 k_q3
  have b_q3:=F_q3.binds (ps:=["tree","asks"]) fun _ _ _ _ _ _ us hl => us2 (fun _ _ => rfl) us hl
  have F_q40:=aI (st:=iS) l_q40 c_q40 k_q40
  have b_q40:=F_q40.binds (ps:=["ask"]) fun _ _ _ _ _ _ us hl => us1 (fun _ => rfl) us hl
  have F_q0:=aI (st:=oF) l_q0 c_q0 k_q0
  have b_q0:=F_q0.binds (ps:=["asks"]) fun _ _ _ _ _ _ us hl => us1 (fun _ => rfl) us hl
  have F_q35:=aI (st:=jd) l_q35 c_q35 k_q35
  have b_q35:=F_q35.binds (ps:=["tree","asks","ways","kept","order"]) fun _ _ _ _ _ _ us hl => us5 (fun _ _ _ _ _ => rfl) us hl
  have F_q12:=aI (st:=jx) l_q12 c_q12 k_q12
  have b_q12:=F_q12.binds (ps:=["tree","asks"]) fun _ _ _ _ _ _ us hl => us2 (fun _ _ => rfl) us hl
  have F_q1:=aI (st:=pe) l_q1 c_q1 k_q1
  have b_q1:=F_q1.binds (ps:=["tree","asks","thing"]) fun _ _ _ _ _ _ us hl => us3 (fun _ _ _ => rfl) us hl
  have F_q14:=aI (st:=iZ) l_q14 c_q14 k_q14
  have b_q14:=F_q14.binds (ps:=["tree","thing"]) fun _ _ _ _ _ _ us hl => us2 (fun _ _ => rfl) us hl
  have F_q28:=aI (st:=jW) l_q28 c_q28 k_q28
  have b_q28:=F_q28.binds (ps:=["tree","asks","thing"]) fun _ _ _ _ _ _ us hl => us3 (fun _ _ _ => rfl) us hl
  have F_q47:=aI (st:=je) l_q47 c_q47 k_q47
  have b_q47:=F_q47.binds (ps:=["_law_script","_law_k"]) fun _ _ _ _ _ _ us hl => us2 (fun _ _ => rfl) us hl
  have F_q48:=aI (st:=jO) l_q48 c_q48 k_q48
  have b_q48:=F_q48.binds (ps:=["_law_pool_here","_law_many"]) fun _ _ _ _ _ _ us hl => us2 (fun _ _ => rfl) us hl
  have F_q30:=aI (st:=jf) l_q30 c_q30 k_q30
  have b_q30:=F_q30.binds (ps:=["_law_pool_here","_law_most"]) fun _ _ _ _ _ _ us hl => us2 (fun _ _ => rfl) us hl
  have F_q17:=aI (st:=ji) l_q17 c_q17 k_q17
  have b_q17:=F_q17.binds (ps:=["_law_pool_here","_law_most"]) fun _ _ _ _ _ _ us hl => us2 (fun _ _ => rfl) us hl
  have F_q38:=aI (st:=ja) l_q38 c_q38 k_q38
  have b_q38:=F_q38.binds (ps:=["_law_pool_here","_law_many","_law_least"]) fun _ _ _ _ _ _ us hl => us3 (fun _ _ _ => rfl) us hl
  have F_q46:=aI (st:=jG) l_q46 c_q46 k_q46
  have b_q46:=F_q46.binds (ps:=["_law_pool_here","_law_many"]) fun _ _ _ _ _ _ us hl => us2 (fun _ _ => rfl) us hl
  have F_q62:=aI (st:=j8) l_q62 c_q62 k_q62
  have b_q62:=F_q62.binds (ps:=["_law_parents_here","_law_place"]) fun _ _ _ _ _ _ us hl => us2 (fun _ _ => rfl) us hl
  have F_q57:=aI (st:=jQ) l_q57 c_q57 k_q57
  have b_q57:=F_q57.binds (ps:=["_law_parents_here","_law_ask_here"]) fun _ _ _ _ _ _ us hl => us2 (fun _ _ => rfl) us hl
  have F_q54:=aI (st:=i3) l_q54 c_q54 k_q54
  have b_q54:=F_q54.binds (ps:=["_law_pool_here","_law_tree"]) fun _ _ _ _ _ _ us hl => us2 (fun _ _ => rfl) us hl
  have F_q55:=aI (st:=j_) l_q55 c_q55 k_q55
  have b_q55:=F_q55.binds (ps:=["_law_top","_law_bottom"]) fun _ _ _ _ _ _ us hl => us2 (fun _ _ => rfl) us hl
  have F_q36:=aI (st:=j5) l_q36 c_q36 k_q36
  have b_q36:=F_q36.binds (ps:=["_law_script","_law_tree","_law_ones"]) fun _ _ _ _ _ _ us hl => us3 (fun _ _ _ => rfl) us hl
  have F_q56:=aI (st:=i7) l_q56 c_q56 k_q56
  have b_q56:=F_q56.binds (ps:=["_law_tree","_law_asks","_law_keep","_law_tie"]) fun _ _ _ _ _ _ us hl => us4 (fun _ _ _ _ => rfl) us hl
  have F_q37:=aI (st:=i9) l_q37 c_q37 k_q37
  have b_q37:=F_q37.binds (ps:=["_law_tree","_law_asks","_law_ones"]) fun _ _ _ _ _ _ us hl => us3 (fun _ _ _ => rfl) us hl
  have F_law:=aI (st:=f_) l_law c_law k_law
  have b_law:=F_law.binds (ps:=["_law_script"]) fun _ _ _ _ _ _ us hl => us1 (fun _ => rfl) us hl
  have T:Txt K mg ⟨f_q29,_,f_q16,_,f_q2,_,f_q11,_,f_q5,_,f_q10,_,f_q26,_,f_q22,_,f_q45,_,f_q7,_,f_q25,_,f_q59,_,f_q60,_,f_q51,_,f_q61,_,f_q8,_,f_q53,_,f_q13,_,f_q52,_,f_q41,_,f_q9,_,f_q49,_,f_q18,_,f_q39,_,f_q58,_,f_q15,_,f_q32,_,f_q27,_,f_q4,_,f_q31,_,f_q50,_,f_q24,_,f_q23,_,f_q6,_,f_q3,_,f_q40,_,f_q0,_,f_q35,_,f_q12,_,f_q1,_,f_q14,_,f_q28,_,f_q47,_,f_q48,_,f_q30,_,f_q17,_,f_q38,_,f_q46,_,f_q62,_,f_q57,_,f_q54,_,f_q55,_,f_q36,_,f_q56,_,f_q37,_,fa,_⟩:=⟨F_q29,b_q29,k_q29,PySem.W.mg_of X G a_q29,F_q16,b_q16,k_q16,PySem.W.mg_of X G a_q16,F_q2,b_q2,k_q2,PySem.W.mg_of X G a_q2,F_q11,b_q11,k_q11,PySem.W.mg_of X G a_q11,F_q5,b_q5,k_q5,PySem.W.mg_of X G a_q5,F_q10,b_q10,k_q10,PySem.W.mg_of X G a_q10,F_q26,b_q26,k_q26,PySem.W.mg_of X G a_q26,F_q22,b_q22,k_q22,PySem.W.mg_of X G a_q22,F_q45,b_q45,k_q45,PySem.W.mg_of X G a_q45,F_q7,b_q7,k_q7,PySem.W.mg_of X G a_q7,F_q25,b_q25,k_q25,PySem.W.mg_of X G a_q25,F_q59,b_q59,k_q59,PySem.W.mg_of X G a_q59,F_q60,b_q60,k_q60,PySem.W.mg_of X G a_q60,F_q51,b_q51,k_q51,PySem.W.mg_of X G a_q51,F_q61,b_q61,k_q61,PySem.W.mg_of X G a_q61,F_q8,b_q8,k_q8,PySem.W.mg_of X G a_q8,F_q53,b_q53,k_q53,PySem.W.mg_of X G a_q53,F_q13,b_q13,k_q13,PySem.W.mg_of X G a_q13,F_q52,b_q52,k_q52,PySem.W.mg_of X G a_q52,F_q41,b_q41,k_q41,PySem.W.mg_of X G a_q41,F_q9,b_q9,k_q9,PySem.W.mg_of X G a_q9,F_q49,b_q49,k_q49,PySem.W.mg_of X G a_q49,F_q18,b_q18,k_q18,PySem.W.mg_of X G a_q18,F_q39,b_q39,k_q39,PySem.W.mg_of X G a_q39,F_q58,b_q58,k_q58,PySem.W.mg_of X G a_q58,F_q15,b_q15,k_q15,PySem.W.mg_of X G a_q15,F_q32,b_q32,k_q32,PySem.W.mg_of X G a_q32,F_q27,b_q27,k_q27,PySem.W.mg_of X G a_q27,F_q4,b_q4,k_q4,PySem.W.mg_of X G a_q4,F_q31,b_q31,k_q31,PySem.W.mg_of X G a_q31,F_q50,b_q50,k_q50,PySem.W.mg_of X G a_q50,F_q24,b_q24,k_q24,PySem.W.mg_of X G a_q24,F_q23,b_q23,k_q23,PySem.W.mg_of X G a_q23,F_q6,b_q6,k_q6,PySem.W.mg_of X G a_q6,F_q3,b_q3,k_q3,PySem.W.mg_of X G a_q3,F_q40,b_q40,k_q40,PySem.W.mg_of X G a_q40,F_q0,b_q0,k_q0,PySem.W.mg_of X G a_q0,F_q35,b_q35,k_q35,PySem.W.mg_of X G a_q35,F_q12,b_q12,k_q12,PySem.W.mg_of X G a_q12,F_q1,b_q1,k_q1,PySem.W.mg_of X G a_q1,F_q14,b_q14,k_q14,PySem.W.mg_of X G a_q14,F_q28,b_q28,k_q28,PySem.W.mg_of X G a_q28,F_q47,b_q47,k_q47,PySem.W.mg_of X G a_q47,F_q48,b_q48,k_q48,PySem.W.mg_of X G a_q48,F_q30,b_q30,k_q30,PySem.W.mg_of X G a_q30,F_q17,b_q17,k_q17,PySem.W.mg_of X G a_q17,F_q38,b_q38,k_q38,PySem.W.mg_of X G a_q38,F_q46,b_q46,k_q46,PySem.W.mg_of X G a_q46,F_q62,b_q62,k_q62,PySem.W.mg_of X G a_q62,F_q57,b_q57,k_q57,PySem.W.mg_of X G a_q57,F_q54,b_q54,k_q54,PySem.W.mg_of X G a_q54,F_q55,b_q55,k_q55,PySem.W.mg_of X G a_q55,F_q36,b_q36,k_q36,PySem.W.mg_of X G a_q36,F_q56,b_q56,k_q56,PySem.W.mg_of X G a_q56,F_q37,b_q37,k_q37,PySem.W.mg_of X G a_q37,F_law,b_law,k_law,PySem.W.mg_of X G a_law,PySem.W.mg_none_of X G z_all,PySem.W.mg_none_of X G z_any,PySem.W.mg_none_of X G z_bool,PySem.W.mg_none_of X G z_enumerate,PySem.W.mg_none_of X G z_int,PySem.W.mg_none_of X G z_isinstance,PySem.W.mg_none_of X G z_len,PySem.W.mg_none_of X G z_list,PySem.W.mg_none_of X G z_max,PySem.W.mg_none_of X G z_min,PySem.W.mg_none_of X G z_range,PySem.W.mg_none_of X G z_sorted,PySem.W.mg_none_of X G z_sum,PySem.W.mg_none_of X G z_tuple,PySem.W.mg_none_of X G z_zip,⟨_,PySem.W.mg_of X G c_MOST_TIES⟩,⟨_,PySem.W.mg_of X G c_MOST_ROOM⟩,⟨_,PySem.W.mg_of X G c_MOST_ASKS⟩,⟨_,PySem.W.mg_of X G c_MOST_SIZE⟩,⟨_,PySem.W.mg_of X G c_MOST_WORTH⟩⟩
  exact ⟨PySem.W.fnOf "law" "law" (au f_) (ar f_) (af f_) .none kV_law dc_law pm_law an_law cd_law ct_law,fun s v => .of_eq rfl,fun base _ _ => (wq T).imp fun _ _ _ _ h => qg h⟩
theorem walk {l:PySem.W.OpenLaw} {q:Program} {loose:List Str} {XP:(Str → Option Value) → Heap → Prop} {YP:World → Heap → Prop} {d:DefRec} {K:Params → PySem.W.Frag} (hn:l.most = some 63) (hdf:d.params.defaults = [])
    (hY:∀ (w:World) (h:Heap),YP w h → (K w.params).In h)
    (F:∀ (w:World) (mg:Str → Option Value) (fa:Addr) (h:Heap),(K w.params).In h → h.Ns mainGlobals mg → mg d.name = some (.ref fa) →
      ∃ fd:FuncData,(∀ (s:Shared) (u:Value),BindsTo s fd ⟨[u],[]⟩ [("_law_script",u)]) ∧ ∀ base:Heap,(K w.params).In base → base.Ns mainGlobals mg → FnOk l.prog w (K w.params) mg base CX0 14 fa fd ["_law_script"] (nS (K w.params))) :
    PySem.W.WalkO q loose XP YP l.row.toRowW d [] (fun f vs => PySem.call f vs) :=
  L2.tp (n:=63) (k:=14) (x:="_law_script") (CX:=fun _ => CX0) (sp:=fun w => nS (K w.params)) hn (by decide) hdf ⟨rfl,by decide,by decide,rfl⟩ hY F (fun _ _ a ns hl hO hS => ⟨a,ns,rfl,hO,hS,hl,fun _ => rfl⟩) fun _ _ _ _ _ z => z
end K43
open PySem PySem.W PyProof.Rows
set_option maxRecDepth 100000 in
theorem PySem.Challenge.cw_treeasks_k43_whole_prices_show_the_share_holds : PySem.Challenge.rw_treeasks_k43_whole_prices_show_the_share.Holds := by
  w_on; o_law; k_head; (case hw => w_witness2)
  k_fill
  refine K43.walk (l:=PySem.Challenge.rw_treeasks_k43_whole_prices_show_the_share) rfl rfl (fun w h Y => PySem.W.kIn_of Y) ?F
  case F =>
    intro w mg fa h KX G hmg
    refine' K43.all_mk KX G hmg ?a_q29 ?l_q29 ?c_q29 ?k_q29 ?a_q16 ?l_q16 ?c_q16 ?k_q16 ?a_q2 ?l_q2 ?c_q2 ?k_q2 ?a_q11 ?l_q11 ?c_q11 ?k_q11 ?a_q5 ?l_q5 ?c_q5 ?k_q5 ?a_q10 ?l_q10 ?c_q10 ?k_q10 ?a_q26 ?l_q26 ?c_q26 ?k_q26 ?a_q22 ?l_q22 ?c_q22 ?k_q22 ?a_q45 ?l_q45 ?c_q45 ?k_q45 ?a_q7 ?l_q7 ?c_q7 ?k_q7 ?a_q25 ?l_q25 ?c_q25 ?k_q25 ?a_q59 ?l_q59 ?c_q59 ?k_q59 ?a_q60 ?l_q60 ?c_q60 ?k_q60 ?a_q51 ?l_q51 ?c_q51 ?k_q51 ?a_q61 ?l_q61 ?c_q61 ?k_q61 ?a_q8 ?l_q8 ?c_q8 ?k_q8 ?a_q53 ?l_q53 ?c_q53 ?k_q53 ?a_q13 ?l_q13 ?c_q13 ?k_q13 ?a_q52 ?l_q52 ?c_q52 ?k_q52 ?a_q41 ?l_q41 ?c_q41 ?k_q41 ?a_q9 ?l_q9 ?c_q9 ?k_q9 ?a_q49 ?l_q49 ?c_q49 ?k_q49 ?a_q18 ?l_q18 ?c_q18 ?k_q18 ?a_q39 ?l_q39 ?c_q39 ?k_q39 ?a_q58 ?l_q58 ?c_q58 ?k_q58 ?a_q15 ?l_q15 ?c_q15 ?k_q15 ?a_q32 ?l_q32 ?c_q32 ?k_q32 ?a_q27 ?l_q27 ?c_q27 ?k_q27 ?a_q4 ?l_q4 ?c_q4 ?k_q4 ?a_q31 ?l_q31 ?c_q31 ?k_q31 ?a_q50 ?l_q50 ?c_q50 ?k_q50 ?a_q24 ?l_q24 ?c_q24 ?k_q24 ?a_q23 ?l_q23 ?c_q23 ?k_q23 ?a_q6 ?l_q6 ?c_q6 ?k_q6 ?a_q3 ?l_q3 ?c_q3 ?k_q3 ?a_q40 ?l_q40 ?c_q40 ?k_q40 ?a_q0 ?l_q0 ?c_q0 ?k_q0 ?a_q35 ?l_q35 ?c_q35 ?k_q35 ?a_q12 ?l_q12 ?c_q12 ?k_q12 ?a_q1 ?l_q1 ?c_q1 ?k_q1 ?a_q14 ?l_q14 ?c_q14 ?k_q14 ?a_q28 ?l_q28 ?c_q28 ?k_q28 ?a_q47 ?l_q47 ?c_q47 ?k_q47 ?a_q48 ?l_q48 ?c_q48 ?k_q48 ?a_q30 ?l_q30 ?c_q30 ?k_q30 ?a_q17 ?l_q17 ?c_q17 ?k_q17 ?a_q38 ?l_q38 ?c_q38 ?k_q38 ?a_q46 ?l_q46 ?c_q46 ?k_q46 ?a_q62 ?l_q62 ?c_q62 ?k_q62 ?a_q57 ?l_q57 ?c_q57 ?k_q57 ?a_q54 ?l_q54 ?c_q54 ?k_q54 ?a_q55 ?l_q55 ?c_q55 ?k_q55 ?a_q36 ?l_q36 ?c_q36 ?k_q36 ?a_q56 ?l_q56 ?c_q56 ?k_q56 ?a_q37 ?l_q37 ?c_q37 ?k_q37 ?a_law ?l_law ?c_law ?k_law ?c_MOST_TIES ?c_MOST_ROOM ?c_MOST_ASKS ?c_MOST_SIZE ?c_MOST_WORTH ?z_all ?z_any ?z_bool ?z_enumerate ?z_int ?z_isinstance ?z_len ?z_list ?z_max ?z_min ?z_range ?z_sorted ?z_sum ?z_tuple ?z_zip
    (case a_q29 => k_is)
    (case l_q29 => k_is)
    (case c_q29 => k_is)
    (case k_q29 => k_is)
    (case a_q16 => k_is)
    (case l_q16 => k_is)
    (case c_q16 => k_is)
    (case k_q16 => k_is)
    (case a_q2 => k_is)
    (case l_q2 => k_is)
    (case c_q2 => k_is)
    (case k_q2 => k_is)
    (case a_q11 => k_is)
    (case l_q11 => k_is)
    (case c_q11 => k_is)
    (case k_q11 => k_is)
    (case a_q5 => k_is)
    (case l_q5 => k_is)
    (case c_q5 => k_is)
    (case k_q5 => k_is)
    (case a_q10 => k_is)
    (case l_q10 => k_is)
    (case c_q10 => k_is)
    (case k_q10 => k_is)
    (case a_q26 => k_is)
    (case l_q26 => k_is)
    (case c_q26 => k_is)
    (case k_q26 => k_is)
    (case a_q22 => k_is)
    (case l_q22 => k_is)
    (case c_q22 => k_is)
    (case k_q22 => k_is)
    (case a_q45 => k_is)
    (case l_q45 => k_is)
    (case c_q45 => k_is)
    (case k_q45 => k_is)
    (case a_q7 => k_is)
    (case l_q7 => k_is)
    (case c_q7 => k_is)
    (case k_q7 => k_is)
    (case a_q25 => k_is)
    (case l_q25 => k_is)
    (case c_q25 => k_is)
    (case k_q25 => k_is)
    (case a_q59 => k_is)
    (case l_q59 => k_is)
    (case c_q59 => k_is)
    (case k_q59 => k_is)
    (case a_q60 => k_is)
    (case l_q60 => k_is)
    (case c_q60 => k_is)
    (case k_q60 => k_is)
    (case a_q51 => k_is)
    (case l_q51 => k_is)
    (case c_q51 => k_is)
    (case k_q51 => k_is)
    (case a_q61 => k_is)
    (case l_q61 => k_is)
    (case c_q61 => k_is)
    (case k_q61 => k_is)
    (case a_q8 => k_is)
    (case l_q8 => k_is)
    (case c_q8 => k_is)
    (case k_q8 => k_is)
    (case a_q53 => k_is)
    (case l_q53 => k_is)
    (case c_q53 => k_is)
    (case k_q53 => k_is)
    (case a_q13 => k_is)
    (case l_q13 => k_is)
    (case c_q13 => k_is)
    (case k_q13 => k_is)
    (case a_q52 => k_is)
    (case l_q52 => k_is)
    (case c_q52 => k_is)
    (case k_q52 => k_is)
    (case a_q41 => k_is)
    (case l_q41 => k_is)
    (case c_q41 => k_is)
    (case k_q41 => k_is)
    (case a_q9 => k_is)
    (case l_q9 => k_is)
    (case c_q9 => k_is)
    (case k_q9 => k_is)
    (case a_q49 => k_is)
    (case l_q49 => k_is)
    (case c_q49 => k_is)
    (case k_q49 => k_is)
    (case a_q18 => k_is)
    (case l_q18 => k_is)
    (case c_q18 => k_is)
    (case k_q18 => k_is)
    (case a_q39 => k_is)
    (case l_q39 => k_is)
    (case c_q39 => k_is)
    (case k_q39 => k_is)
    (case a_q58 => k_is)
    (case l_q58 => k_is)
    (case c_q58 => k_is)
    (case k_q58 => k_is)
    (case a_q15 => k_is)
    (case l_q15 => k_is)
    (case c_q15 => k_is)
    (case k_q15 => k_is)
    (case a_q32 => k_is)
    (case l_q32 => k_is)
    (case c_q32 => k_is)
    (case k_q32 => k_is)
    (case a_q27 => k_is)
    (case l_q27 => k_is)
    (case c_q27 => k_is)
    (case k_q27 => k_is)
    (case a_q4 => k_is)
    (case l_q4 => k_is)
    (case c_q4 => k_is)
    (case k_q4 => k_is)
    (case a_q31 => k_is)
    (case l_q31 => k_is)
    (case c_q31 => k_is)
    (case k_q31 => k_is)
    (case a_q50 => k_is)
    (case l_q50 => k_is)
    (case c_q50 => k_is)
    (case k_q50 => k_is)
    (case a_q24 => k_is)
    (case l_q24 => k_is)
    (case c_q24 => k_is)
    (case k_q24 => k_is)
    (case a_q23 => k_is)
    (case l_q23 => k_is)
    (case c_q23 => k_is)
    (case k_q23 => k_is)
    (case a_q6 => k_is)
    (case l_q6 => k_is)
    (case c_q6 => k_is)
    (case k_q6 => k_is)
    (case a_q3 => k_is)
    (case l_q3 => k_is)
    (case c_q3 => k_is)
    (case k_q3 => k_is)
    (case a_q40 => k_is)
    (case l_q40 => k_is)
    (case c_q40 => k_is)
    (case k_q40 => k_is)
    (case a_q0 => k_is)
    (case l_q0 => k_is)
    (case c_q0 => k_is)
    (case k_q0 => k_is)
    (case a_q35 => k_is)
    (case l_q35 => k_is)
    (case c_q35 => k_is)
    (case k_q35 => k_is)
    (case a_q12 => k_is)
    (case l_q12 => k_is)
    (case c_q12 => k_is)
    (case k_q12 => k_is)
    (case a_q1 => k_is)
    (case l_q1 => k_is)
    (case c_q1 => k_is)
    (case k_q1 => k_is)
    (case a_q14 => k_is)
    (case l_q14 => k_is)
    (case c_q14 => k_is)
    (case k_q14 => k_is)
    (case a_q28 => k_is)
    (case l_q28 => k_is)
    (case c_q28 => k_is)
    (case k_q28 => k_is)
    (case a_q47 => k_is)
    (case l_q47 => k_is)
    (case c_q47 => k_is)
    (case k_q47 => k_is)
    (case a_q48 => k_is)
    (case l_q48 => k_is)
    (case c_q48 => k_is)
    (case k_q48 => k_is)
    (case a_q30 => k_is)
    (case l_q30 => k_is)
    (case c_q30 => k_is)
    (case k_q30 => k_is)
    (case a_q17 => k_is)
    (case l_q17 => k_is)
    (case c_q17 => k_is)
    (case k_q17 => k_is)
    (case a_q38 => k_is)
    (case l_q38 => k_is)
    (case c_q38 => k_is)
    (case k_q38 => k_is)
    (case a_q46 => k_is)
    (case l_q46 => k_is)
    (case c_q46 => k_is)
    (case k_q46 => k_is)
    (case a_q62 => k_is)
    (case l_q62 => k_is)
    (case c_q62 => k_is)
    (case k_q62 => k_is)
    (case a_q57 => k_is)
    (case l_q57 => k_is)
    (case c_q57 => k_is)
    (case k_q57 => k_is)
    (case a_q54 => k_is)
    (case l_q54 => k_is)
    (case c_q54 => k_is)
    (case k_q54 => k_is)
    (case a_q55 => k_is)
    (case l_q55 => k_is)
    (case c_q55 => k_is)
    (case k_q55 => k_is)
    (case a_q36 => k_is)
    (case l_q36 => k_is)
    (case c_q36 => k_is)
    (case k_q36 => k_is)
    (case a_q56 => k_is)
    (case l_q56 => k_is)
    (case c_q56 => k_is)
    (case k_q56 => k_is)
    (case a_q37 => k_is)
    (case l_q37 => k_is)
    (case c_q37 => k_is)
    (case k_q37 => k_is)
    (case a_law => k_is)
    (case l_law => k_is)
    (case c_law => k_is)
    (case k_law => k_is)
    (case c_MOST_TIES => k_is)
    (case c_MOST_ROOM => k_is)
    (case c_MOST_ASKS => k_is)
    (case c_MOST_SIZE => k_is)
    (case c_MOST_WORTH => k_is)
    (case z_all => k_is)
    (case z_any => k_is)
    (case z_bool => k_is)
    (case z_enumerate => k_is)
    (case z_int => k_is)
    (case z_isinstance => k_is)
    (case z_len => k_is)
    (case z_list => k_is)
    (case z_max => k_is)
    (case z_min => k_is)
    (case z_range => k_is)
    (case z_sorted => k_is)
    (case z_sum => k_is)
    (case z_tuple => k_is)
    (case z_zip => k_is)
end
