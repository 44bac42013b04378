import PyProof.Rows.All
import Wide.All
import OpenK.AllK
import Wide.FinOn
import Lean
import PyProof.EqAt
import PyProof.EqKinds
import PyProof.TupleCall
import PySem.Challenge.RW_framerooms_k26_ways_in
set_option Elab.async false
set_option linter.all false
set_option maxRecDepth 100000
set_option maxHeartbeats 4000000
open PySem.W (Frag callWith_K cellsFrom_some emptyDict fnOf handedIn instObj kia_one kitOne kitx_dict kitx_list lookIn methodCall_KW methodObj plainGet_of takerIn)
open PySem.F (args_dict_get_3 entry_dict_get plainAttrs_dict plainAttrs_list slot_dict_get slot_dict_items slot_dict_pop slot_dict_setdefault slot_dict_values slot_list_extend type_dict_items type_list_extend)
open PySem in
abbrev aP:=List (Addr×Obj)
open PySem in
abbrev ay:=List (Option Nat)
open PySem in
abbrev aI:=List Value
open PySem in
abbrev aN:=Option Value
open PySem in
abbrev aO:=List Str
open PySem in
abbrev aY:=List Addr
open PySem in
abbrev b8:=List Expr
namespace L2
open PySem PySem.Spec PyProof.Rows
def jp(s:Stmt)(j:Nat):Stmt:=match s with
 | .ClassDef _ _ _ body _ _ _ _ _ _ _=>body.getD j (.Pass ⟨0,0,0,0⟩)
 |_=> .Pass ⟨0,0,0,0⟩
def kW(s:Stmt):Arguments:=match s with
 | .FunctionDef _ a _ _ _ _ _ _ _ _=>a
 |_=>{posonlyargs:=[],args:=[],vararg:=none,kwonlyargs:=[],kw_defaults:=[],kwarg:=none,defaults:=[]}
def iR(s:Stmt):List Stmt:=match s with
 | .FunctionDef _ _ b _ _ _ _ _ _ _=>b
 |_=>[]
def av(s:Stmt):Scope:=match s with
 | .FunctionDef _ _ _ _ _ _ sc _ _ _=>sc
 |_=>{kind:= .function,names:=[],isGenerator:=false,isCoroutine:=false}
end L2
namespace My
open PySem L2 PyProof.Rows
def top(i:Nat):Stmt:=PySem.Challenge.pw_framerooms_k26_ways_in.main.body.getD i (.Pass ⟨0,0,0,0⟩)
abbrev ij:Stmt:=(top 16)
abbrev jd:Stmt:=(top 17)
abbrev kg:Stmt:=(top 18)
abbrev je:Stmt:=(top 19)
abbrev jZ:Stmt:=(top 20)
abbrev ke:Stmt:=(top 22)
abbrev fQ:Stmt:=(top 23)
abbrev ia:Stmt:=(top 24)
abbrev jg:Stmt:=(top 25)
abbrev i3:Stmt:=(top 26)
abbrev cL:Stmt:=(jp (top 30) 0)
abbrev d_:Stmt:=(jp (top 30) 1)
abbrev dF:Stmt:=(jp (top 30) 2)
abbrev eU:Stmt:=(jp (top 30) 3)
abbrev dQ:Stmt:=(jp (top 30) 4)
abbrev gq:Stmt:=(jp (top 30) 5)
abbrev cK:Stmt:=(jp (top 30) 7)
abbrev dO:Stmt:=(jp (top 30) 8)
abbrev cN:Stmt:=(jp (top 30) 9)
abbrev eD:Stmt:=(jp (top 30) 10)
abbrev cy:Stmt:=(jp (top 30) 11)
abbrev ck:Stmt:=(jp (top 30) 12)
abbrev bU:Stmt:=(jp (top 30) 13)
abbrev bP:Stmt:=(jp (top 30) 14)
abbrev bQ:Stmt:=(jp (top 30) 15)
abbrev dj:Stmt:=(jp (top 34) 0)
abbrev fP:Stmt:=(jp (top 34) 1)
abbrev hV:Stmt:=(jp (top 34) 3)
abbrev eX:Stmt:=(jp (top 34) 5)
abbrev fM:Stmt:=(jp (top 34) 6)
abbrev fT:Stmt:=(jp (top 34) 7)
abbrev df:Stmt:=(jp (top 34) 9)
abbrev ff:Stmt:=(jp (top 34) 10)
abbrev dJ:Stmt:=(jp (top 34) 11)
abbrev cD:Stmt:=(jp (top 34) 12)
abbrev eJ:Stmt:=(jp (top 34) 14)
abbrev cY:Stmt:=(jp (top 34) 15)
abbrev cS:Stmt:=(jp (top 34) 16)
abbrev ig:Stmt:=(top 35)
abbrev g_:Stmt:=(top 37)
abbrev jm:Stmt:=(top 38)
abbrev h9:Stmt:=(top 39)
abbrev fU:Stmt:=(top 40)
abbrev fZ:Stmt:=(top 41)
abbrev i9:Stmt:=(top 42)
abbrev dM:Stmt:=(top 43)
abbrev g7:Stmt:=(top 44)
abbrev fX:Stmt:=(top 45)
abbrev fN:Stmt:=(top 46)
abbrev fL:Stmt:=(top 47)
abbrev eE:Stmt:=(top 48)
abbrev di:Stmt:=(top 49)
abbrev gh:Stmt:=(top 50)
abbrev h_:Stmt:=(top 51)
abbrev gw:Stmt:=(top 52)
abbrev fR:Stmt:=(top 53)
abbrev gp:Stmt:=(top 54)
abbrev gy:Stmt:=(top 55)
abbrev gx:Stmt:=(top 56)
abbrev zJ:Stmt:=(top 57)
section hd
open PySem PySem.W PySem.Calls PyProof.Rows
noncomputable section
abbrev aD(x:String)(n:Nat):Value:=Value.str (Str.ofString x) n
abbrev d9(l:Array Value):Obj:={cls:=Value.type "tuple",data:=Data.seq l}
abbrev yQ(l:Array Value):Obj:={cls:=Value.none,data:=Data.fields l}
abbrev vK(l:Array Value):Obj:={cls:=Value.type "code",data:=Data.fields l}
abbrev CP(a b:String)(n l r u:Nat):Obj:=vK #[aD a n,aD b (n+1),aD "/claim/cut.py" (n+2),.int l 0,.int 0 0,.int 0 0,.int 0 0,.int 0 0,.ref r,.bool false,.int 181 0,.ref (r+1),.none,.none,.none,.none,.int u 0,.int l 0,aD "/claim/cut.py" (u+1)]
abbrev gC(a b:String)(n l p r u:Nat):Obj:=vK #[aD a n,aD b (n+1),aD "/claim/cut.py" (n+2),.int l 0,.int p 0,.int 0 0,.int 0 0,.int 3 0,.ref r,.bool true,.int 181 0,.ref (r+1),.none,.ref (r+2),.ref (r+3),.ref (r+4),.int u 0,.int l 0,aD "/claim/cut.py" (u+1)]
abbrev dG(n q:String)(s:Stmt)(m:String)(k:Nat)(c:Addr):Obj:={cls:=Value.type "function",data:=Data.func {name:=Str.ofString n,qualname:=Str.ofString q,params:=L2.kW s,body:= .stmts (L2.iR s),scope:=L2.av s,globals:=3,closure:=[],defaults:=Value.none,kwdefaults:=Value.none,pyModule:=aD m k,code:=Value.ref c}}
abbrev dI(n q:String)(s:Stmt):Obj:={cls:=Value.none,data:=Data.func {name:=Str.ofString n,qualname:=Str.ofString q,params:=L2.kW s,body:= .stmts (L2.iR s),scope:=L2.av s,globals:=0,closure:=[],defaults:=Value.none,kwdefaults:=Value.none}}
variable(P:Params)
abbrev aE(P:Params)(x:String)(n:Nat)(v:Value):DictEntry:={hash:=PyData.keyHash P (Str.ofString x),key:=Value.str (Str.ofString x) n,val:=v}
abbrev ag:Obj:=d9 #[]
abbrev aJ:Obj:=yQ #[]
abbrev FJ:Obj:=CP "<module>" "<module>" 182 1 11 185
abbrev FH:Obj:={cls:= .type "frame",slots:= #[some (.ref 13),some (.ref 3),some (.ref 3),none,some (aD "__main__" 164),none,some (.ref 0)]}
abbrev Kn:Obj:={cls:= .type "dict",data:=Data.dict #[aE P "__name__" 165 (aD "framerooms.errors" 194),aE P "__doc__" 166 (.none),aE P "__package__" 167 (.none),aE P "__loader__" 168 (.builtin ("__main__.__loader__#opa" ++ "que")),aE P "__spec__" 169 (.none),aE P "__annotations__" 170 (.ref 6),aE P "__builtins__" 171 (.ref 4),aE P "__file__" 173 (aD "/claim/cut.py" 172),aE P "__cached__" 174 (.none),aE P "_wall" 193 (.ref 21),aE P "RoomError" 221 (.ref 38),aE P "NoNumber" 246 (.ref 58),aE P "NoValue" 271 (.ref 77),aE P "NoFrame" 296 (.ref 96),aE P "Gone" 323 (.ref 115),aE P "Ground" 346 (.ref 134),aE P "TooMany" 371 (.ref 153),aE P "Full" 398 (.ref 172)] 18}
abbrev VJ:Obj:=yQ #[.int 1 0,.int 0 0,.ref 20,.int 5 0,.int 0 0,.ref 27,.int 9 0,.int 0 0,.ref 47,.int 14 0,.int 0 0,.ref 66,.int 19 0,.int 0 0,.ref 85,.int 24 0,.int 0 0,.ref 104,.int 30 0,.int 0 0,.ref 123,.int 34 0,.int 0 0,.ref 142,.int 39 0,.int 0 0,.ref 161]
abbrev F_:Obj:=d9 #[aD "k" 190]
abbrev KA:Obj:=dI "_wall" "_wall" (top 0)
abbrev Ke:Obj:=gC "_wall" "_wall" 187 1 1 15 191
abbrev Hh:Obj:=dG "_wall" "_wall" (top 0) "__main__" 164 20
abbrev GV:Obj:=d9 #[.type "ValueError"]
abbrev cP:Obj:={cls:= .type "builtin_function_or_method",data:=Data.fields #[.builtin "type.__prepare__",.type "type"]}
abbrev Lq:Obj:={cls:= .type "dict",data:=Data.dict #[aE P "__module__" 203 (aD "framerooms.errors" 194),aE P "__qualname__" 205 (aD "RoomError" 204),aE P "__firstlineno__" 207 (.int 5 206),aE P "__init__" 215 (.ref 35),aE P "__static_attributes__" 216 (.ref 36)] 5}
abbrev MR:Obj:=yQ #[.int 7 0,.int 4 0,.ref 34]
abbrev LP:Obj:=CP "RoomError" "RoomError" 198 5 25 201
abbrev L4:Obj:={cls:= .type "frame",slots:= #[some (.ref 27),some (.ref 3),some (.ref 24),none,some (aD "framerooms.errors" 194),none,some (.ref 0)]}
abbrev JQ:Obj:=d9 #[aD "self" 211,aD "text" 212]
abbrev L0:Obj:=dI "__init__" "RoomError.__init__" (jp (top 2) 0)
abbrev Jr:Obj:=gC "__init__" "RoomError.__init__" 208 7 2 29 213
abbrev HP:Obj:=dG "__init__" "RoomError.__init__" (jp (top 2) 0) "framerooms.errors" 194 34
abbrev Jh:Obj:={cls:= .type "dict",data:=Data.dict #[aE P "__module__" 203 (aD "framerooms.errors" 194),aE P "__firstlineno__" 207 (.int 5 206),aE P "__init__" 215 (.ref 35),aE P "__static_attributes__" 216 (.ref 36),aE P "__weakref__" 218 (.ref 39),aE P "__doc__" 219 (.none)] 3}
abbrev aen:Obj:={cls:= .type "type",data:=Data.cls {name:=Str.ofString "RoomError",bases:=[.type "ValueError"],mro:=[.ref 38,.type "ValueError",.type "Exception",.type "BaseException",.type "object"],ns:=37,qualname:=Str.ofString "RoomError",subclasses:=[.ref 58,.ref 77,.ref 96,.ref 115,.ref 134,.ref 153,.ref 172]},slots:= #[some (.ref 22),none,some (aD "RoomError" 196),some (aD "RoomError" 204),some (.builtin "ValueError.__new__"),some (.bool true)]}
abbrev IQ:Obj:={cls:= .type "getset_descriptor",data:=Data.fields #[aD "__weakref__" 217,.ref 38,.builtin "ExceptionGroup.__weakref__",.none]}
abbrev Mf:Obj:={cls:= .type "super",data:=Data.fields #[.ref 38,.ref 38,.ref 38]}
abbrev MV:Obj:={cls:= .type "builtin_function_or_method",data:=Data.fields #[.builtin "object.__init_subclass__",.ref 38]}
abbrev cA:Obj:=d9 #[.ref 38]
abbrev Ml:Obj:={cls:= .type "dict",data:=Data.dict #[aE P "__module__" 229 (aD "framerooms.errors" 194),aE P "__qualname__" 231 (aD "NoNumber" 230),aE P "__firstlineno__" 233 (.int 9 232),aE P "__init__" 241 (.ref 55),aE P "__static_attributes__" 243 (.ref 56)] 5}
abbrev Na:Obj:=yQ #[.int 11 0,.int 4 0,.ref 54]
abbrev M_:Obj:=CP "NoNumber" "NoNumber" 224 9 45 227
abbrev LN:Obj:={cls:= .type "frame",slots:= #[some (.ref 47),some (.ref 3),some (.ref 44),none,some (aD "framerooms.errors" 194),none,some (.ref 0)]}
abbrev FE:Obj:=d9 #[aD "self" 237,aD "found" 238]
abbrev KG:Obj:=dI "__init__" "NoNumber.__init__" (jp (top 3) 0)
abbrev IH:Obj:=gC "__init__" "NoNumber.__init__" 234 11 2 49 239
abbrev Hk:Obj:=dG "__init__" "NoNumber.__init__" (jp (top 3) 0) "framerooms.errors" 194 54
abbrev G9:Obj:=d9 #[aD "found" 242]
abbrev JE:Obj:={cls:= .type "dict",data:=Data.dict #[aE P "__module__" 229 (aD "framerooms.errors" 194),aE P "__firstlineno__" 233 (.int 9 232),aE P "__init__" 241 (.ref 55),aE P "__static_attributes__" 243 (.ref 56),aE P "__doc__" 244 (.none)] 2}
abbrev Jo:Obj:={cls:= .type "type",data:=Data.cls {name:=Str.ofString "NoNumber",bases:=[.ref 38],mro:=[.ref 58,.ref 38,.type "ValueError",.type "Exception",.type "BaseException",.type "object"],ns:=57,qualname:=Str.ofString "NoNumber"},slots:= #[some (.ref 42),none,some (aD "NoNumber" 222),some (aD "NoNumber" 230),some (.builtin "ValueError.__new__"),some (.bool true)]}
abbrev Ll:Obj:={cls:= .type "super",data:=Data.fields #[.ref 58,.ref 58,.ref 58]}
abbrev Nb:Obj:={cls:= .type "builtin_function_or_method",data:=Data.fields #[.builtin "object.__init_subclass__",.ref 58]}
abbrev Ky:Obj:={cls:= .type "dict",data:=Data.dict #[aE P "__module__" 254 (aD "framerooms.errors" 194),aE P "__qualname__" 256 (aD "NoValue" 255),aE P "__firstlineno__" 258 (.int 14 257),aE P "__init__" 266 (.ref 74),aE P "__static_attributes__" 268 (.ref 75)] 5}
abbrev LJ:Obj:=yQ #[.int 16 0,.int 4 0,.ref 73]
abbrev MX:Obj:=CP "NoValue" "NoValue" 249 14 64 252
abbrev KU:Obj:={cls:= .type "frame",slots:= #[some (.ref 66),some (.ref 3),some (.ref 63),none,some (aD "framerooms.errors" 194),none,some (.ref 0)]}
abbrev J4:Obj:=d9 #[aD "self" 262,aD "found" 263]
abbrev LG:Obj:=dI "__init__" "NoValue.__init__" (jp (top 4) 0)
abbrev Hl:Obj:=gC "__init__" "NoValue.__init__" 259 16 2 68 264
abbrev IP:Obj:=dG "__init__" "NoValue.__init__" (jp (top 4) 0) "framerooms.errors" 194 73
abbrev Gs:Obj:=d9 #[aD "found" 267]
abbrev GF:Obj:={cls:= .type "dict",data:=Data.dict #[aE P "__module__" 254 (aD "framerooms.errors" 194),aE P "__firstlineno__" 258 (.int 14 257),aE P "__init__" 266 (.ref 74),aE P "__static_attributes__" 268 (.ref 75),aE P "__doc__" 269 (.none)] 2}
abbrev GW:Obj:={cls:= .type "type",data:=Data.cls {name:=Str.ofString "NoValue",bases:=[.ref 38],mro:=[.ref 77,.ref 38,.type "ValueError",.type "Exception",.type "BaseException",.type "object"],ns:=76,qualname:=Str.ofString "NoValue"},slots:= #[some (.ref 61),none,some (aD "NoValue" 247),some (aD "NoValue" 255),some (.builtin "ValueError.__new__"),some (.bool true)]}
abbrev Ls:Obj:={cls:= .type "super",data:=Data.fields #[.ref 77,.ref 77,.ref 77]}
abbrev MB:Obj:={cls:= .type "builtin_function_or_method",data:=Data.fields #[.builtin "object.__init_subclass__",.ref 77]}
abbrev K0:Obj:={cls:= .type "dict",data:=Data.dict #[aE P "__module__" 279 (aD "framerooms.errors" 194),aE P "__qualname__" 281 (aD "NoFrame" 280),aE P "__firstlineno__" 283 (.int 19 282),aE P "__init__" 291 (.ref 93),aE P "__static_attributes__" 293 (.ref 94)] 5}
abbrev KL:Obj:=yQ #[.int 21 0,.int 4 0,.ref 92]
abbrev LI:Obj:=CP "NoFrame" "NoFrame" 274 19 83 277
abbrev LA:Obj:={cls:= .type "frame",slots:= #[some (.ref 85),some (.ref 3),some (.ref 82),none,some (aD "framerooms.errors" 194),none,some (.ref 0)]}
abbrev Kh:Obj:=d9 #[aD "self" 287,aD "found" 288]
abbrev LC:Obj:=dI "__init__" "NoFrame.__init__" (jp (top 5) 0)
abbrev JA:Obj:=gC "__init__" "NoFrame.__init__" 284 21 2 87 289
abbrev FX:Obj:=dG "__init__" "NoFrame.__init__" (jp (top 5) 0) "framerooms.errors" 194 92
abbrev HI:Obj:=d9 #[aD "found" 292]
abbrev IU:Obj:={cls:= .type "dict",data:=Data.dict #[aE P "__module__" 279 (aD "framerooms.errors" 194),aE P "__firstlineno__" 283 (.int 19 282),aE P "__init__" 291 (.ref 93),aE P "__static_attributes__" 293 (.ref 94),aE P "__doc__" 294 (.none)] 2}
abbrev HG:Obj:={cls:= .type "type",data:=Data.cls {name:=Str.ofString "NoFrame",bases:=[.ref 38],mro:=[.ref 96,.ref 38,.type "ValueError",.type "Exception",.type "BaseException",.type "object"],ns:=95,qualname:=Str.ofString "NoFrame"},slots:= #[some (.ref 80),none,some (aD "NoFrame" 272),some (aD "NoFrame" 280),some (.builtin "ValueError.__new__"),some (.bool true)]}
abbrev KQ:Obj:={cls:= .type "super",data:=Data.fields #[.ref 96,.ref 96,.ref 96]}
abbrev Lm:Obj:={cls:= .type "builtin_function_or_method",data:=Data.fields #[.builtin "object.__init_subclass__",.ref 96]}
abbrev DE:Obj:={cls:= .type "dict",data:=Data.dict #[aE P "__module__" 304 (aD "framerooms.errors" 194),aE P "__qualname__" 306 (aD "Gone" 305),aE P "__firstlineno__" 308 (.int 24 307),aE P "__init__" 317 (.ref 112),aE P "__static_attributes__" 320 (.ref 113)] 5}
abbrev Dk:Obj:=yQ #[.int 26 0,.int 4 0,.ref 111]
abbrev Dw:Obj:=CP "Gone" "Gone" 299 24 102 302
abbrev CT:Obj:={cls:= .type "frame",slots:= #[some (.ref 104),some (.ref 3),some (.ref 101),none,some (aD "framerooms.errors" 194),none,some (.ref 0)]}
abbrev zP:Obj:=d9 #[aD "self" 312,aD "found" 313,aD "by" 314]
abbrev Cf:Obj:=dI "__init__" "Gone.__init__" (jp (top 6) 0)
abbrev zx:Obj:=gC "__init__" "Gone.__init__" 309 26 3 106 315
abbrev zH:Obj:=dG "__init__" "Gone.__init__" (jp (top 6) 0) "framerooms.errors" 194 111
abbrev zC:Obj:=d9 #[aD "by" 318,aD "found" 319]
abbrev AQ:Obj:={cls:= .type "dict",data:=Data.dict #[aE P "__module__" 304 (aD "framerooms.errors" 194),aE P "__firstlineno__" 308 (.int 24 307),aE P "__init__" 317 (.ref 112),aE P "__static_attributes__" 320 (.ref 113),aE P "__doc__" 321 (.none)] 2}
abbrev y4:Obj:={cls:= .type "type",data:=Data.cls {name:=Str.ofString "Gone",bases:=[.ref 38],mro:=[.ref 115,.ref 38,.type "ValueError",.type "Exception",.type "BaseException",.type "object"],ns:=114,qualname:=Str.ofString "Gone"},slots:= #[some (.ref 99),none,some (aD "Gone" 297),some (aD "Gone" 305),some (.builtin "ValueError.__new__"),some (.bool true)]}
abbrev Cv:Obj:={cls:= .type "super",data:=Data.fields #[.ref 115,.ref 115,.ref 115]}
abbrev C_:Obj:={cls:= .type "builtin_function_or_method",data:=Data.fields #[.builtin "object.__init_subclass__",.ref 115]}
abbrev CA:Obj:={cls:= .type "dict",data:=Data.dict #[aE P "__module__" 331 (aD "framerooms.errors" 194),aE P "__qualname__" 333 (aD "Ground" 332),aE P "__firstlineno__" 335 (.int 30 334),aE P "__init__" 342 (.ref 131),aE P "__static_attributes__" 343 (.ref 132)] 5}
abbrev DW:Obj:=yQ #[.int 32 0,.int 4 0,.ref 130]
abbrev DR:Obj:=CP "Ground" "Ground" 326 30 121 329
abbrev Dz:Obj:={cls:= .type "frame",slots:= #[some (.ref 123),some (.ref 3),some (.ref 120),none,some (aD "framerooms.errors" 194),none,some (.ref 0)]}
abbrev Ag:Obj:=d9 #[aD "self" 339]
abbrev Dt:Obj:=dI "__init__" "Ground.__init__" (jp (top 7) 0)
abbrev Ae:Obj:=gC "__init__" "Ground.__init__" 336 32 1 125 340
abbrev yW:Obj:=dG "__init__" "Ground.__init__" (jp (top 7) 0) "framerooms.errors" 194 130
abbrev y9:Obj:={cls:= .type "dict",data:=Data.dict #[aE P "__module__" 331 (aD "framerooms.errors" 194),aE P "__firstlineno__" 335 (.int 30 334),aE P "__init__" 342 (.ref 131),aE P "__static_attributes__" 343 (.ref 132),aE P "__doc__" 344 (.none)] 2}
abbrev AH:Obj:={cls:= .type "type",data:=Data.cls {name:=Str.ofString "Ground",bases:=[.ref 38],mro:=[.ref 134,.ref 38,.type "ValueError",.type "Exception",.type "BaseException",.type "object"],ns:=133,qualname:=Str.ofString "Ground"},slots:= #[some (.ref 118),none,some (aD "Ground" 324),some (aD "Ground" 332),some (.builtin "ValueError.__new__"),some (.bool true)]}
abbrev De:Obj:={cls:= .type "super",data:=Data.fields #[.ref 134,.ref 134,.ref 134]}
abbrev DH:Obj:={cls:= .type "builtin_function_or_method",data:=Data.fields #[.builtin "object.__init_subclass__",.ref 134]}
abbrev Cq:Obj:={cls:= .type "dict",data:=Data.dict #[aE P "__module__" 354 (aD "framerooms.errors" 194),aE P "__qualname__" 356 (aD "TooMany" 355),aE P "__firstlineno__" 358 (.int 34 357),aE P "__init__" 366 (.ref 150),aE P "__static_attributes__" 368 (.ref 151)] 5}
abbrev Dd:Obj:=yQ #[.int 36 0,.int 4 0,.ref 149]
abbrev CU:Obj:=CP "TooMany" "TooMany" 349 34 140 352
abbrev Dm:Obj:={cls:= .type "frame",slots:= #[some (.ref 142),some (.ref 3),some (.ref 139),none,some (aD "framerooms.errors" 194),none,some (.ref 0)]}
abbrev zT:Obj:=d9 #[aD "self" 362,aD "many" 363]
abbrev DN:Obj:=dI "__init__" "TooMany.__init__" (jp (top 8) 0)
abbrev y8:Obj:=gC "__init__" "TooMany.__init__" 359 36 2 144 364
abbrev Aw:Obj:=dG "__init__" "TooMany.__init__" (jp (top 8) 0) "framerooms.errors" 194 149
abbrev zZ:Obj:=d9 #[aD "many" 367]
abbrev zj:Obj:={cls:= .type "dict",data:=Data.dict #[aE P "__module__" 354 (aD "framerooms.errors" 194),aE P "__firstlineno__" 358 (.int 34 357),aE P "__init__" 366 (.ref 150),aE P "__static_attributes__" 368 (.ref 151),aE P "__doc__" 369 (.none)] 2}
abbrev zq:Obj:={cls:= .type "type",data:=Data.cls {name:=Str.ofString "TooMany",bases:=[.ref 38],mro:=[.ref 153,.ref 38,.type "ValueError",.type "Exception",.type "BaseException",.type "object"],ns:=152,qualname:=Str.ofString "TooMany"},slots:= #[some (.ref 137),none,some (aD "TooMany" 347),some (aD "TooMany" 355),some (.builtin "ValueError.__new__"),some (.bool true)]}
abbrev DC:Obj:={cls:= .type "super",data:=Data.fields #[.ref 153,.ref 153,.ref 153]}
abbrev DA:Obj:={cls:= .type "builtin_function_or_method",data:=Data.fields #[.builtin "object.__init_subclass__",.ref 153]}
abbrev DO:Obj:={cls:= .type "dict",data:=Data.dict #[aE P "__module__" 379 (aD "framerooms.errors" 194),aE P "__qualname__" 381 (aD "Full" 380),aE P "__firstlineno__" 383 (.int 39 382),aE P "__init__" 392 (.ref 169),aE P "__static_attributes__" 395 (.ref 170)] 5}
abbrev CW:Obj:=yQ #[.int 41 0,.int 4 0,.ref 168]
abbrev Cs:Obj:=CP "Full" "Full" 374 39 159 377
abbrev DZ:Obj:={cls:= .type "frame",slots:= #[some (.ref 161),some (.ref 3),some (.ref 158),none,some (aD "framerooms.errors" 194),none,some (.ref 0)]}
abbrev zS:Obj:=d9 #[aD "self" 387,aD "need" 388,aD "spare" 389]
abbrev Cw:Obj:=dI "__init__" "Full.__init__" (jp (top 9) 0)
abbrev zg:Obj:=gC "__init__" "Full.__init__" 384 41 3 163 390
abbrev yY:Obj:=dG "__init__" "Full.__init__" (jp (top 9) 0) "framerooms.errors" 194 168
abbrev zW:Obj:=d9 #[aD "need" 393,aD "spare" 394]
abbrev Ab:Obj:={cls:= .type "dict",data:=Data.dict #[aE P "__module__" 379 (aD "framerooms.errors" 194),aE P "__firstlineno__" 383 (.int 39 382),aE P "__init__" 392 (.ref 169),aE P "__static_attributes__" 395 (.ref 170),aE P "__doc__" 396 (.none)] 2}
abbrev AS:Obj:={cls:= .type "type",data:=Data.cls {name:=Str.ofString "Full",bases:=[.ref 38],mro:=[.ref 172,.ref 38,.type "ValueError",.type "Exception",.type "BaseException",.type "object"],ns:=171,qualname:=Str.ofString "Full"},slots:= #[some (.ref 156),none,some (aD "Full" 372),some (aD "Full" 380),some (.builtin "ValueError.__new__"),some (.bool true)]}
abbrev CF:Obj:={cls:= .type "super",data:=Data.fields #[.ref 172,.ref 172,.ref 172]}
abbrev DQ:Obj:={cls:= .type "builtin_function_or_method",data:=Data.fields #[.builtin "object.__init_subclass__",.ref 172]}
abbrev aaR:Obj:={cls:= .type "dict",data:=Data.dict #[aE P "__name__" 165 (aD "framerooms.ways" 516),aE P "__doc__" 166 (.none),aE P "__package__" 167 (.none),aE P "__loader__" 168 (.builtin ("__main__.__loader__#opa" ++ "que")),aE P "__spec__" 169 (.none),aE P "__annotations__" 170 (.ref 6),aE P "__builtins__" 171 (.ref 4),aE P "__file__" 173 (aD "/claim/cut.py" 172),aE P "__cached__" 174 (.none),aE P "_wall" 193 (.ref 21),aE P "RoomError" 221 (.ref 38),aE P "NoNumber" 246 (.ref 58),aE P "NoValue" 271 (.ref 77),aE P "NoFrame" 296 (.ref 96),aE P "Gone" 323 (.ref 115),aE P "Ground" 346 (.ref 134),aE P "TooMany" 371 (.ref 153),aE P "Full" 398 (.ref 172),aE P "NoWay" 423 (.ref 191),aE P "NoCell" 448 (.ref 210),aE P "NoHands" 473 (.ref 229),aE P "LETTERS" 477 (aD "abcdefghijklmnopqrstuvwxyz" 476),aE P "MOST_LETTERS" 479 (.int 6 478),aE P "is_number" 486 (.ref 238),aE P "is_whole" 495 (.ref 245),aE P "is_name" 501 (.ref 250),aE P "is_count" 508 (.ref 257),aE P "is_pair" 515 (.ref 264),aE P "ways_in" 523 (.ref 269)] 29}
abbrev QW:Obj:=yQ #[.int 1 0,.int 0 0,.ref 20,.int 5 0,.int 0 0,.ref 27,.int 9 0,.int 0 0,.ref 47,.int 14 0,.int 0 0,.ref 66,.int 19 0,.int 0 0,.ref 85,.int 24 0,.int 0 0,.ref 104,.int 30 0,.int 0 0,.ref 123,.int 34 0,.int 0 0,.ref 142,.int 39 0,.int 0 0,.ref 161,.int 45 0,.int 0 0,.ref 180,.int 50 0,.int 0 0,.ref 199,.int 55 0,.int 0 0,.ref 218,.int 63 0,.int 0 0,.ref 237,.int 65 0,.int 0 0,.ref 244,.int 67 0,.int 0 0,.ref 249,.int 71 0,.int 0 0,.ref 256,.int 73 0,.int 0 0,.ref 263,.int 78 0,.int 0 0,.ref 268]
abbrev Dh:Obj:={cls:= .type "type",data:=Data.cls {name:=Str.ofString "RoomError",bases:=[.type "ValueError"],mro:=[.ref 38,.type "ValueError",.type "Exception",.type "BaseException",.type "object"],ns:=37,qualname:=Str.ofString "RoomError",subclasses:=[.ref 58,.ref 77,.ref 96,.ref 115,.ref 134,.ref 153,.ref 172,.ref 191,.ref 210,.ref 229]},slots:= #[some (.ref 22),none,some (aD "RoomError" 196),some (aD "RoomError" 204),some (.builtin "ValueError.__new__"),some (.bool true)]}
abbrev G2:Obj:={cls:= .type "dict",data:=Data.dict #[aE P "__module__" 406 (aD "framerooms.errors" 194),aE P "__qualname__" 408 (aD "NoWay" 407),aE P "__firstlineno__" 410 (.int 45 409),aE P "__init__" 418 (.ref 188),aE P "__static_attributes__" 420 (.ref 189)] 5}
abbrev JI:Obj:=yQ #[.int 47 0,.int 4 0,.ref 187]
abbrev JN:Obj:=CP "NoWay" "NoWay" 401 45 178 404
abbrev JL:Obj:={cls:= .type "frame",slots:= #[some (.ref 180),some (.ref 3),some (.ref 177),none,some (aD "framerooms.errors" 194),none,some (.ref 0)]}
abbrev Cu:Obj:=d9 #[aD "self" 414,aD "found" 415]
abbrev JW:Obj:=dI "__init__" "NoWay.__init__" (jp (top 10) 0)
abbrev Ct:Obj:=gC "__init__" "NoWay.__init__" 411 47 2 182 416
abbrev Cj:Obj:=dG "__init__" "NoWay.__init__" (jp (top 10) 0) "framerooms.errors" 194 187
abbrev Df:Obj:=d9 #[aD "found" 419]
abbrev Ds:Obj:={cls:= .type "dict",data:=Data.dict #[aE P "__module__" 406 (aD "framerooms.errors" 194),aE P "__firstlineno__" 410 (.int 45 409),aE P "__init__" 418 (.ref 188),aE P "__static_attributes__" 420 (.ref 189),aE P "__doc__" 421 (.none)] 2}
abbrev C2:Obj:={cls:= .type "type",data:=Data.cls {name:=Str.ofString "NoWay",bases:=[.ref 38],mro:=[.ref 191,.ref 38,.type "ValueError",.type "Exception",.type "BaseException",.type "object"],ns:=190,qualname:=Str.ofString "NoWay"},slots:= #[some (.ref 175),none,some (aD "NoWay" 399),some (aD "NoWay" 407),some (.builtin "ValueError.__new__"),some (.bool true)]}
abbrev JC:Obj:={cls:= .type "super",data:=Data.fields #[.ref 191,.ref 191,.ref 191]}
abbrev Gz:Obj:={cls:= .type "builtin_function_or_method",data:=Data.fields #[.builtin "object.__init_subclass__",.ref 191]}
abbrev Hq:Obj:={cls:= .type "dict",data:=Data.dict #[aE P "__module__" 431 (aD "framerooms.errors" 194),aE P "__qualname__" 433 (aD "NoCell" 432),aE P "__firstlineno__" 435 (.int 50 434),aE P "__init__" 443 (.ref 207),aE P "__static_attributes__" 445 (.ref 208)] 5}
abbrev HC:Obj:=yQ #[.int 52 0,.int 4 0,.ref 206]
abbrev FY:Obj:=CP "NoCell" "NoCell" 426 50 197 429
abbrev HM:Obj:={cls:= .type "frame",slots:= #[some (.ref 199),some (.ref 3),some (.ref 196),none,some (aD "framerooms.errors" 194),none,some (.ref 0)]}
abbrev Cg:Obj:=d9 #[aD "self" 439,aD "found" 440]
abbrev GJ:Obj:=dI "__init__" "NoCell.__init__" (jp (top 11) 0)
abbrev Cp:Obj:=gC "__init__" "NoCell.__init__" 436 52 2 201 441
abbrev Co:Obj:=dG "__init__" "NoCell.__init__" (jp (top 11) 0) "framerooms.errors" 194 206
abbrev CI:Obj:=d9 #[aD "found" 444]
abbrev DB:Obj:={cls:= .type "dict",data:=Data.dict #[aE P "__module__" 431 (aD "framerooms.errors" 194),aE P "__firstlineno__" 435 (.int 50 434),aE P "__init__" 443 (.ref 207),aE P "__static_attributes__" 445 (.ref 208),aE P "__doc__" 446 (.none)] 2}
abbrev Dv:Obj:={cls:= .type "type",data:=Data.cls {name:=Str.ofString "NoCell",bases:=[.ref 38],mro:=[.ref 210,.ref 38,.type "ValueError",.type "Exception",.type "BaseException",.type "object"],ns:=209,qualname:=Str.ofString "NoCell"},slots:= #[some (.ref 194),none,some (aD "NoCell" 424),some (aD "NoCell" 432),some (.builtin "ValueError.__new__"),some (.bool true)]}
abbrev JX:Obj:={cls:= .type "super",data:=Data.fields #[.ref 210,.ref 210,.ref 210]}
abbrev Ia:Obj:={cls:= .type "builtin_function_or_method",data:=Data.fields #[.builtin "object.__init_subclass__",.ref 210]}
abbrev G4:Obj:={cls:= .type "dict",data:=Data.dict #[aE P "__module__" 456 (aD "framerooms.errors" 194),aE P "__qualname__" 458 (aD "NoHands" 457),aE P "__firstlineno__" 460 (.int 55 459),aE P "__init__" 468 (.ref 226),aE P "__static_attributes__" 470 (.ref 227)] 5}
abbrev HQ:Obj:=yQ #[.int 57 0,.int 4 0,.ref 225]
abbrev JO:Obj:=CP "NoHands" "NoHands" 451 55 216 454
abbrev GX:Obj:={cls:= .type "frame",slots:= #[some (.ref 218),some (.ref 3),some (.ref 215),none,some (aD "framerooms.errors" 194),none,some (.ref 0)]}
abbrev CN:Obj:=d9 #[aD "self" 464,aD "found" 465]
abbrev Hf:Obj:=dI "__init__" "NoHands.__init__" (jp (top 12) 0)
abbrev Dr:Obj:=gC "__init__" "NoHands.__init__" 461 57 2 220 466
abbrev CS:Obj:=dG "__init__" "NoHands.__init__" (jp (top 12) 0) "framerooms.errors" 194 225
abbrev CL:Obj:=d9 #[aD "found" 469]
abbrev Dq:Obj:={cls:= .type "dict",data:=Data.dict #[aE P "__module__" 456 (aD "framerooms.errors" 194),aE P "__firstlineno__" 460 (.int 55 459),aE P "__init__" 468 (.ref 226),aE P "__static_attributes__" 470 (.ref 227),aE P "__doc__" 471 (.none)] 2}
abbrev C9:Obj:={cls:= .type "type",data:=Data.cls {name:=Str.ofString "NoHands",bases:=[.ref 38],mro:=[.ref 229,.ref 38,.type "ValueError",.type "Exception",.type "BaseException",.type "object"],ns:=228,qualname:=Str.ofString "NoHands"},slots:= #[some (.ref 213),none,some (aD "NoHands" 449),some (aD "NoHands" 457),some (.builtin "ValueError.__new__"),some (.bool true)]}
abbrev Ga:Obj:={cls:= .type "super",data:=Data.fields #[.ref 229,.ref 229,.ref 229]}
abbrev FG:Obj:={cls:= .type "builtin_function_or_method",data:=Data.fields #[.builtin "object.__init_subclass__",.ref 229]}
abbrev Cr:Obj:=d9 #[aD "thing" 483]
abbrev II:Obj:=dI "is_number" "is_number" ij
abbrev DL:Obj:=gC "is_number" "is_number" 480 63 1 232 484
abbrev CK:Obj:=dG "is_number" "is_number" ij "framerooms.words" 474 237
abbrev Du:Obj:=d9 #[aD "thing" 490,aD "low" 491,aD "high" 492]
abbrev F8:Obj:=dI "is_whole" "is_whole" jd
abbrev DK:Obj:=gC "is_whole" "is_whole" 487 65 3 239 493
abbrev CO:Obj:=dG "is_whole" "is_whole" jd "framerooms.words" 474 244
abbrev Ir:Obj:=dI "is_name" "is_name" kg
abbrev DU:Obj:=vK #[aD "is_name" 496,aD "is_name" 497,aD "/claim/cut.py" 498,.int 67 0,.int 1 0,.int 0 0,.int 0 0,.int 3 0,.ref 246,.bool true,.int 181 0,.ref 247,.none,.none,.none,.ref 248,.int 499 0,.int 67 0,aD "/claim/cut.py" 500]
abbrev Cn:Obj:=dG "is_name" "is_name" kg "framerooms.words" 474 249
abbrev Ck:Obj:=d9 #[aD "thing" 505]
abbrev Gh:Obj:=dI "is_count" "is_count" je
abbrev C6:Obj:=gC "is_count" "is_count" 502 71 1 251 506
abbrev DP:Obj:=dG "is_count" "is_count" je "framerooms.words" 474 256
abbrev Cz:Obj:=d9 #[aD "thing" 512]
abbrev JH:Obj:=dI "is_pair" "is_pair" jZ
abbrev Dy:Obj:=gC "is_pair" "is_pair" 509 73 1 258 513
abbrev C8:Obj:=dG "is_pair" "is_pair" jZ "framerooms.words" 474 263
abbrev G8:Obj:=dI "ways_in" "ways_in" ke
abbrev C3:Obj:=vK #[aD "ways_in" 518,aD "ways_in" 519,aD "/claim/cut.py" 520,.int 78 0,.int 3 0,.int 0 0,.int 0 0,.int 3 0,.ref 265,.bool true,.int 181 0,.ref 266,.none,.none,.none,.ref 267,.int 521 0,.int 78 0,aD "/claim/cut.py" 522]
abbrev CQ:Obj:=dG "ways_in" "ways_in" ke "framerooms.ways" 516 268
abbrev W9:Obj:={cls:= .type "dict",data:=Data.dict #[aE P "__name__" 165 (aD "framerooms.house" 705),aE P "__doc__" 166 (.none),aE P "__package__" 167 (.none),aE P "__loader__" 168 (.builtin ("__main__.__loader__#opa" ++ "que")),aE P "__spec__" 169 (.none),aE P "__annotations__" 170 (.ref 6),aE P "__builtins__" 171 (.ref 4),aE P "__file__" 173 (aD "/claim/cut.py" 172),aE P "__cached__" 174 (.none),aE P "_wall" 193 (.ref 21),aE P "RoomError" 221 (.ref 38),aE P "NoNumber" 246 (.ref 58),aE P "NoValue" 271 (.ref 77),aE P "NoFrame" 296 (.ref 96),aE P "Gone" 323 (.ref 115),aE P "Ground" 346 (.ref 134),aE P "TooMany" 371 (.ref 153),aE P "Full" 398 (.ref 172),aE P "NoWay" 423 (.ref 191),aE P "NoCell" 448 (.ref 210),aE P "NoHands" 473 (.ref 229),aE P "LETTERS" 477 (aD "abcdefghijklmnopqrstuvwxyz" 476),aE P "MOST_LETTERS" 479 (.int 6 478),aE P "is_number" 486 (.ref 238),aE P "is_whole" 495 (.ref 245),aE P "is_name" 501 (.ref 250),aE P "is_count" 508 (.ref 257),aE P "is_pair" 515 (.ref 264),aE P "ways_in" 523 (.ref 269),aE P "want_hands" 532 (.ref 276),aE P "are_hands" 538 (.ref 281),aE P "leads_in" 546 (.ref 288),aE P "links_of" 552 (.ref 293),aE P "GROUND" 556 (.int 0 555),aE P "MOST_FRAMES" 558 (.int 100 557),aE P "Frames" 704 (.ref 409),aE P "MOST_CELLS" 708 (.int 1000 707),aE P "MOST_CELLS_OF_ROOM" 710 (.int 6 709)] 38}
abbrev K8:Obj:=yQ #[.int 1 0,.int 0 0,.ref 20,.int 5 0,.int 0 0,.ref 27,.int 9 0,.int 0 0,.ref 47,.int 14 0,.int 0 0,.ref 66,.int 19 0,.int 0 0,.ref 85,.int 24 0,.int 0 0,.ref 104,.int 30 0,.int 0 0,.ref 123,.int 34 0,.int 0 0,.ref 142,.int 39 0,.int 0 0,.ref 161,.int 45 0,.int 0 0,.ref 180,.int 50 0,.int 0 0,.ref 199,.int 55 0,.int 0 0,.ref 218,.int 63 0,.int 0 0,.ref 237,.int 65 0,.int 0 0,.ref 244,.int 67 0,.int 0 0,.ref 249,.int 71 0,.int 0 0,.ref 256,.int 73 0,.int 0 0,.ref 263,.int 78 0,.int 0 0,.ref 268,.int 87 0,.int 0 0,.ref 275,.int 91 0,.int 0 0,.ref 280,.int 95 0,.int 0 0,.ref 287,.int 97 0,.int 0 0,.ref 292,.int 102 0,.int 0 0,.ref 299]
abbrev Ka:Obj:=d9 #[aD "house" 527,aD "frame" 528,aD "hands" 529]
abbrev NB:Obj:=dI "want_hands" "want_hands" fQ
abbrev IK:Obj:=gC "want_hands" "want_hands" 524 87 3 270 530
abbrev GH:Obj:=dG "want_hands" "want_hands" fQ "framerooms.ways" 516 275
abbrev OQ:Obj:=dI "are_hands" "are_hands" ia
abbrev Jt:Obj:=vK #[aD "are_hands" 533,aD "are_hands" 534,aD "/claim/cut.py" 535,.int 91 0,.int 2 0,.int 0 0,.int 0 0,.int 3 0,.ref 277,.bool true,.int 181 0,.ref 278,.none,.none,.none,.ref 279,.int 536 0,.int 91 0,aD "/claim/cut.py" 537]
abbrev FN:Obj:=dG "are_hands" "are_hands" ia "framerooms.ways" 516 280
abbrev Hm:Obj:=d9 #[aD "value" 542,aD "part" 543]
abbrev PL:Obj:=dI "leads_in" "leads_in" jg
abbrev Ju:Obj:=gC "leads_in" "leads_in" 539 95 2 282 544
abbrev Jm:Obj:=dG "leads_in" "leads_in" jg "framerooms.ways" 516 287
abbrev Nh:Obj:=dI "links_of" "links_of" i3
abbrev IL:Obj:=vK #[aD "links_of" 547,aD "links_of" 548,aD "/claim/cut.py" 549,.int 97 0,.int 3 0,.int 0 0,.int 0 0,.int 3 0,.ref 289,.bool true,.int 181 0,.ref 290,.none,.none,.none,.ref 291,.int 550 0,.int 97 0,aD "/claim/cut.py" 551]
abbrev IG:Obj:=dG "links_of" "links_of" i3 "framerooms.ways" 516 292
abbrev Nv:Obj:={cls:= .type "dict",data:=Data.dict #[aE P "__module__" 566 (aD "framerooms.frames" 553),aE P "__qualname__" 568 (aD "Frames" 567),aE P "__firstlineno__" 570 (.int 102 569),aE P "__init__" 577 (.ref 307),aE P "begin" 585 (.ref 314),aE P "finish" 595 (.ref 321),aE P "part" 601 (.ref 326),aE P "inside" 609 (.ref 333),aE P "row" 619 (.ref 340),aE P "within" 625 (.ref 345),aE P "ended_by" 633 (.ref 352),aE P "stands" 641 (.ref 359),aE P "standing" 647 (.ref 364),aE P "begun" 654 (.ref 371),aE P "was_begun" 662 (.ref 378),aE P "want_begun" 670 (.ref 385),aE P "want_standing" 678 (.ref 392),aE P "want_beginning" 686 (.ref 399),aE P "want_finishing" 694 (.ref 406),aE P "__static_attributes__" 697 (.ref 407)] 20}
abbrev P1:Obj:=yQ #[.int 104 0,.int 4 0,.ref 306,.int 108 0,.int 4 0,.ref 313,.int 114 0,.int 4 0,.ref 320,.int 121 0,.int 4 0,.ref 325,.int 124 0,.int 4 0,.ref 332,.int 128 0,.int 4 0,.ref 339,.int 137 0,.int 4 0,.ref 344,.int 141 0,.int 4 0,.ref 351,.int 145 0,.int 4 0,.ref 358,.int 148 0,.int 4 0,.ref 363,.int 151 0,.int 4 0,.ref 370,.int 154 0,.int 4 0,.ref 377,.int 157 0,.int 4 0,.ref 384,.int 161 0,.int 4 0,.ref 391,.int 166 0,.int 4 0,.ref 398,.int 171 0,.int 4 0,.ref 405]
abbrev Nd:Obj:=CP "Frames" "Frames" 561 102 297 564
abbrev Pm:Obj:={cls:= .type "frame",slots:= #[some (.ref 299),some (.ref 3),some (.ref 296),none,some (aD "framerooms.frames" 553),none,some (.ref 0)]}
abbrev HD:Obj:=d9 #[aD "self" 574]
abbrev OD:Obj:=dI "__init__" "Frames.__init__" cL
abbrev JD:Obj:=gC "__init__" "Frames.__init__" 571 104 1 301 575
abbrev FL:Obj:=dG "__init__" "Frames.__init__" cL "framerooms.frames" 553 306
abbrev HR:Obj:=d9 #[aD "self" 581,aD "frame" 582]
abbrev PZ:Obj:=dI "begin" "Frames.begin" d_
abbrev Jv:Obj:=gC "begin" "Frames.begin" 578 108 2 308 583
abbrev Iz:Obj:=dG "begin" "Frames.begin" d_ "framerooms.frames" 553 313
abbrev Jx:Obj:=d9 #[aD "self" 589,aD "frame" 590,aD "ended" 591,aD "number" 592]
abbrev Qj:Obj:=dI "finish" "Frames.finish" dF
abbrev Gw:Obj:=gC "finish" "Frames.finish" 586 114 2 315 593
abbrev GL:Obj:=dG "finish" "Frames.finish" dF "framerooms.frames" 553 320
abbrev Oe:Obj:=dI "part" "Frames.part" eU
abbrev JS:Obj:=vK #[aD "part" 596,aD "Frames.part" 597,aD "/claim/cut.py" 598,.int 121 0,.int 2 0,.int 0 0,.int 0 0,.int 3 0,.ref 322,.bool true,.int 181 0,.ref 323,.none,.none,.none,.ref 324,.int 599 0,.int 121 0,aD "/claim/cut.py" 600]
abbrev Jb:Obj:=dG "part" "Frames.part" eU "framerooms.frames" 553 325
abbrev Ig:Obj:=d9 #[aD "self" 605,aD "frame" 606]
abbrev Ow:Obj:=dI "inside" "Frames.inside" dQ
abbrev Ja:Obj:=gC "inside" "Frames.inside" 602 124 2 327 607
abbrev IT:Obj:=dG "inside" "Frames.inside" dQ "framerooms.frames" 553 332
abbrev GY:Obj:=d9 #[aD "self" 613,aD "frame" 614,aD "outward" 615,aD "step" 616]
abbrev Nl:Obj:=dI "row" "Frames.row" gq
abbrev HK:Obj:=gC "row" "Frames.row" 610 128 2 334 617
abbrev I0:Obj:=dG "row" "Frames.row" gq "framerooms.frames" 553 339
abbrev Pw:Obj:=dI "within" "Frames.within" (jp (top 30) 6)
abbrev Ii:Obj:=vK #[aD "within" 620,aD "Frames.within" 621,aD "/claim/cut.py" 622,.int 137 0,.int 2 0,.int 0 0,.int 0 0,.int 3 0,.ref 341,.bool true,.int 181 0,.ref 342,.none,.none,.none,.ref 343,.int 623 0,.int 137 0,aD "/claim/cut.py" 624]
abbrev J6:Obj:=dG "within" "Frames.within" (jp (top 30) 6) "framerooms.frames" 553 344
abbrev FF:Obj:=d9 #[aD "self" 629,aD "frame" 630]
abbrev OA:Obj:=dI "ended_by" "Frames.ended_by" cK
abbrev FQ:Obj:=gC "ended_by" "Frames.ended_by" 626 141 2 346 631
abbrev GQ:Obj:=dG "ended_by" "Frames.ended_by" cK "framerooms.frames" 553 351
abbrev Gi:Obj:=d9 #[aD "self" 637,aD "thing" 638]
abbrev OR:Obj:=dI "stands" "Frames.stands" dO
abbrev J3:Obj:=gC "stands" "Frames.stands" 634 145 2 353 639
abbrev He:Obj:=dG "stands" "Frames.stands" dO "framerooms.frames" 553 358
abbrev NG:Obj:=dI "standing" "Frames.standing" cN
abbrev Iu:Obj:=vK #[aD "standing" 642,aD "Frames.standing" 643,aD "/claim/cut.py" 644,.int 148 0,.int 1 0,.int 0 0,.int 0 0,.int 3 0,.ref 360,.bool true,.int 181 0,.ref 361,.none,.none,.none,.ref 362,.int 645 0,.int 148 0,aD "/claim/cut.py" 646]
abbrev FT:Obj:=dG "standing" "Frames.standing" cN "framerooms.frames" 553 363
abbrev J5:Obj:=d9 #[aD "self" 651]
abbrev OE:Obj:=dI "begun" "Frames.begun" eD
abbrev GP:Obj:=gC "begun" "Frames.begun" 648 151 1 365 652
abbrev Jc:Obj:=dG "begun" "Frames.begun" eD "framerooms.frames" 553 370
abbrev Jn:Obj:=d9 #[aD "self" 658,aD "thing" 659]
abbrev Oi:Obj:=dI "was_begun" "Frames.was_begun" cy
abbrev JB:Obj:=gC "was_begun" "Frames.was_begun" 655 154 2 372 660
abbrev IW:Obj:=dG "was_begun" "Frames.was_begun" cy "framerooms.frames" 553 377
abbrev Gp:Obj:=d9 #[aD "self" 666,aD "thing" 667]
abbrev P9:Obj:=dI "want_begun" "Frames.want_begun" ck
abbrev GN:Obj:=gC "want_begun" "Frames.want_begun" 663 157 2 379 668
abbrev Hj:Obj:=dG "want_begun" "Frames.want_begun" ck "framerooms.frames" 553 384
abbrev HE:Obj:=d9 #[aD "self" 674,aD "thing" 675]
abbrev Nt:Obj:=dI "want_standing" "Frames.want_standing" bU
abbrev Gj:Obj:=gC "want_standing" "Frames.want_standing" 671 161 2 386 676
abbrev J_:Obj:=dG "want_standing" "Frames.want_standing" bU "framerooms.frames" 553 391
abbrev IB:Obj:=d9 #[aD "self" 682,aD "thing" 683]
abbrev NR:Obj:=dI "want_beginning" "Frames.want_beginning" bP
abbrev Ik:Obj:=gC "want_beginning" "Frames.want_beginning" 679 166 2 393 684
abbrev Gy:Obj:=dG "want_beginning" "Frames.want_beginning" bP "framerooms.frames" 553 398
abbrev Hx:Obj:=d9 #[aD "self" 690,aD "thing" 691]
abbrev OU:Obj:=dI "want_finishing" "Frames.want_finishing" bQ
abbrev HB:Obj:=gC "want_finishing" "Frames.want_finishing" 687 171 2 400 692
abbrev GO:Obj:=dG "want_finishing" "Frames.want_finishing" bQ "framerooms.frames" 553 405
abbrev Kf:Obj:=d9 #[aD "parents" 695,aD "takers" 696]
abbrev GU:Obj:={cls:= .type "dict",data:=Data.dict #[aE P "__module__" 566 (aD "framerooms.frames" 553),aE P "__firstlineno__" 570 (.int 102 569),aE P "__init__" 577 (.ref 307),aE P "begin" 585 (.ref 314),aE P "finish" 595 (.ref 321),aE P "part" 601 (.ref 326),aE P "inside" 609 (.ref 333),aE P "row" 619 (.ref 340),aE P "within" 625 (.ref 345),aE P "ended_by" 633 (.ref 352),aE P "stands" 641 (.ref 359),aE P "standing" 647 (.ref 364),aE P "begun" 654 (.ref 371),aE P "was_begun" 662 (.ref 378),aE P "want_begun" 670 (.ref 385),aE P "want_standing" 678 (.ref 392),aE P "want_beginning" 686 (.ref 399),aE P "want_finishing" 694 (.ref 406),aE P "__static_attributes__" 697 (.ref 407),aE P "__dict__" 699 (.ref 410),aE P "__weakref__" 701 (.ref 411),aE P "__doc__" 702 (.none)] 4}
abbrev UE:Obj:={cls:= .type "type",data:=Data.cls {name:=Str.ofString "Frames",bases:=[.type "object"],mro:=[.ref 409,.type "object"],ns:=408,qualname:=Str.ofString "Frames"},slots:= #[none,none,some (aD "Frames" 559),some (aD "Frames" 567),some (.builtin "object.__new__"),some (.bool true)]}
abbrev Ge:Obj:={cls:= .type "getset_descriptor",data:=Data.fields #[aD "__dict__" 698,.ref 409,.builtin "function.__dict__",.builtin "function.__dict__#set"]}
abbrev GZ:Obj:={cls:= .type "getset_descriptor",data:=Data.fields #[aD "__weakref__" 700,.ref 409,.builtin "ExceptionGroup.__weakref__",.none]}
abbrev Pz:Obj:={cls:= .type "super",data:=Data.fields #[.ref 409,.ref 409,.ref 409]}
abbrev Pn:Obj:={cls:= .type "builtin_function_or_method",data:=Data.fields #[.builtin "object.__init_subclass__",.ref 409]}
abbrev HL:Obj:={cls:= .type "dict",data:=Data.dict #[aE P "__name__" 165 (aD "law_framerooms_k26_ways_in" 873),aE P "__doc__" 166 (.none),aE P "__package__" 167 (.none),aE P "__loader__" 168 (.builtin ("__main__.__loader__#opa" ++ "que")),aE P "__spec__" 169 (.none),aE P "__annotations__" 170 (.ref 6),aE P "__builtins__" 171 (.ref 4),aE P "__file__" 173 (aD "/claim/cut.py" 172),aE P "__cached__" 174 (.none),aE P "_wall" 193 (.ref 21),aE P "RoomError" 221 (.ref 38),aE P "NoNumber" 246 (.ref 58),aE P "NoValue" 271 (.ref 77),aE P "NoFrame" 296 (.ref 96),aE P "Gone" 323 (.ref 115),aE P "Ground" 346 (.ref 134),aE P "TooMany" 371 (.ref 153),aE P "Full" 398 (.ref 172),aE P "NoWay" 423 (.ref 191),aE P "NoCell" 448 (.ref 210),aE P "NoHands" 473 (.ref 229),aE P "LETTERS" 477 (aD "abcdefghijklmnopqrstuvwxyz" 476),aE P "MOST_LETTERS" 479 (.int 6 478),aE P "is_number" 486 (.ref 238),aE P "is_whole" 495 (.ref 245),aE P "is_name" 501 (.ref 250),aE P "is_count" 508 (.ref 257),aE P "is_pair" 515 (.ref 264),aE P "ways_in" 523 (.ref 269),aE P "want_hands" 532 (.ref 276),aE P "are_hands" 538 (.ref 281),aE P "leads_in" 546 (.ref 288),aE P "links_of" 552 (.ref 293),aE P "GROUND" 556 (.int 0 555),aE P "MOST_FRAMES" 558 (.int 100 557),aE P "Frames" 704 (.ref 409),aE P "MOST_CELLS" 708 (.int 1000 707),aE P "MOST_CELLS_OF_ROOM" 710 (.int 6 709),aE P "House" 864 (.ref 534),aE P "want_cell" 872 (.ref 543),aE P "_law_cell" 882 (.ref 550),aE P "_law_box" 889 (.ref 557),aE P "_law_take" 899 (.ref 564),aE P "_law_names" 905 (.ref 569),aE P "_law_world" 912 (.ref 576),aE P "_law_row" 921 (.ref 583),aE P "_law_standing" 927 (.ref 588),aE P "_law_used" 933 (.ref 593),aE P "_law_begun" 941 (.ref 600),aE P "_law_given" 951 (.ref 607),aE P "_law_ended" 957 (.ref 612),aE P "_law_picture" 963 (.ref 617),aE P "_law_all_rooms" 972 (.ref 624),aE P "_law_value" 982 (.ref 631),aE P "_law_deed" 999 (.ref 638),aE P "_law_hands" 1005 (.ref 643),aE P "_law_inner" 1011 (.ref 648),aE P "_law_steps" 1017 (.ref 653),aE P "_law_scene" 1028 (.ref 660),aE P "_law_right" 1043 (.ref 667),aE P "law" 1054 (.ref 674)] 61}
abbrev JU:Obj:=yQ #[.int 1 0,.int 0 0,.ref 20,.int 5 0,.int 0 0,.ref 27,.int 9 0,.int 0 0,.ref 47,.int 14 0,.int 0 0,.ref 66,.int 19 0,.int 0 0,.ref 85,.int 24 0,.int 0 0,.ref 104,.int 30 0,.int 0 0,.ref 123,.int 34 0,.int 0 0,.ref 142,.int 39 0,.int 0 0,.ref 161,.int 45 0,.int 0 0,.ref 180,.int 50 0,.int 0 0,.ref 199,.int 55 0,.int 0 0,.ref 218,.int 63 0,.int 0 0,.ref 237,.int 65 0,.int 0 0,.ref 244,.int 67 0,.int 0 0,.ref 249,.int 71 0,.int 0 0,.ref 256,.int 73 0,.int 0 0,.ref 263,.int 78 0,.int 0 0,.ref 268,.int 87 0,.int 0 0,.ref 275,.int 91 0,.int 0 0,.ref 280,.int 95 0,.int 0 0,.ref 287,.int 97 0,.int 0 0,.ref 292,.int 102 0,.int 0 0,.ref 299,.int 178 0,.int 0 0,.ref 419,.int 259 0,.int 0 0,.ref 542,.int 263 0,.int 0 0,.ref 549,.int 267 0,.int 0 0,.ref 556,.int 269 0,.int 0 0,.ref 563,.int 278 0,.int 0 0,.ref 568,.int 292 0,.int 0 0,.ref 575,.int 294 0,.int 0 0,.ref 582,.int 299 0,.int 0 0,.ref 587,.int 301 0,.int 0 0,.ref 592,.int 303 0,.int 0 0,.ref 599,.int 309 0,.int 0 0,.ref 606,.int 316 0,.int 0 0,.ref 611,.int 324 0,.int 0 0,.ref 616,.int 330 0,.int 0 0,.ref 623,.int 335 0,.int 0 0,.ref 630,.int 347 0,.int 0 0,.ref 637,.int 366 0,.int 0 0,.ref 642,.int 371 0,.int 0 0,.ref 647,.int 373 0,.int 0 0,.ref 652,.int 381 0,.int 0 0,.ref 659,.int 389 0,.int 0 0,.ref 666,.int 401 0,.int 0 0,.ref 673]
abbrev Kb:Obj:={cls:= .type "type",data:=Data.cls {name:=Str.ofString "Frames",bases:=[.type "object"],mro:=[.ref 409,.type "object"],ns:=408,qualname:=Str.ofString "Frames",subclasses:=[.ref 534]},slots:= #[none,none,some (aD "Frames" 559),some (aD "Frames" 567),some (.builtin "object.__new__"),some (.bool true)]}
abbrev OO:Obj:=d9 #[.ref 409]
abbrev TC:Obj:={cls:= .type "dict",data:=Data.dict #[aE P "__module__" 718 (aD "framerooms.house" 705),aE P "__qualname__" 720 (aD "House" 719),aE P "__firstlineno__" 722 (.int 178 721),aE P "__init__" 730 (.ref 427),aE P "make" 742 (.ref 434),aE P "get" 752 (.ref 441),aE P "put" 763 (.ref 448),aE P "size" 771 (.ref 455),aE P "cells" 779 (.ref 462),aE P "used" 785 (.ref 467),aE P "left" 792 (.ref 474),aE P "limit" 799 (.ref 481),aE P "greatest" 806 (.ref 488),aE P "rooms" 812 (.ref 493),aE P "picture" 818 (.ref 498),aE P "picture_of" 824 (.ref 503),aE P "twin" 831 (.ref 510),aE P "is_way" 839 (.ref 517),aE P "is_value" 847 (.ref 524),aE P "want_room" 856 (.ref 531),aE P "__static_attributes__" 861 (.ref 532)] 21}
abbrev UT:Obj:=yQ #[.int 180 0,.int 4 0,.ref 426,.int 189 0,.int 4 0,.ref 433,.int 203 0,.int 4 0,.ref 440,.int 208 0,.int 4 0,.ref 447,.int 215 0,.int 4 0,.ref 454,.int 218 0,.int 4 0,.ref 461,.int 221 0,.int 4 0,.ref 466,.int 224 0,.int 4 0,.ref 473,.int 227 0,.int 4 0,.ref 480,.int 230 0,.int 4 0,.ref 487,.int 233 0,.int 4 0,.ref 492,.int 237 0,.int 4 0,.ref 497,.int 240 0,.int 4 0,.ref 502,.int 243 0,.int 4 0,.ref 509,.int 246 0,.int 4 0,.ref 516,.int 249 0,.int 4 0,.ref 523,.int 252 0,.int 4 0,.ref 530]
abbrev T5:Obj:=CP "House" "House" 713 178 417 716
abbrev XN:Obj:={cls:= .type "frame",slots:= #[some (.ref 419),some (.ref 3),some (.ref 416),none,some (aD "framerooms.house" 705),none,some (.ref 0)]}
abbrev Ou:Obj:=d9 #[aD "self" 726,aD "limit" 727]
abbrev TV:Obj:=dI "__init__" "House.__init__" dj
abbrev NU:Obj:=gC "__init__" "House.__init__" 723 180 2 421 728
abbrev Om:Obj:=dG "__init__" "House.__init__" dj "framerooms.house" 705 426
abbrev NI:Obj:=d9 #[aD "self" 734,aD "frame" 735,aD "size" 736,aD "spare" 737,aD "place" 738,aD "floor" 739]
abbrev Va:Obj:=dI "make" "House.make" fP
abbrev Nc:Obj:=gC "make" "House.make" 731 189 3 428 740
abbrev Qf:Obj:=dG "make" "House.make" fP "framerooms.house" 705 433
abbrev Ov:Obj:=d9 #[aD "self" 746,aD "way" 747,aD "k" 748,aD "room" 749]
abbrev XA:Obj:=dI "get" "House.get" (jp (top 34) 2)
abbrev N7:Obj:=gC "get" "House.get" 743 203 3 435 750
abbrev NA:Obj:=dG "get" "House.get" (jp (top 34) 2) "framerooms.house" 705 440
abbrev Qs:Obj:=d9 #[aD "self" 756,aD "way" 757,aD "k" 758,aD "value" 759,aD "room" 760]
abbrev Ul:Obj:=dI "put" "House.put" hV
abbrev NH:Obj:=gC "put" "House.put" 753 208 4 442 761
abbrev NV:Obj:=dG "put" "House.put" hV "framerooms.house" 705 447
abbrev Od:Obj:=d9 #[aD "self" 767,aD "way" 768]
abbrev Up:Obj:=dI "size" "House.size" (jp (top 34) 4)
abbrev PX:Obj:=gC "size" "House.size" 764 215 2 449 769
abbrev Oh:Obj:=dG "size" "House.size" (jp (top 34) 4) "framerooms.house" 705 454
abbrev NK:Obj:=d9 #[aD "self" 775,aD "way" 776]
abbrev Ub:Obj:=dI "cells" "House.cells" eX
abbrev Pb:Obj:=gC "cells" "House.cells" 772 218 2 456 777
abbrev O9:Obj:=dG "cells" "House.cells" eX "framerooms.house" 705 461
abbrev S7:Obj:=dI "used" "House.used" fM
abbrev N9:Obj:=vK #[aD "used" 780,aD "House.used" 781,aD "/claim/cut.py" 782,.int 221 0,.int 1 0,.int 0 0,.int 0 0,.int 3 0,.ref 463,.bool true,.int 181 0,.ref 464,.none,.none,.none,.ref 465,.int 783 0,.int 221 0,aD "/claim/cut.py" 784]
abbrev Qg:Obj:=dG "used" "House.used" fM "framerooms.house" 705 466
abbrev Pj:Obj:=d9 #[aD "self" 789]
abbrev XI:Obj:=dI "left" "House.left" fT
abbrev P2:Obj:=gC "left" "House.left" 786 224 1 468 790
abbrev Oy:Obj:=dG "left" "House.left" fT "framerooms.house" 705 473
abbrev Qa:Obj:=d9 #[aD "self" 796]
abbrev Vn:Obj:=dI "limit" "House.limit" (jp (top 34) 8)
abbrev Og:Obj:=gC "limit" "House.limit" 793 227 1 475 797
abbrev Po:Obj:=dG "limit" "House.limit" (jp (top 34) 8) "framerooms.house" 705 480
abbrev P8:Obj:=d9 #[aD "self" 803]
abbrev Xo:Obj:=dI "greatest" "House.greatest" df
abbrev P7:Obj:=gC "greatest" "House.greatest" 800 230 1 482 804
abbrev Pu:Obj:=dG "greatest" "House.greatest" df "framerooms.house" 705 487
abbrev TB:Obj:=dI "rooms" "House.rooms" ff
abbrev Oz:Obj:=vK #[aD "rooms" 807,aD "House.rooms" 808,aD "/claim/cut.py" 809,.int 233 0,.int 2 0,.int 0 0,.int 0 0,.int 3 0,.ref 489,.bool true,.int 181 0,.ref 490,.none,.none,.none,.ref 491,.int 810 0,.int 233 0,aD "/claim/cut.py" 811]
abbrev Pl:Obj:=dG "rooms" "House.rooms" ff "framerooms.house" 705 492
abbrev TH:Obj:=dI "picture" "House.picture" dJ
abbrev OH:Obj:=vK #[aD "picture" 813,aD "House.picture" 814,aD "/claim/cut.py" 815,.int 237 0,.int 1 0,.int 0 0,.int 0 0,.int 3 0,.ref 494,.bool true,.int 181 0,.ref 495,.none,.none,.none,.ref 496,.int 816 0,.int 237 0,aD "/claim/cut.py" 817]
abbrev OG:Obj:=dG "picture" "House.picture" dJ "framerooms.house" 705 497
abbrev Xa:Obj:=dI "picture_of" "House.picture_of" cD
abbrev Qv:Obj:=vK #[aD "picture_of" 819,aD "House.picture_of" 820,aD "/claim/cut.py" 821,.int 240 0,.int 2 0,.int 0 0,.int 0 0,.int 3 0,.ref 499,.bool true,.int 181 0,.ref 500,.none,.none,.none,.ref 501,.int 822 0,.int 240 0,aD "/claim/cut.py" 823]
abbrev Qm:Obj:=dG "picture_of" "House.picture_of" cD "framerooms.house" 705 502
abbrev O0:Obj:=d9 #[aD "self" 828]
abbrev UG:Obj:=dI "twin" "House.twin" (jp (top 34) 13)
abbrev P0:Obj:=gC "twin" "House.twin" 825 243 1 504 829
abbrev PF:Obj:=dG "twin" "House.twin" (jp (top 34) 13) "framerooms.house" 705 509
abbrev NZ:Obj:=d9 #[aD "self" 835,aD "thing" 836]
abbrev Tf:Obj:=dI "is_way" "House.is_way" eJ
abbrev OJ:Obj:=gC "is_way" "House.is_way" 832 246 2 511 837
abbrev Nk:Obj:=dG "is_way" "House.is_way" eJ "framerooms.house" 705 516
abbrev OI:Obj:=d9 #[aD "self" 843,aD "thing" 844]
abbrev U8:Obj:=dI "is_value" "House.is_value" cY
abbrev Ni:Obj:=gC "is_value" "House.is_value" 840 249 2 518 845
abbrev Oq:Obj:=dG "is_value" "House.is_value" cY "framerooms.house" 705 523
abbrev NN:Obj:=d9 #[aD "self" 851,aD "thing" 852,aD "taker" 853]
abbrev T2:Obj:=dI "want_room" "House.want_room" cS
abbrev Ql:Obj:=gC "want_room" "House.want_room" 848 252 2 525 854
abbrev Py:Obj:=dG "want_room" "House.want_room" cS "framerooms.house" 705 530
abbrev Nx:Obj:=d9 #[aD "bound" 857,aD "floors" 858,aD "lengths" 859,aD "peak" 860]
abbrev Nq:Obj:={cls:= .type "dict",data:=Data.dict #[aE P "__module__" 718 (aD "framerooms.house" 705),aE P "__firstlineno__" 722 (.int 178 721),aE P "__init__" 730 (.ref 427),aE P "make" 742 (.ref 434),aE P "get" 752 (.ref 441),aE P "put" 763 (.ref 448),aE P "size" 771 (.ref 455),aE P "cells" 779 (.ref 462),aE P "used" 785 (.ref 467),aE P "left" 792 (.ref 474),aE P "limit" 799 (.ref 481),aE P "greatest" 806 (.ref 488),aE P "rooms" 812 (.ref 493),aE P "picture" 818 (.ref 498),aE P "picture_of" 824 (.ref 503),aE P "twin" 831 (.ref 510),aE P "is_way" 839 (.ref 517),aE P "is_value" 847 (.ref 524),aE P "want_room" 856 (.ref 531),aE P "__static_attributes__" 861 (.ref 532),aE P "__doc__" 862 (.none)] 2}
abbrev NQ:Obj:={cls:= .type "type",data:=Data.cls {name:=Str.ofString "House",bases:=[.ref 409],mro:=[.ref 534,.ref 409,.type "object"],ns:=533,qualname:=Str.ofString "House"},slots:= #[some (.ref 414),none,some (aD "House" 711),some (aD "House" 719),some (.builtin "object.__new__"),some (.bool true)]}
abbrev Vc:Obj:={cls:= .type "super",data:=Data.fields #[.ref 534,.ref 534,.ref 534]}
abbrev Tq:Obj:={cls:= .type "builtin_function_or_method",data:=Data.fields #[.builtin "object.__init_subclass__",.ref 534]}
abbrev NT:Obj:=d9 #[aD "room" 868,aD "thing" 869]
abbrev Xd:Obj:=dI "want_cell" "want_cell" ig
abbrev OL:Obj:=gC "want_cell" "want_cell" 865 259 2 537 870
abbrev Pg:Obj:=dG "want_cell" "want_cell" ig "framerooms.house" 705 542
abbrev Pa:Obj:=d9 #[aD "_law_script" 878,aD "_law_k" 879]
abbrev Uc:Obj:=dI "_law_cell" "_law_cell" g_
abbrev Nw:Obj:=gC "_law_cell" "_law_cell" 875 263 2 544 880
abbrev OB:Obj:=dG "_law_cell" "_law_cell" g_ "law_framerooms_k26_ways_in" 873 549
abbrev N1:Obj:=d9 #[aD "_law_cell_here" 886]
abbrev Wq:Obj:=dI "_law_box" "_law_box" jm
abbrev PV:Obj:=gC "_law_box" "_law_box" 883 267 1 551 887
abbrev Qb:Obj:=dG "_law_box" "_law_box" jm "law_framerooms_k26_ways_in" 873 556
abbrev N5:Obj:=d9 #[aD "_law_box_here" 893,aD "_law_many" 894,aD "_law_digit" 895,aD "_law_number" 896]
abbrev Ve:Obj:=dI "_law_take" "_law_take" h9
abbrev Pq:Obj:=gC "_law_take" "_law_take" 890 269 2 558 897
abbrev Ox:Obj:=dG "_law_take" "_law_take" h9 "law_framerooms_k26_ways_in" 873 563
abbrev T3:Obj:=dI "_law_names" "_law_names" fU
abbrev Nu:Obj:=vK #[aD "_law_names" 900,aD "_law_names" 901,aD "/claim/cut.py" 902,.int 278 0,.int 2 0,.int 0 0,.int 0 0,.int 3 0,.ref 565,.bool true,.int 181 0,.ref 566,.none,.none,.none,.ref 567,.int 903 0,.int 278 0,aD "/claim/cut.py" 904]
abbrev Pt:Obj:=dG "_law_names" "_law_names" fU "law_framerooms_k26_ways_in" 873 568
abbrev O8:Obj:=d9 #[aD "_law_limit" 909]
abbrev XB:Obj:=dI "_law_world" "_law_world" fZ
abbrev PB:Obj:=gC "_law_world" "_law_world" 906 292 1 570 910
abbrev Qw:Obj:=dG "_law_world" "_law_world" fZ "law_framerooms_k26_ways_in" 873 575
abbrev N_:Obj:=d9 #[aD "_law_world_here" 916,aD "_law_frame" 917,aD "_law_found" 918]
abbrev V4:Obj:=dI "_law_row" "_law_row" i9
abbrev NS:Obj:=gC "_law_row" "_law_row" 913 294 2 577 919
abbrev Nr:Obj:=dG "_law_row" "_law_row" i9 "law_framerooms_k26_ways_in" 873 582
abbrev Wh:Obj:=dI "_law_standing" "_law_standing" dM
abbrev Oa:Obj:=vK #[aD "_law_standing" 922,aD "_law_standing" 923,aD "/claim/cut.py" 924,.int 299 0,.int 1 0,.int 0 0,.int 0 0,.int 3 0,.ref 584,.bool true,.int 181 0,.ref 585,.none,.none,.none,.ref 586,.int 925 0,.int 299 0,aD "/claim/cut.py" 926]
abbrev OK:Obj:=dG "_law_standing" "_law_standing" dM "law_framerooms_k26_ways_in" 873 587
abbrev Vl:Obj:=dI "_law_used" "_law_used" g7
abbrev OS:Obj:=vK #[aD "_law_used" 928,aD "_law_used" 929,aD "/claim/cut.py" 930,.int 301 0,.int 1 0,.int 0 0,.int 0 0,.int 3 0,.ref 589,.bool true,.int 181 0,.ref 590,.none,.none,.none,.ref 591,.int 931 0,.int 301 0,aD "/claim/cut.py" 932]
abbrev Nn:Obj:=dG "_law_used" "_law_used" g7 "law_framerooms_k26_ways_in" 873 592
abbrev Nz:Obj:=d9 #[aD "_law_world_here" 937,aD "_law_frame" 938]
abbrev UW:Obj:=dI "_law_begun" "_law_begun" fX
abbrev Qh:Obj:=gC "_law_begun" "_law_begun" 934 303 2 594 939
abbrev PJ:Obj:=dG "_law_begun" "_law_begun" fX "law_framerooms_k26_ways_in" 873 599
abbrev NC:Obj:=d9 #[aD "_law_world_here" 945,aD "_law_frame" 946,aD "_law_size" 947,aD "_law_way" 948]
abbrev TK:Obj:=dI "_law_given" "_law_given" fN
abbrev Ph:Obj:=gC "_law_given" "_law_given" 942 309 3 601 949
abbrev Of:Obj:=dG "_law_given" "_law_given" fN "law_framerooms_k26_ways_in" 873 606
abbrev Vf:Obj:=dI "_law_ended" "_law_ended" fL
abbrev NP:Obj:=vK #[aD "_law_ended" 952,aD "_law_ended" 953,aD "/claim/cut.py" 954,.int 316 0,.int 2 0,.int 0 0,.int 0 0,.int 3 0,.ref 608,.bool true,.int 181 0,.ref 609,.none,.none,.none,.ref 610,.int 955 0,.int 316 0,aD "/claim/cut.py" 956]
abbrev Pd:Obj:=dG "_law_ended" "_law_ended" fL "law_framerooms_k26_ways_in" 873 611
abbrev WL:Obj:=dI "_law_picture" "_law_picture" eE
abbrev PD:Obj:=vK #[aD "_law_picture" 958,aD "_law_picture" 959,aD "/claim/cut.py" 960,.int 324 0,.int 1 0,.int 0 0,.int 0 0,.int 3 0,.ref 613,.bool true,.int 181 0,.ref 614,.none,.none,.none,.ref 615,.int 961 0,.int 324 0,aD "/claim/cut.py" 962]
abbrev NO:Obj:=dG "_law_picture" "_law_picture" eE "law_framerooms_k26_ways_in" 873 616
abbrev PR:Obj:=d9 #[aD "_law_world_here" 967,aD "_law_found" 968,aD "_law_frame" 969]
abbrev VQ:Obj:=dI "_law_all_rooms" "_law_all_rooms" di
abbrev Pk:Obj:=gC "_law_all_rooms" "_law_all_rooms" 964 330 1 618 970
abbrev OM:Obj:=dG "_law_all_rooms" "_law_all_rooms" di "law_framerooms_k26_ways_in" 873 623
abbrev P4:Obj:=d9 #[aD "_law_box_here" 976,aD "_law_world_here" 977,aD "_law_kind" 978,aD "_law_some" 979]
abbrev TL:Obj:=dI "_law_value" "_law_value" gh
abbrev Np:Obj:=gC "_law_value" "_law_value" 973 335 2 625 980
abbrev NJ:Obj:=dG "_law_value" "_law_value" gh "law_framerooms_k26_ways_in" 873 630
abbrev Nj:Obj:=d9 #[aD "_law_box_here" 986,aD "_law_house" 987,aD "_law_world_here" 988,aD "_law_kind" 989,aD "_law_standing_here" 990,aD "_law_frame" 991,aD "_law_some" 992,aD "_law_size" 993,aD "_law_way" 994,aD "_law_k" 995,aD "_law_value_here" 996]
abbrev UN:Obj:=dI "_law_deed" "_law_deed" h_
abbrev NL:Obj:=gC "_law_deed" "_law_deed" 983 347 3 632 997
abbrev PH:Obj:=dG "_law_deed" "_law_deed" h_ "law_framerooms_k26_ways_in" 873 637
abbrev WH:Obj:=dI "_law_hands" "_law_hands" gw
abbrev P6:Obj:=vK #[aD "_law_hands" 1000,aD "_law_hands" 1001,aD "/claim/cut.py" 1002,.int 366 0,.int 2 0,.int 0 0,.int 0 0,.int 3 0,.ref 639,.bool true,.int 181 0,.ref 640,.none,.none,.none,.ref 641,.int 1003 0,.int 366 0,aD "/claim/cut.py" 1004]
abbrev Qe:Obj:=dG "_law_hands" "_law_hands" gw "law_framerooms_k26_ways_in" 873 642
abbrev Uu:Obj:=dI "_law_inner" "_law_inner" fR
abbrev Oj:Obj:=vK #[aD "_law_inner" 1006,aD "_law_inner" 1007,aD "/claim/cut.py" 1008,.int 371 0,.int 2 0,.int 0 0,.int 0 0,.int 3 0,.ref 644,.bool true,.int 181 0,.ref 645,.none,.none,.none,.ref 646,.int 1009 0,.int 371 0,aD "/claim/cut.py" 1010]
abbrev Qr:Obj:=dG "_law_inner" "_law_inner" fR "law_framerooms_k26_ways_in" 873 647
abbrev Ua:Obj:=dI "_law_steps" "_law_steps" gp
abbrev Qx:Obj:=vK #[aD "_law_steps" 1012,aD "_law_steps" 1013,aD "/claim/cut.py" 1014,.int 373 0,.int 3 0,.int 0 0,.int 0 0,.int 3 0,.ref 649,.bool true,.int 181 0,.ref 650,.none,.none,.none,.ref 651,.int 1015 0,.int 373 0,aD "/claim/cut.py" 1016]
abbrev Ng:Obj:=dG "_law_steps" "_law_steps" gp "law_framerooms_k26_ways_in" 873 652
abbrev Ol:Obj:=d9 #[aD "_law_box_here" 1021,aD "_law_limit" 1022,aD "_law_house" 1023,aD "_law_world_here" 1024,aD "_law_turn" 1025]
abbrev WZ:Obj:=dI "_law_scene" "_law_scene" gy
abbrev P_:Obj:=gC "_law_scene" "_law_scene" 1018 381 1 654 1026
abbrev N4:Obj:=dG "_law_scene" "_law_scene" gy "law_framerooms_k26_ways_in" 873 659
abbrev OT:Obj:=d9 #[aD "_law_house" 1032,aD "_law_world_here" 1033,aD "_law_hands_here" 1034,aD "_law_other" 1035,aD "_law_frame" 1036,aD "_law_some" 1037,aD "_law_due" 1038,aD "_law_handed" 1039,aD "_law_found" 1040]
abbrev Uk:Obj:=dI "_law_right" "_law_right" gx
abbrev OZ:Obj:=gC "_law_right" "_law_right" 1029 389 3 661 1041
abbrev N6:Obj:=dG "_law_right" "_law_right" gx "law_framerooms_k26_ways_in" 873 666
abbrev Qk:Obj:=d9 #[aD "_law_script" 1047,aD "_law_beside" 1048,aD "_law_k" 1049,aD "_law_box_here" 1050,aD "_law_scene_here" 1051]
abbrev Xm:Obj:=dI "law" "law" zJ
abbrev Pc:Obj:=gC "law" "law" 1044 401 1 668 1052
abbrev Nf:Obj:=dG "law" "law" zJ "law_framerooms_k26_ways_in" 873 673
def nI:Heap:=⟨⟨[boot_o_0 P,boot_o_1 P,boot_o_2 P,boot_o_3 P,boot_o_4 P,boot_o_5 P,boot_o_6 P,boot_o_7 P,boot_o_8 P,boot_o_9 P,boot_o_10 P,ag,aJ,FJ,FH]⟩,{}⟩
def uX:Heap:=⟨⟨[boot_o_0 P,boot_o_1 P,boot_o_2 P,Kn P,boot_o_4 P,boot_o_5 P,boot_o_6 P,boot_o_7 P,boot_o_8 P,boot_o_9 P,boot_o_10 P,ag,VJ,FJ,FH,ag,aJ,F_,ag,KA,Ke,Hh,GV,cP,Lq P,ag,MR,LP,L4,ag,aJ,JQ,ag,L0,Jr,HP,ag,Jh P,aen,IQ,Mf,MV,cA,cP,Ml P,ag,Na,M_,LN,ag,aJ,FE,ag,KG,IH,Hk,G9,JE P,Jo,Ll,Nb,cA,cP,Ky P,ag,LJ,MX,KU,ag,aJ,J4,ag,LG,Hl,IP,Gs,GF P,GW,Ls,MB,cA,cP,K0 P,ag,KL,LI,LA,ag,aJ,Kh,ag,LC,JA,FX,HI,IU P,HG,KQ,Lm,cA,cP,DE P,ag,Dk,Dw,CT,ag,aJ,zP,ag,Cf,zx,zH,zC,AQ P,y4,Cv,C_,cA,cP,CA P,ag,DW,DR,Dz,ag,aJ,Ag,ag,Dt,Ae,yW,ag,y9 P,AH,De,DH,cA,cP,Cq P,ag,Dd,CU,Dm,ag,aJ,zT,ag,DN,y8,Aw,zZ,zj P,zq,DC,DA,cA,cP,DO P,ag,CW,Cs,DZ,ag,aJ,zS,ag,Cw,zg,yY,zW,Ab P,AS,CF,DQ]⟩,{}⟩
def rF:Heap:=⟨⟨[boot_o_0 P,boot_o_1 P,boot_o_2 P,aaR P,boot_o_4 P,boot_o_5 P,boot_o_6 P,boot_o_7 P,boot_o_8 P,boot_o_9 P,boot_o_10 P,ag,QW,FJ,FH,ag,aJ,F_,ag,KA,Ke,Hh,GV,cP,Lq P,ag,MR,LP,L4,ag,aJ,JQ,ag,L0,Jr,HP,ag,Jh P,Dh,IQ,Mf,MV,cA,cP,Ml P,ag,Na,M_,LN,ag,aJ,FE,ag,KG,IH,Hk,G9,JE P,Jo,Ll,Nb,cA,cP,Ky P,ag,LJ,MX,KU,ag,aJ,J4,ag,LG,Hl,IP,Gs,GF P,GW,Ls,MB,cA,cP,K0 P,ag,KL,LI,LA,ag,aJ,Kh,ag,LC,JA,FX,HI,IU P,HG,KQ,Lm,cA,cP,DE P,ag,Dk,Dw,CT,ag,aJ,zP,ag,Cf,zx,zH,zC,AQ P,y4,Cv,C_,cA,cP,CA P,ag,DW,DR,Dz,ag,aJ,Ag,ag,Dt,Ae,yW,ag,y9 P,AH,De,DH,cA,cP,Cq P,ag,Dd,CU,Dm,ag,aJ,zT,ag,DN,y8,Aw,zZ,zj P,zq,DC,DA,cA,cP,DO P,ag,CW,Cs,DZ,ag,aJ,zS,ag,Cw,zg,yY,zW,Ab P,AS,CF,DQ,cA,cP,G2 P,ag,JI,JN,JL,ag,aJ,Cu,ag,JW,Ct,Cj,Df,Ds P,C2,JC,Gz,cA,cP,Hq P,ag,HC,FY,HM,ag,aJ,Cg,ag,GJ,Cp,Co,CI,DB P,Dv,JX,Ia,cA,cP,G4 P,ag,HQ,JO,GX,ag,aJ,CN,ag,Hf,Dr,CS,CL,Dq P,C9,Ga,FG,ag,aJ,Cr,ag,II,DL,CK,ag,aJ,Du,ag,F8,DK,CO,ag,aJ,Ir,DU,Cn,ag,aJ,Ck,ag,Gh,C6,DP,ag,aJ,Cz,ag,JH,Dy,C8,ag,aJ,G8,C3,CQ]⟩,{}⟩
def r_:Heap:=⟨⟨[boot_o_0 P,boot_o_1 P,boot_o_2 P,W9 P,boot_o_4 P,boot_o_5 P,boot_o_6 P,boot_o_7 P,boot_o_8 P,boot_o_9 P,boot_o_10 P,ag,K8,FJ,FH,ag,aJ,F_,ag,KA,Ke,Hh,GV,cP,Lq P,ag,MR,LP,L4,ag,aJ,JQ,ag,L0,Jr,HP,ag,Jh P,Dh,IQ,Mf,MV,cA,cP,Ml P,ag,Na,M_,LN,ag,aJ,FE,ag,KG,IH,Hk,G9,JE P,Jo,Ll,Nb,cA,cP,Ky P,ag,LJ,MX,KU,ag,aJ,J4,ag,LG,Hl,IP,Gs,GF P,GW,Ls,MB,cA,cP,K0 P,ag,KL,LI,LA,ag,aJ,Kh,ag,LC,JA,FX,HI,IU P,HG,KQ,Lm,cA,cP,DE P,ag,Dk,Dw,CT,ag,aJ,zP,ag,Cf,zx,zH,zC,AQ P,y4,Cv,C_,cA,cP,CA P,ag,DW,DR,Dz,ag,aJ,Ag,ag,Dt,Ae,yW,ag,y9 P,AH,De,DH,cA,cP,Cq P,ag,Dd,CU,Dm,ag,aJ,zT,ag,DN,y8,Aw,zZ,zj P,zq,DC,DA,cA,cP,DO P,ag,CW,Cs,DZ,ag,aJ,zS,ag,Cw,zg,yY,zW,Ab P,AS,CF,DQ,cA,cP,G2 P,ag,JI,JN,JL,ag,aJ,Cu,ag,JW,Ct,Cj,Df,Ds P,C2,JC,Gz,cA,cP,Hq P,ag,HC,FY,HM,ag,aJ,Cg,ag,GJ,Cp,Co,CI,DB P,Dv,JX,Ia,cA,cP,G4 P,ag,HQ,JO,GX,ag,aJ,CN,ag,Hf,Dr,CS,CL,Dq P,C9,Ga,FG,ag,aJ,Cr,ag,II,DL,CK,ag,aJ,Du,ag,F8,DK,CO,ag,aJ,Ir,DU,Cn,ag,aJ,Ck,ag,Gh,C6,DP,ag,aJ,Cz,ag,JH,Dy,C8,ag,aJ,G8,C3,CQ,ag,aJ,Ka,ag,NB,IK,GH,ag,aJ,OQ,Jt,FN,ag,aJ,Hm,ag,PL,Ju,Jm,ag,aJ,Nh,IL,IG,ag,cP,Nv P,ag,P1,Nd,Pm,ag,aJ,HD,ag,OD,JD,FL,ag,aJ,HR,ag,PZ,Jv,Iz,ag,aJ,Jx,ag,Qj,Gw,GL,ag,aJ,Oe,JS,Jb,ag,aJ,Ig,ag,Ow,Ja,IT,ag,aJ,GY,ag,Nl,HK,I0,ag,aJ,Pw,Ii,J6,ag,aJ,FF,ag,OA,FQ,GQ,ag,aJ,Gi,ag,OR,J3,He,ag,aJ,NG,Iu,FT,ag,aJ,J5,ag,OE,GP,Jc,ag,aJ,Jn,ag,Oi,JB,IW,ag,aJ,Gp,ag,P9,GN,Hj,ag,aJ,HE,ag,Nt,Gj,J_,ag,aJ,IB,ag,NR,Ik,Gy,ag,aJ,Hx,ag,OU,HB,GO,Kf,GU P,UE,Ge,GZ,Pz,Pn]⟩,{}⟩
def bV:Heap:=⟨⟨[boot_o_0 P,boot_o_1 P,boot_o_2 P,HL P,boot_o_4 P,boot_o_5 P,boot_o_6 P,boot_o_7 P,boot_o_8 P,boot_o_9 P,boot_o_10 P,ag,JU,FJ,FH,ag,aJ,F_,ag,KA,Ke,Hh,GV,cP,Lq P,ag,MR,LP,L4,ag,aJ,JQ,ag,L0,Jr,HP,ag,Jh P,Dh,IQ,Mf,MV,cA,cP,Ml P,ag,Na,M_,LN,ag,aJ,FE,ag,KG,IH,Hk,G9,JE P,Jo,Ll,Nb,cA,cP,Ky P,ag,LJ,MX,KU,ag,aJ,J4,ag,LG,Hl,IP,Gs,GF P,GW,Ls,MB,cA,cP,K0 P,ag,KL,LI,LA,ag,aJ,Kh,ag,LC,JA,FX,HI,IU P,HG,KQ,Lm,cA,cP,DE P,ag,Dk,Dw,CT,ag,aJ,zP,ag,Cf,zx,zH,zC,AQ P,y4,Cv,C_,cA,cP,CA P,ag,DW,DR,Dz,ag,aJ,Ag,ag,Dt,Ae,yW,ag,y9 P,AH,De,DH,cA,cP,Cq P,ag,Dd,CU,Dm,ag,aJ,zT,ag,DN,y8,Aw,zZ,zj P,zq,DC,DA,cA,cP,DO P,ag,CW,Cs,DZ,ag,aJ,zS,ag,Cw,zg,yY,zW,Ab P,AS,CF,DQ,cA,cP,G2 P,ag,JI,JN,JL,ag,aJ,Cu,ag,JW,Ct,Cj,Df,Ds P,C2,JC,Gz,cA,cP,Hq P,ag,HC,FY,HM,ag,aJ,Cg,ag,GJ,Cp,Co,CI,DB P,Dv,JX,Ia,cA,cP,G4 P,ag,HQ,JO,GX,ag,aJ,CN,ag,Hf,Dr,CS,CL,Dq P,C9,Ga,FG,ag,aJ,Cr,ag,II,DL,CK,ag,aJ,Du,ag,F8,DK,CO,ag,aJ,Ir,DU,Cn,ag,aJ,Ck,ag,Gh,C6,DP,ag,aJ,Cz,ag,JH,Dy,C8,ag,aJ,G8,C3,CQ,ag,aJ,Ka,ag,NB,IK,GH,ag,aJ,OQ,Jt,FN,ag,aJ,Hm,ag,PL,Ju,Jm,ag,aJ,Nh,IL,IG,ag,cP,Nv P,ag,P1,Nd,Pm,ag,aJ,HD,ag,OD,JD,FL,ag,aJ,HR,ag,PZ,Jv,Iz,ag,aJ,Jx,ag,Qj,Gw,GL,ag,aJ,Oe,JS,Jb,ag,aJ,Ig,ag,Ow,Ja,IT,ag,aJ,GY,ag,Nl,HK,I0,ag,aJ,Pw,Ii,J6,ag,aJ,FF,ag,OA,FQ,GQ,ag,aJ,Gi,ag,OR,J3,He,ag,aJ,NG,Iu,FT,ag,aJ,J5,ag,OE,GP,Jc,ag,aJ,Jn,ag,Oi,JB,IW,ag,aJ,Gp,ag,P9,GN,Hj,ag,aJ,HE,ag,Nt,Gj,J_,ag,aJ,IB,ag,NR,Ik,Gy,ag,aJ,Hx,ag,OU,HB,GO,Kf,GU P,Kb,Ge,GZ,Pz,Pn,OO,cP,TC P,ag,UT,T5,XN,ag,aJ,Ou,ag,TV,NU,Om,ag,aJ,NI,ag,Va,Nc,Qf,ag,aJ,Ov,ag,XA,N7,NA,ag,aJ,Qs,ag,Ul,NH,NV,ag,aJ,Od,ag,Up,PX,Oh,ag,aJ,NK,ag,Ub,Pb,O9,ag,aJ,S7,N9,Qg,ag,aJ,Pj,ag,XI,P2,Oy,ag,aJ,Qa,ag,Vn,Og,Po,ag,aJ,P8,ag,Xo,P7,Pu,ag,aJ,TB,Oz,Pl,ag,aJ,TH,OH,OG,ag,aJ,Xa,Qv,Qm,ag,aJ,O0,ag,UG,P0,PF,ag,aJ,NZ,ag,Tf,OJ,Nk,ag,aJ,OI,ag,U8,Ni,Oq,ag,aJ,NN,ag,T2,Ql,Py,Nx,Nq P,NQ,Vc,Tq,ag,aJ,NT,ag,Xd,OL,Pg,ag,aJ,Pa,ag,Uc,Nw,OB,ag,aJ,N1,ag,Wq,PV,Qb,ag,aJ,N5,ag,Ve,Pq,Ox,ag,aJ,T3,Nu,Pt,ag,aJ,O8,ag,XB,PB,Qw,ag,aJ,N_,ag,V4,NS,Nr,ag,aJ,Wh,Oa,OK,ag,aJ,Vl,OS,Nn,ag,aJ,Nz,ag,UW,Qh,PJ,ag,aJ,NC,ag,TK,Ph,Of,ag,aJ,Vf,NP,Pd,ag,aJ,WL,PD,NO,ag,aJ,PR,ag,VQ,Pk,OM,ag,aJ,P4,ag,TL,Np,NJ,ag,aJ,Nj,ag,UN,NL,PH,ag,aJ,WH,P6,Qe,ag,aJ,Uu,Oj,Qr,ag,aJ,Ua,Qx,Ng,ag,aJ,Ol,ag,WZ,P_,N4,ag,aJ,OT,ag,Uk,OZ,N6,ag,aJ,Qk,ag,Xm,Pc,Nf]⟩,{}⟩
end
noncomputable abbrev jN:Program:=PySem.Challenge.rw_framerooms_k26_ways_in.row.prog
noncomputable def my:Env:={scope:=jN.main.scope,locals:=mainNs,globals:=mainNs,cells:=[],code:=Value.ref 13,frame:=some 14}
noncomputable def sC:List Stmt:=behindTheImports jN
noncomputable def v9:Code:=Code.body sC my
def i7:aN:=some (Value.ref 6)
abbrev Ez:Pos:={line:=0,col:=0,endLine:=0,endCol:=0}
theorem Hn(w:World)(os:OsState):topGo treeTable jN w 11 i7 12 ⟨boot_heap w.params,⟨[]⟩,boot_drawn,boot_toks,os⟩ (topStub jN)=some (⟨nI w.params,⟨[]⟩,{},187,os⟩,⟨denote treeTable v9,v9,{line:=0,col:=0,endLine:=0,endCol:=0},[topFrame Ez]⟩):=by kernel_rfl
theorem Cd(w:World)(os:OsState):segRun treeTable jN w 11 i7 1 1 ⟨nI w.params,⟨[]⟩,{},187,os⟩ (blockOf sC my v9 {line:=0,col:=0,endLine:=0,endCol:=0} [topFrame Ez])=some (.next,⟨nI w.params,⟨[]⟩,{},187,os⟩,v9,{line:=0,col:=0,endLine:=0,endCol:=0}):=by kernel_rfl
theorem R6(w:World)(os:OsState):segRun treeTable jN w 11 i7 1 1973 ⟨nI w.params,⟨[]⟩,{},187,os⟩ (piecesOf ((sC.drop 0).take 10) my v9 {line:=0,col:=0,endLine:=0,endCol:=0} [topFrame Ez])=some (.next,⟨uX w.params,⟨[]⟩,{},399,os⟩,v9,{line:=39,col:=0,endLine:=44,endCol:=26}):=by kernel_rfl
theorem Mg(w:World)(os:OsState):segRun treeTable jN w 11 i7 1 942 ⟨uX w.params,⟨[]⟩,{},399,os⟩ (piecesOf ((sC.drop 10).take 13) my v9 {line:=39,col:=0,endLine:=44,endCol:=26} [topFrame Ez])=some (.next,⟨rF w.params,⟨[]⟩,{},524,os⟩,v9,{line:=78,col:=0,endLine:=86,endCol:=16}):=by kernel_rfl
theorem MD(w:World)(os:OsState):segRun treeTable jN w 11 i7 1 861 ⟨rF w.params,⟨[]⟩,{},524,os⟩ (piecesOf ((sC.drop 23).take 11) my v9 {line:=78,col:=0,endLine:=86,endCol:=16} [topFrame Ez])=some (.next,⟨r_ w.params,⟨[]⟩,{},711,os⟩,v9,{line:=177,col:=0,endLine:=177,endCol:=18}):=by kernel_rfl
theorem Lb(w:World)(os:OsState):segRun treeTable jN w 11 i7 1 1416 ⟨r_ w.params,⟨[]⟩,{},711,os⟩ (piecesOf ((sC.drop 34).take 24) my v9 {line:=177,col:=0,endLine:=177,endCol:=18} [topFrame Ez])=some (.next,⟨bV w.params,⟨[]⟩,{},1055,os⟩,v9,{line:=401,col:=0,endLine:=413,endCol:=15}):=by kernel_rfl
theorem Hs(w:World)(os:OsState):topRun treeTable jN w 11 i7 2 ⟨bV w.params,⟨[]⟩,{},1055,os⟩ ⟨doneF .next,v9,{line:=401,col:=0,endLine:=413,endCol:=15},[topFrame Ez]⟩=some ⟨bV w.params,⟨[]⟩,{},1055,os⟩:=by kernel_rfl
theorem Wx(w:World)(os:OsState):topRun treeTable jN w 11 i7 2 ⟨bV w.params,⟨[]⟩,{},1055,os⟩ (restOf [] my v9 {line:=401,col:=0,endLine:=413,endCol:=15} [topFrame Ez])=some ⟨bV w.params,⟨[]⟩,{},1055,os⟩:=piece_nil (Hs w os)
theorem S3:sC.drop 58=[]:=by kernel_rfl
theorem EL:((sC.drop 34).take 24)++([])=sC.drop 34:=by rw[←S3];have:=List.take_append_drop 24 (sC.drop 34);rwa[List.drop_drop] at this
theorem Jp(w:World)(os:OsState):topRun treeTable jN w 11 i7 (1416+2) ⟨r_ w.params,⟨[]⟩,{},711,os⟩ (restOf (sC.drop 34) my v9 {line:=177,col:=0,endLine:=177,endCol:=18} [topFrame Ez])=some ⟨bV w.params,⟨[]⟩,{},1055,os⟩:=by rw[←EL];exact piece_app (Lb w os) (Wx w os)
theorem EJ:((sC.drop 23).take 11)++(sC.drop 34)=sC.drop 23:=by have:=List.take_append_drop 11 (sC.drop 23);rwa[List.drop_drop] at this
theorem HU(w:World)(os:OsState):topRun treeTable jN w 11 i7 (861+(1416+2)) ⟨rF w.params,⟨[]⟩,{},524,os⟩ (restOf (sC.drop 23) my v9 {line:=78,col:=0,endLine:=86,endCol:=16} [topFrame Ez])=some ⟨bV w.params,⟨[]⟩,{},1055,os⟩:=by rw[←EJ];exact piece_app (MD w os) (Jp w os)
theorem Eb:((sC.drop 10).take 13)++(sC.drop 23)=sC.drop 10:=by have:=List.take_append_drop 13 (sC.drop 10);rwa[List.drop_drop] at this
theorem JG(w:World)(os:OsState):topRun treeTable jN w 11 i7 (942+(861+(1416+2))) ⟨uX w.params,⟨[]⟩,{},399,os⟩ (restOf (sC.drop 10) my v9 {line:=39,col:=0,endLine:=44,endCol:=26} [topFrame Ez])=some ⟨bV w.params,⟨[]⟩,{},1055,os⟩:=by rw[←Eb];exact piece_app (Mg w os) (HU w os)
theorem IJ:((sC.drop 0).take 10)++(sC.drop 10)=sC.drop 0:=by have:=List.take_append_drop 10 (sC.drop 0);rwa[List.drop_drop] at this
theorem Mt(w:World)(os:OsState):topRun treeTable jN w 11 i7 (1973+(942+(861+(1416+2)))) ⟨nI w.params,⟨[]⟩,{},187,os⟩ (restOf (sC.drop 0) my v9 {line:=0,col:=0,endLine:=0,endCol:=0} [topFrame Ez])=some ⟨bV w.params,⟨[]⟩,{},1055,os⟩:=by rw[←IJ];exact piece_app (R6 w os) (JG w os)
theorem Rx(w:World)(os:OsState):topRun treeTable jN w 11 i7 (1+(1973+(942+(861+(1416+2))))) ⟨nI w.params,⟨[]⟩,{},187,os⟩ ⟨denote treeTable v9,v9,{line:=0,col:=0,endLine:=0,endCol:=0},[topFrame Ez]⟩=some ⟨bV w.params,⟨[]⟩,{},1055,os⟩:=piece_block (Cd w os) (Mt w os)
theorem S_(w:World)(os:OsState):topRun treeTable jN w 11 i7 (12+(1+(1973+(942+(861+(1416+2)))))) ⟨boot_heap w.params,⟨[]⟩,boot_drawn,boot_toks,os⟩ (topStub jN)=some ⟨bV w.params,⟨[]⟩,{},1055,os⟩:=go_top (Hn w os) (Rx w os)
end hd
noncomputable def A8:PySem.Params→Frag:=fun P=>(nat_lit 2,PySem.W.boot_o_2 P)::(nat_lit 3,HL P)::(nat_lit 15,ag)::(nat_lit 17,F_)::(nat_lit 18,ag)::(nat_lit 20,Ke)::(nat_lit 21,Hh)::(nat_lit 22,GV)::(nat_lit 29,ag)::(nat_lit 31,JQ)::(nat_lit 32,ag)::(nat_lit 34,Jr)::(nat_lit 35,HP)::(nat_lit 36,ag)::(nat_lit 37,Jh P)::(nat_lit 38,Dh)::(nat_lit 39,IQ)::(nat_lit 42,cA)::(nat_lit 49,ag)::(nat_lit 51,FE)::(nat_lit 52,ag)::(nat_lit 54,IH)::(nat_lit 55,Hk)::(nat_lit 56,G9)::(nat_lit 57,JE P)::(nat_lit 58,Jo)::(nat_lit 61,cA)::(nat_lit 68,ag)::(nat_lit 70,J4)::(nat_lit 71,ag)::(nat_lit 73,Hl)::(nat_lit 74,IP)::(nat_lit 75,Gs)::(nat_lit 76,GF P)::(nat_lit 77,GW)::(nat_lit 80,cA)::(nat_lit 87,ag)::(nat_lit 89,Kh)::(nat_lit 90,ag)::(nat_lit 92,JA)::(nat_lit 93,FX)::(nat_lit 94,HI)::(nat_lit 95,IU P)::(nat_lit 96,HG)::(nat_lit 99,cA)::(nat_lit 106,ag)::(nat_lit 108,zP)::(nat_lit 109,ag)::(nat_lit 111,zx)::(nat_lit 112,zH)::(nat_lit 113,zC)::(nat_lit 114,AQ P)::(nat_lit 115,y4)::(nat_lit 118,cA)::(nat_lit 125,ag)::(nat_lit 127,Ag)::(nat_lit 128,ag)::(nat_lit 130,Ae)::(nat_lit 131,yW)::(nat_lit 132,ag)::(nat_lit 133,y9 P)::(nat_lit 134,AH)::(nat_lit 137,cA)::(nat_lit 144,ag)::(nat_lit 146,zT)::(nat_lit 147,ag)::(nat_lit 149,y8)::(nat_lit 150,Aw)::(nat_lit 151,zZ)::(nat_lit 152,zj P)::(nat_lit 153,zq)::(nat_lit 156,cA)::(nat_lit 163,ag)::(nat_lit 165,zS)::(nat_lit 166,ag)::(nat_lit 168,zg)::(nat_lit 169,yY)::(nat_lit 170,zW)::(nat_lit 171,Ab P)::(nat_lit 172,AS)::(nat_lit 175,cA)::(nat_lit 182,ag)::(nat_lit 184,Cu)::(nat_lit 185,ag)::(nat_lit 187,Ct)::(nat_lit 188,Cj)::(nat_lit 189,Df)::(nat_lit 190,Ds P)::(nat_lit 191,C2)::(nat_lit 194,cA)::(nat_lit 201,ag)::(nat_lit 203,Cg)::(nat_lit 204,ag)::(nat_lit 206,Cp)::(nat_lit 207,Co)::(nat_lit 208,CI)::(nat_lit 209,DB P)::(nat_lit 210,Dv)::(nat_lit 213,cA)::(nat_lit 220,ag)::(nat_lit 222,CN)::(nat_lit 223,ag)::(nat_lit 225,Dr)::(nat_lit 226,CS)::(nat_lit 227,CL)::(nat_lit 228,Dq P)::(nat_lit 229,C9)::(nat_lit 232,ag)::(nat_lit 234,Cr)::(nat_lit 235,ag)::(nat_lit 237,DL)::(nat_lit 238,CK)::(nat_lit 239,ag)::(nat_lit 241,Du)::(nat_lit 242,ag)::(nat_lit 244,DK)::(nat_lit 245,CO)::(nat_lit 246,ag)::(nat_lit 249,DU)::(nat_lit 250,Cn)::(nat_lit 251,ag)::(nat_lit 253,Ck)::(nat_lit 254,ag)::(nat_lit 256,C6)::(nat_lit 257,DP)::(nat_lit 258,ag)::(nat_lit 260,Cz)::(nat_lit 261,ag)::(nat_lit 263,Dy)::(nat_lit 264,C8)::(nat_lit 265,ag)::(nat_lit 268,C3)::(nat_lit 269,CQ)::(nat_lit 270,ag)::(nat_lit 272,Ka)::(nat_lit 273,ag)::(nat_lit 275,IK)::(nat_lit 276,GH)::(nat_lit 277,ag)::(nat_lit 280,Jt)::(nat_lit 281,FN)::(nat_lit 282,ag)::(nat_lit 284,Hm)::(nat_lit 285,ag)::(nat_lit 287,Ju)::(nat_lit 288,Jm)::(nat_lit 289,ag)::(nat_lit 292,IL)::(nat_lit 293,IG)::(nat_lit 301,ag)::(nat_lit 303,HD)::(nat_lit 304,ag)::(nat_lit 306,JD)::(nat_lit 307,FL)::(nat_lit 308,ag)::(nat_lit 310,HR)::(nat_lit 311,ag)::(nat_lit 313,Jv)::(nat_lit 314,Iz)::(nat_lit 315,ag)::(nat_lit 317,Jx)::(nat_lit 318,ag)::(nat_lit 320,Gw)::(nat_lit 321,GL)::(nat_lit 322,ag)::(nat_lit 325,JS)::(nat_lit 326,Jb)::(nat_lit 327,ag)::(nat_lit 329,Ig)::(nat_lit 330,ag)::(nat_lit 332,Ja)::(nat_lit 333,IT)::(nat_lit 334,ag)::(nat_lit 336,GY)::(nat_lit 337,ag)::(nat_lit 339,HK)::(nat_lit 340,I0)::(nat_lit 341,ag)::(nat_lit 344,Ii)::(nat_lit 345,J6)::(nat_lit 346,ag)::(nat_lit 348,FF)::(nat_lit 349,ag)::(nat_lit 351,FQ)::(nat_lit 352,GQ)::(nat_lit 353,ag)::(nat_lit 355,Gi)::(nat_lit 356,ag)::(nat_lit 358,J3)::(nat_lit 359,He)::(nat_lit 360,ag)::(nat_lit 363,Iu)::(nat_lit 364,FT)::(nat_lit 365,ag)::(nat_lit 367,J5)::(nat_lit 368,ag)::(nat_lit 370,GP)::(nat_lit 371,Jc)::(nat_lit 372,ag)::(nat_lit 374,Jn)::(nat_lit 375,ag)::(nat_lit 377,JB)::(nat_lit 378,IW)::(nat_lit 379,ag)::(nat_lit 381,Gp)::(nat_lit 382,ag)::(nat_lit 384,GN)::(nat_lit 385,Hj)::(nat_lit 386,ag)::(nat_lit 388,HE)::(nat_lit 389,ag)::(nat_lit 391,Gj)::(nat_lit 392,J_)::(nat_lit 393,ag)::(nat_lit 395,IB)::(nat_lit 396,ag)::(nat_lit 398,Ik)::(nat_lit 399,Gy)::(nat_lit 400,ag)::(nat_lit 402,Hx)::(nat_lit 403,ag)::(nat_lit 405,HB)::(nat_lit 406,GO)::(nat_lit 407,Kf)::(nat_lit 408,GU P)::(nat_lit 409,Kb)::(nat_lit 410,Ge)::(nat_lit 411,GZ)::(nat_lit 414,OO)::(nat_lit 421,ag)::(nat_lit 423,Ou)::(nat_lit 424,ag)::(nat_lit 426,NU)::(nat_lit 427,Om)::(nat_lit 428,ag)::(nat_lit 430,NI)::(nat_lit 431,ag)::(nat_lit 433,Nc)::(nat_lit 434,Qf)::(nat_lit 435,ag)::(nat_lit 437,Ov)::(nat_lit 438,ag)::(nat_lit 440,N7)::(nat_lit 441,NA)::(nat_lit 442,ag)::(nat_lit 444,Qs)::(nat_lit 445,ag)::(nat_lit 447,NH)::(nat_lit 448,NV)::(nat_lit 449,ag)::(nat_lit 451,Od)::(nat_lit 452,ag)::(nat_lit 454,PX)::(nat_lit 455,Oh)::(nat_lit 456,ag)::(nat_lit 458,NK)::(nat_lit 459,ag)::(nat_lit 461,Pb)::(nat_lit 462,O9)::(nat_lit 463,ag)::(nat_lit 466,N9)::(nat_lit 467,Qg)::(nat_lit 468,ag)::(nat_lit 470,Pj)::(nat_lit 471,ag)::(nat_lit 473,P2)::(nat_lit 474,Oy)::(nat_lit 475,ag)::(nat_lit 477,Qa)::(nat_lit 478,ag)::(nat_lit 480,Og)::(nat_lit 481,Po)::(nat_lit 482,ag)::(nat_lit 484,P8)::(nat_lit 485,ag)::(nat_lit 487,P7)::(nat_lit 488,Pu)::(nat_lit 489,ag)::(nat_lit 492,Oz)::(nat_lit 493,Pl)::(nat_lit 494,ag)::(nat_lit 497,OH)::(nat_lit 498,OG)::(nat_lit 499,ag)::(nat_lit 502,Qv)::(nat_lit 503,Qm)::(nat_lit 504,ag)::(nat_lit 506,O0)::(nat_lit 507,ag)::(nat_lit 509,P0)::(nat_lit 510,PF)::(nat_lit 511,ag)::(nat_lit 513,NZ)::(nat_lit 514,ag)::(nat_lit 516,OJ)::(nat_lit 517,Nk)::(nat_lit 518,ag)::(nat_lit 520,OI)::(nat_lit 521,ag)::(nat_lit 523,Ni)::(nat_lit 524,Oq)::(nat_lit 525,ag)::(nat_lit 527,NN)::(nat_lit 528,ag)::(nat_lit 530,Ql)::(nat_lit 531,Py)::(nat_lit 532,Nx)::(nat_lit 533,Nq P)::(nat_lit 534,NQ)::(nat_lit 537,ag)::(nat_lit 539,NT)::(nat_lit 540,ag)::(nat_lit 542,OL)::(nat_lit 543,Pg)::(nat_lit 544,ag)::(nat_lit 546,Pa)::(nat_lit 547,ag)::(nat_lit 549,Nw)::(nat_lit 550,OB)::(nat_lit 551,ag)::(nat_lit 553,N1)::(nat_lit 554,ag)::(nat_lit 556,PV)::(nat_lit 557,Qb)::(nat_lit 558,ag)::(nat_lit 560,N5)::(nat_lit 561,ag)::(nat_lit 563,Pq)::(nat_lit 564,Ox)::(nat_lit 565,ag)::(nat_lit 568,Nu)::(nat_lit 569,Pt)::(nat_lit 570,ag)::(nat_lit 572,O8)::(nat_lit 573,ag)::(nat_lit 575,PB)::(nat_lit 576,Qw)::(nat_lit 577,ag)::(nat_lit 579,N_)::(nat_lit 580,ag)::(nat_lit 582,NS)::(nat_lit 583,Nr)::(nat_lit 584,ag)::(nat_lit 587,Oa)::(nat_lit 588,OK)::(nat_lit 589,ag)::(nat_lit 592,OS)::(nat_lit 593,Nn)::(nat_lit 594,ag)::(nat_lit 596,Nz)::(nat_lit 597,ag)::(nat_lit 599,Qh)::(nat_lit 600,PJ)::(nat_lit 601,ag)::(nat_lit 603,NC)::(nat_lit 604,ag)::(nat_lit 606,Ph)::(nat_lit 607,Of)::(nat_lit 608,ag)::(nat_lit 611,NP)::(nat_lit 612,Pd)::(nat_lit 613,ag)::(nat_lit 616,PD)::(nat_lit 617,NO)::(nat_lit 618,ag)::(nat_lit 620,PR)::(nat_lit 621,ag)::(nat_lit 623,Pk)::(nat_lit 624,OM)::(nat_lit 625,ag)::(nat_lit 627,P4)::(nat_lit 628,ag)::(nat_lit 630,Np)::(nat_lit 631,NJ)::(nat_lit 632,ag)::(nat_lit 634,Nj)::(nat_lit 635,ag)::(nat_lit 637,NL)::(nat_lit 638,PH)::(nat_lit 639,ag)::(nat_lit 642,P6)::(nat_lit 643,Qe)::(nat_lit 644,ag)::(nat_lit 647,Oj)::(nat_lit 648,Qr)::(nat_lit 649,ag)::(nat_lit 652,Qx)::(nat_lit 653,Ng)::(nat_lit 654,ag)::(nat_lit 656,Ol)::(nat_lit 657,ag)::(nat_lit 659,P_)::(nat_lit 660,N4)::(nat_lit 661,ag)::(nat_lit 663,OT)::(nat_lit 664,ag)::(nat_lit 666,OZ)::(nat_lit 667,N6)::(nat_lit 668,ag)::(nat_lit 670,Qk)::(nat_lit 671,ag)::(nat_lit 673,Pc)::(nat_lit 674,Nf)::[]
def R_:aY:=[2,3,15,17,18,20,21,22,29,31,32,34,35,36,37,38,39,42,49,51,52,54,55,56,57,58,61,68,70,71,73,74,75,76,77,80,87,89,90,92,93,94,95,96,99,106,108,109,111,112,113,114,115,118,125,127,128,130,131,132,133,134,137,144,146,147,149,150,151,152,153,156,163,165,166,168,169,170,171,172,175,182,184,185,187,188,189,190,191,194,201,203,204,206,207,208,209,210,213,220,222,223,225,226,227,228,229,232,234,235,237,238,239,241,242,244,245,246,249,250,251,253,254,256,257,258,260,261,263,264,265,268,269,270,272,273,275,276,277,280,281,282,284,285,287,288,289,292,293,301,303,304,306,307,308,310,311,313,314,315,317,318,320,321,322,325,326,327,329,330,332,333,334,336,337,339,340,341,344,345,346,348,349,351,352,353,355,356,358,359,360,363,364,365,367,368,370,371,372,374,375,377,378,379,381,382,384,385,386,388,389,391,392,393,395,396,398,399,400,402,403,405,406,407,408,409,410,411,414,421,423,424,426,427,428,430,431,433,434,435,437,438,440,441,442,444,445,447,448,449,451,452,454,455,456,458,459,461,462,463,466,467,468,470,471,473,474,475,477,478,480,481,482,484,485,487,488,489,492,493,494,497,498,499,502,503,504,506,507,509,510,511,513,514,516,517,518,520,521,523,524,525,527,528,530,531,532,533,534,537,539,540,542,543,544,546,547,549,550,551,553,554,556,557,558,560,561,563,564,565,568,569,570,572,573,575,576,577,579,580,582,583,584,587,588,589,592,593,594,596,597,599,600,601,603,604,606,607,608,611,612,613,616,617,618,620,621,623,624,625,627,628,630,631,632,634,635,637,638,639,642,643,644,647,648,649,652,653,654,656,657,659,660,661,663,664,666,667,668,670,671,673,674]
theorem Dj:∀P,R_=(A8 P).map (·.1):=fun _=>by kernel_rfl
noncomputable def mQ:PySem.Program:={PySem.Challenge.pw_framerooms_k26_ways_in with main:={PySem.Challenge.pw_framerooms_k26_ways_in.main with body:=[top 0,top 2,top 3,top 4,top 5,top 6,top 7,top 8,top 9,top 10,top 11,top 12,top 14,top 15,top 16,top 17,top 18,top 19,top 20,top 22,top 23,top 24,top 25,top 26,top 28,top 29,top 30,top 32,top 33,top 34,top 35,top 37,top 38,top 39,top 40,top 41,top 42,top 43,top 44,top 45,top 46,top 47,top 48,top 49,top 50,top 51,top 52,top 53,top 54,top 55,top 56,top 57]}}
noncomputable abbrev mw:PySem.W.Hook:=PySem.W.kHook A8 R_ Dj
theorem K1(w:PySem.World):(fun os:PySem.OsState=>((PySem.W.staticsOk (importedModules jN.main.body) (PySem.W.boot_heap w.params) (bV w.params)&&PySem.W.namesBound jN (bV w.params)&&PySem.W.gensDone ⟨bV w.params,⟨[]⟩,{},1055,os⟩&&PySem.W.laidKept (PySem.W.boot_heap w.params) (bV w.params)),PySem.W.openSeen mQ [] (importedModules jN.main.body) (fun s=>PySem.W.xlAt mQ [] s&&PySem.W.recOk (PySem.W.RowW.records PySem.Challenge.rw_framerooms_k26_ways_in.row.toRowW) s) true ⟨bV w.params,⟨[]⟩,{},1055,os⟩,mw.obs ⟨bV w.params,⟨[]⟩,{},1055,os⟩))=fun _=>(true,PySem.W.openGood mQ [],mw.val w):=by kernel_rfl
theorem Sm:PySem.W.LeftO PySem.Challenge.rw_framerooms_k26_ways_in.row.prog mQ [] (fun s=>PySem.W.xlAt mQ [] s&&PySem.W.recOk (PySem.W.RowW.records PySem.Challenge.rw_framerooms_k26_ways_in.row.toRowW) s) mw.obs mw.val 10502:=PySem.W.LeftO.of_pieces (H₀:=PySem.W.boot_heap) (H₁:=bV) (gs₁:=⟨[]⟩) (d₁:={}) (k₁:=1055) (m₀:=11) (ann:=i7) (PySem.W.boot_open rfl (by decide) (fun _=>rfl)) (fun _=>by kernel_rfl) S_ (by decide) K1
end My
namespace L2
open PySem PySem.Spec PyProof.Rows
abbrev wn:=Sum Int Str
def mO:wn→Value→Bool
 | .inl k,v=>Value.isInt k v
 | .inr x,v=>Value.isStrOf x v
def aiC(w:World):wn→Int
 | .inl k=>hashInt k
 | .inr x=>hashStr w x
theorem cM:∀{k:wn} {v:Value},mO k v=true→(∃i t,k=Sum.inl i∧v=Value.int i t)∨(∃x t,k=Sum.inr x∧v=Value.str x t)
 | .inl i,v,h=>by
  obtain⟨t,e⟩:=Value.isInt_shape (k:=i) (v:=v) h;exact .inl ⟨i,t,rfl,e⟩
 | .inr x,v,h=>by
  obtain⟨t,e⟩:=Value.isStrOf_shape (x:=x) (v:=v) h;exact .inr ⟨x,t,rfl,e⟩
theorem EZ(i:Int)(t:Tok):mO (.inl i) (.int i t)=true:=by simp[mO,Value.isInt]
theorem Fi(x:Str)(t:Tok):mO (.inr x) (.str x t)=true:=by simp[mO,Value.isStrOf]
theorem Q1(a b:Int):decide ((Sum.inl a:wn)=Sum.inl b)=(a==b):=by
 by_cases e:a=b
 ·subst e;simp
 ·have h:¬(Sum.inl a:wn)=Sum.inl b:=fun q=>e (Sum.inl.inj q);rw[decide_eq_false h];exact(beq_eq_false_iff_ne.mpr e).symm
theorem RJ(a b:Str):decide ((Sum.inr a:wn)=Sum.inr b)=decide (a=b):=by
 by_cases e:a=b
 ·subst e;simp
 ·have h:¬(Sum.inr a:wn)=Sum.inr b:=fun q=>e (Sum.inr.inj q);rw[decide_eq_false h,decide_eq_false e]
theorem QM(a:Int)(b:Str):decide ((Sum.inl a:wn)=Sum.inr b)=false:=decide_eq_false (fun q=>nomatch q)
theorem RF(a:Str)(b:Int):decide ((Sum.inr a:wn)=Sum.inl b)=false:=decide_eq_false (fun q=>nomatch q)
def bz(prog:Program)(w:World):PySem.KeyKind prog w wn where
 is:=mO
 hash:=aiC w
 inj:=fun v a b ha hb=>by
  rcases cM ha with⟨i,t,rfl,rfl⟩|⟨x,t,rfl,rfl⟩
  ·rcases cM hb with⟨j,u,rfl,e⟩|⟨y,u,rfl,e⟩
   ·injection e with e1 _;rw[e1]
   ·exact nomatch e
  ·rcases cM hb with⟨j,u,rfl,e⟩|⟨y,u,rfl,e⟩
   ·exact nomatch e
   ·injection e with e1 _;rw[e1]
 byValue:=fun k v h=>by
  rcases cM h with⟨i,t,rfl,rfl⟩|⟨x,t,rfl,rfl⟩<;>rfl
 pyHash:=fun hv h=>by
  rcases cM hv with⟨i,t,rfl,rfl⟩|⟨x,t,rfl,rfl⟩
  ·exact wpAny_pyHash_int h
  ·exact wpAny_pyHash_str h
 eqBool:=fun hu hv h=>by
  rcases cM hu with⟨i,t,rfl,rfl⟩|⟨x,t,rfl,rfl⟩
  ·rcases cM hv with⟨j,u,rfl,rfl⟩|⟨y,u,rfl,rfl⟩
   ·rw[Q1] at h;exact wpAny_eqBool_int h
   ·rw[QM] at h;exact SeqAt.EqAt.int_str i t y u _ _ _ _ h
  ·rcases cM hv with⟨j,u,rfl,rfl⟩|⟨y,u,rfl,rfl⟩
   ·rw[RF] at h;exact SeqAt.EqAt.str_int x t j u _ _ _ _ h
   ·rw[RJ] at h;exact wpAny_eqBool_str h
 «strs» :=fun k x t v h=>by
  rcases cM h with⟨i,u,rfl,e⟩|⟨y,u,rfl,e⟩
  ·exact nomatch e
  ·injection e with e1 _;subst e1;cases v<;>rfl
theorem zt(prog:Program)(w:World)(i:Int)(t:Tok):(bz prog w).is (.inl i) (.int i t)=true:=EZ i t
theorem Ak(prog:Program)(w:World)(x:Str)(t:Tok):(bz prog w).is (.inr x) (.str x t)=true:=Fi x t
inductive V where
 |bC|bl (b:Bool)|int (i:Int)|str (x:Str)|Fw (b:Array UInt8)|R1 (b:UInt64)|ref (a:Addr)|ty (n:String)
 deriving DecidableEq
abbrev eA:=List (List wn×V)
abbrev bG:=List (wn×V)
abbrev cE:=List (List V)
abbrev ax:=List V
abbrev jz:=List (Str×V)
def RelV:V→Value→Prop
 | .bC,u=>u=Value.none
 | .bl b,u=>u=Value.bool b
 | .int i,u=>∃t,u=Value.int i t
 | .str x,u=>∃t,u=Value.str x t
 | .Fw b,u=>∃t,u=Value.bytes b t
 | .R1 b,u=>∃t,u=Value.float b t
 | .ref a,u=>u=Value.ref a
 | .ty n,u=>u=Value.type n
abbrev Vals:ax→aI→Prop:=Paired RelV
theorem Vals.length{xs:ax}{us:aI}(r:Vals xs us):xs.length=us.length:=Paired.length r
theorem Vals.get:∀{xs:ax} {us:aI} {i:Nat} {x:V},Vals xs us→xs[i]? =some x→∃u,us[i]? =some u∧RelV x u
 |_,_,_,_,.nil,e=>by simp at e
 |_,_,0,_,.cons r _,e=>by simp at e;subst e;exact⟨_,rfl,r⟩
 |_,_,i+1,x,.cons _ t,e=>by
  obtain⟨u,h1,h2⟩:=Vals.get (i:=i) (x:=x) t (by simpa using e);exact⟨u,by simpa using h1,h2⟩
theorem Vals.set{x:V}{u:Value}(r:RelV x u):∀{xs:ax} {us:aI} (i:Nat),Vals xs us→Vals (xs.set i x) (us.set i u)
 |_,_,_,.nil=> .nil
 |_,_,0,.cons _ t=> .cons r t
 |_,_,i+1,.cons q t=> .cons q (Vals.set r i t)
theorem Vals.append:∀{xs ys:ax} {us ws:aI},Vals xs us→Vals ys ws→Vals (xs++ys) (us++ws)
 |_,_,_,_,.nil,s=>s
 |_,_,_,_,.cons r t,s=> .cons r (Vals.append t s)
theorem Vals.take:∀{xs:ax} {us:aI} (n:Nat),Vals xs us→Vals (xs.take n) (us.take n)
 |_,_,0,_=> .nil
 |_,_,_+1,.nil=> .nil
 |_,_,n+1,.cons r t=> .cons r (Vals.take n t)
theorem Vals.drop:∀{xs:ax} {us:aI} (n:Nat),Vals xs us→Vals (xs.drop n) (us.drop n)
 |_,_,0,r=>r
 |_,_,_+1,.nil=> .nil
 |_,_,n+1,.cons _ t=>Vals.drop n t
theorem Vals.none_of:∀{xs:ax} {us:aI} {i:Nat},Vals xs us→xs[i]? =none→us[i]? =none:=fun{xs us i} r e=>by
 have h1:=r.length;have h2:xs.length≤i:=List.getElem?_eq_none_iff.mp e;exact List.getElem?_eq_none_iff.mpr (by lia)
def mn:Option V→aN→Prop
 |some v,some u=>RelV v u
 |none,none=>True
 |_,_=>False
def KV{κ:Type}:List (κ×V)→List (κ×Value)→Prop:=Paired fun(p:κ×V) (q:κ×Value)=>p.1=q.1∧RelV p.2 q.2
def kV:wn→V
 | .inl i=> .int i
 | .inr x=> .str x
inductive HO where
 |lst (xs:ax)
 |tup (xs:ax)
 |dK (kvs:bG)|dT (kvs:eA)
 |set (S:Int→Bool) (n:Nat)
 |ins (C dx:Addr) (fs:jz)
 |own (x:Addr)
 |xd (fs:jz)
 |met (f x:Addr)
 |rng (lo hi:Int)
 |fB (o:Obj) (u:HO)
 |Lj (ps:Array Value)
 |ext (φ:Heap→Prop)
abbrev Hp:=Addr→Option HO
def upd(H:Hp)(a:Addr)(o:HO):Hp:=fun b=>if b=a then some o else H b
theorem af{H:Hp}{a:Addr}{o:HO}:upd H a o a=some o:=by unfold upd;rw[if_pos rfl]
theorem ah{H:Hp}{a b:Addr}{o:HO}(h:b≠a):upd H a o b=H b:=by unfold upd;rw[if_neg h]
theorem yy{H:Hp}{a:Addr}{o u:HO}:upd (upd H a o) a u=upd H a u:=by
 funext b;unfold upd;split<;>rfl
theorem aG{H:Hp}{a b:Addr}{o u:HO}(h:H a=some o)(h' :H b=some u)(d:o≠u):a≠b:=by
 intro e;subst e;rw[h] at h';exact d (Option.some.inj h')
theorem ak{H:Hp}{a b:Addr}{o:HO}(h:H a=some o)(h' :H b=none):a≠b:=by
 intro e;subst e;rw[h] at h';cases h'
section
variable(P:Program)(w:World)
def bw(H:Hp)(h:Heap)(a:Addr):HO→Prop
 | .lst xs=>xs.length≤sizeLine∧∃(its:aI) (n:Nat),Vals xs its∧h.get? a=some {cls:= .type "list",data:= .seq its.toArray n}
 | .tup xs=>xs.length≤sizeLine∧∃its:aI,Vals xs its∧IsTup h a its.toArray
 | .dK kvs=>kvs.length≤sizeLine∧(a==sysModules)=false∧∃vs,KV kvs vs∧h.DictOf (bz P w) a vs
 | .dT kvs=>kvs.length≤sizeLine∧(a==sysModules)=false∧∃xs:List (List wn×Addr×Value),
  Paired (fun(p:List wn×V) (q:List wn×Addr×Value)=>p.1=q.1∧H q.2.1=some (.tup (p.1.map kV))∧RelV p.2 q.2.2) kvs xs∧
  ∃o es ep,h.get? a=some o∧o.ExactDict∧o.data= .dict es ep∧es.toList=xs.map (entryOfKey (tupleKind (bz P w)))∧(xs.map (·.1)).Nodup
 | .set S n=>h.SetOf (intKind P w) a S n
 | .ins C dx fs=>H dx=some (.own a)∧fs.length≤1000∧dx≠a∧h.get? a=some (instObj C dx)∧
  ∃mA,h.Ns1 dx mA∧(∀f,mn (fs.lookup f) (mA f))∧PySem.Within mA (fs.map (·.1))
 | .own _=>∃o,h.get? a=some o
 | .xd fs=>∃mA,h.Ns1 a mA∧∀f,mn (fs.lookup f) (mA f)
 | .rng lo hi=>∃t u v,h.get? a=some {cls:= .type "range",data:= .fields #[.int lo t,.int hi u,.int 1 v]}
 | .fB o u=>h.get? a=some o∧bw H h a u
 | .Lj ps=>h.get? a=some {cls:= .none,data:= .fields ps}
 | .met f x=>h.get? a=some (methodObj (.ref f) (.ref x))
 | .ext φ=>φ h∧(∃o,h.get? a=some o)∧∀h1 h2:Heap,φ h1→(∀o,h1.get? a=some o→h2.get? a=some o)→φ h2
def n0(H:Hp)(h:Heap):Prop:=∀a o,H a=some o→bw P w H h a o
end
section
variable{P:Program}{w:World}{H H' :Hp}{h h' :Heap}{a:Addr}{o:HO}
theorem bw.lt(x:bw P w H h a o):a<h.objs.size:=by
 cases o with
 |lst xs=>obtain⟨_,_,_,_,e⟩:=x;exact Heap.lt_size e
 |tup xs=>obtain⟨_,_,_,p⟩:=x;exact p.lt
 |dK kvs=>obtain⟨_,_,_,_,o,_,_,e,_⟩:=x;exact Heap.lt_size e
 |dT kvs=>obtain⟨_,_,_,_,o,_,_,e,_⟩:=x;exact Heap.lt_size e
 |set S n=>obtain⟨o,_,_,_,e,_⟩:=x;exact Heap.lt_size e
 |ins C dx fs=>obtain⟨_,_,_,e,_⟩:=x;exact Heap.lt_size e
 |own y=>obtain⟨_,e⟩:=x;exact Heap.lt_size e
 |xd fs=>obtain⟨_,⟨_,_,_,e,_⟩,_⟩:=x;exact Heap.lt_size e
 |rng lo hi=>obtain⟨_,_,_,e⟩:=x;exact Heap.lt_size e
 |fB ob u=>obtain⟨e,_⟩:=x;exact Heap.lt_size e
 |Lj ps=>exact Heap.lt_size (show h.get? a=some _ from x)
 |met f y=>exact Heap.lt_size (show h.get? a=some _ from x)
 |ext φ=>obtain⟨_,⟨_,e⟩,_⟩:=x;exact Heap.lt_size e
theorem Paired.Rw{α β:Type}{F G:α→β→Prop}:∀{l₁:List α} {uk:List β},Paired F l₁ uk→(∀a b,F a b→G a b)→Paired G l₁ uk
 |_,_,.nil,_=> .nil
 |_,_,.cons r t,f=> .cons (f _ _ r) (Paired.Rw t f)
theorem bw.rZ(x:bw P w H h a o)(k:∀b u,(b=a∨H b=some (.own a))→h.get? b=some u→h'.get? b=some u)
 (ho:∀b,H b=some (.own a)→H' b=some (.own a)) (ht:∀b xs,H b=some (.tup xs)→H' b=some (.tup xs)):bw P w H' h' a o:=by
 induction o with
 |lst xs=>obtain⟨z,its,n,r,e⟩:=x;exact⟨z,its,n,r,k _ _ (.inl rfl) e⟩
 |tup xs=>obtain⟨z,its,r,ob,e,c⟩:=x;exact⟨z,its,r,ob,k _ _ (.inl rfl) e,c⟩
 |dK kvs=>obtain⟨z,y,vs,r,ob,es,ep,e,c⟩:=x;exact⟨z,y,vs,r,ob,es,ep,k _ _ (.inl rfl) e,c⟩
 |dT kvs=>
  obtain⟨z,y,xs,r,ob,es,ep,e,c⟩:=x;exact⟨z,y,xs,Paired.Rw r fun p q z=>⟨z.1,ht _ _ z.2.1,z.2.2⟩,ob,es,ep,k _ _ (.inl rfl) e,c⟩
 |set S n=>obtain⟨ob,es,ep,t,e,c⟩:=x;exact⟨ob,es,ep,t,k _ _ (.inl rfl) e,c⟩
 |ins C dx fs=>
  obtain⟨d,z,ne,e,mA,⟨od,es,ep,e2,c⟩,r⟩:=x;exact⟨ho _ d,z,ne,k _ _ (.inl rfl) e,mA,⟨od,es,ep,k _ _ (.inr d) e2,c⟩,r⟩
 |own y=>obtain⟨ob,e⟩:=x;exact⟨ob,k _ _ (.inl rfl) e⟩
 |xd fs=>obtain⟨mA,⟨od,es,ep,e,c⟩,r⟩:=x;exact⟨mA,⟨od,es,ep,k _ _ (.inl rfl) e,c⟩,r⟩
 |rng lo hi=>obtain⟨t,u,v,e⟩:=x;exact⟨t,u,v,k _ _ (.inl rfl) e⟩
 |fB ob u ih=>obtain⟨e,q⟩:=x;exact⟨k _ _ (.inl rfl) e,ih q⟩
 |Lj ps=>
  have e:h.get? a=some {cls:= .none,data:= .fields ps}:=x;show h'.get? a=some {cls:= .none,data:= .fields ps};exact k a _ (.inl rfl) e
 |met f y=>
  have e:h.get? a=some (methodObj (.ref f) (.ref y)):=x;show h'.get? a=some (methodObj (.ref f) (.ref y));exact k a _ (.inl rfl) e
 |ext φ=>obtain⟨p,⟨o,e⟩,st⟩:=x;exact⟨st _ _ p fun o q=>k _ _ (.inl rfl) q,⟨o,k _ _ (.inl rfl) e⟩,st⟩
theorem n0.lt(x:n0 P w H h)(e:H a=some o):a<h.objs.size:=(x a o e).lt
theorem n0.fresh(x:n0 P w H h)(e:h.objs.size≤a):H a=none:=by
 cases q:H a with
 |none=>rfl
 |some u=>exact absurd (Nat.lt_of_lt_of_le (x.lt q) e) (Nat.lt_irrefl _)
theorem n0.kept(x:n0 P w H h)(k:∀b u,h.get? b=some u→h'.get? b=some u):n0 P w H h' :=fun a o e=>
 (x a o e).rZ (fun b u _ q=>k b u q) (fun _ q=>q) fun _ _ q=>q
theorem n0.laid(x:n0 P w H h)(k:∀b u,h.get? b=some u→h'.get? b=some u)(hp:h.objs.size≤a)(new:bw P w (upd H a o) h' a o):n0 P w (upd H a o) h' :=fun b u e=>by
 have hn:=x.fresh hp;by_cases hb:b=a
 ·subst hb;rw[af] at e;cases e;exact new
 ·rw[ah hb] at e;exact(x b u e).rZ (fun c v _ q=>k c v q) (fun c q=>by rw[ah (ak q hn)];exact q) fun c xs q=>by rw[ah (ak q hn)];exact q
end
def Rd(H:Hp)(a:Addr)(u:HO):Prop:=H a=some u∨∃o,H a=some (.fB o u)
theorem Rd.of{H:Hp}{a:Addr}{u:HO}(h:H a=some u):Rd H a u:= .inl h
theorem Rd.ok{P:Program}{w:World}{H:Hp}{h:Heap}{a:Addr}{u:HO}(r:Rd H a u)(x:n0 P w H h):bw P w H h a u:=by
 rcases r with r|⟨o,r⟩
 ·exact x a u r
 ·obtain⟨_,q⟩:=x a _ r;exact q
def Wi:Option HO→Prop
 |some (.lst _)=>True
 |some (.dK _)=>True
 |some (.dT _)=>True
 |some (.set _ _)=>True
 |some (.ins _ _ _)=>True
 |some (.ext _)=>True
 |_=>False
section
variable{P:Program}{w:World}{H:Hp}{h h' :Heap}{x e:Addr}{o' :HO}
theorem n0.write(ok:n0 P w H h)(mu:Wi (H x))(he:e=x∨H e=some (.own x))(k:∀b u,b≠e→h.get? b=some u→h'.get? b=some u)(SM:∃u,h'.get? e=some u)
 (new:bw P w (upd H x o') h' x o'):n0 P w (upd H x o') h' :=fun b u q=>by
 have vm:∀c y,H c=some (.own y)→c≠x:=fun c y r z=>by subst z;rw[r] at mu;exact mu
 have acB:∀c xs,H c=some (.tup xs)→c≠x:=fun c xs r z=>by subst z;rw[r] at mu;exact mu
 by_cases hb:b=x
 ·subst hb;rw[af] at q;cases q;exact new
 ·rw[ah hb] at q;by_cases Ko:b=e
  ·have q' :H b=some (.own x):=by
    rcases he with z|z
    ·exact absurd (Ko.trans z) hb
    ·rw[Ko];exact z
   rw[q] at q';cases q'
   obtain⟨v,hv⟩:=SM;exact⟨v,by rw[Ko];exact hv⟩
  ·refine(ok b u q).rZ (fun c v hc r=>k c v ?_ r) (fun c r=>by rw[ah (vm c b r)];exact r) fun c xs r=>by rw[ah (acB c xs r)];exact r
   rcases hc with rfl|hc
   ·exact Ko
   ·rintro rfl
    rcases he with z|z
    ·exact vm c b hc z
    ·rw[hc] at z;cases z;exact hb rfl
end
structure Un(fs ex:aY)(H H' :Hp)(h h' :Heap):Prop where
 keep:∀b o,h.get? b=some o→H b=none→b∉fs→b∉ex→h'.get? b=some o
 slot:∀b o,h.get? b=some o→H b=none→b∈fs→b∉ex→∃sl,h'.get? b=some {o with slots:=sl}
 free:∀b o,h.get? b=some o→H b=none→b∉ex→H' b=none
 there:∀b o,h.get? b=some o→b∉ex→∃o',h'.get? b=some o'
 rV:∀b xs,H b=some (.tup xs)→H' b=some (.tup xs)
 nN:∀b o u,H b=some (.fB o u)→H' b=some (.fB o u)
 rG:∀b ps,H b=some (.Lj ps)→∃more,H' b=some (.Lj (ps++more))
section
variable{fs fs' ex ex' :aY}{H H1 H2:Hp}{h h1 h2 h' :Heap}{a x e:Addr}{o:HO}
theorem Un.any(u:Un fs ex H H1 h h1){b:Addr}{ob:Obj}(q:h.get? b=some ob)(n:H b=none)(hx:b∉ex):∃sl,h1.get? b=some {ob with slots:=sl}:=by
 by_cases hb:b∈fs
 ·exact u.slot b ob q n hb hx
 ·exact⟨ob.slots,u.keep b ob q n hb hx⟩
theorem Un.trans(a:Un fs ex H H1 h h1)(b:Un fs ex H1 H2 h1 h2):Un fs ex H H2 h h2 where
 keep:=fun c ob q n hc hx=>b.keep c ob (a.keep c ob q n hc hx) (a.free c ob q n hx) hc hx
 slot:=fun c ob q n hc hx=>by
  obtain⟨sl,e1⟩:=a.slot c ob q n hc hx;obtain⟨sl',e2⟩:=b.slot c _ e1 (a.free c ob q n hx) hc hx;exact⟨sl',e2⟩
 free:=fun c ob q n hx=>by
  obtain⟨o',e1⟩:=a.there c ob q hx;exact b.free c o' e1 (a.free c ob q n hx) hx
 there:=fun c ob q hx=>by
  obtain⟨o',e1⟩:=a.there c ob q hx;exact b.there c o' e1 hx
 rV:=fun c xs q=>b.rV c xs (a.rV c xs q)
 nN:=fun c ob xs q=>b.nN c ob xs (a.nN c ob xs q)
 rG:=fun c ps q=>by
  obtain⟨m1,e1⟩:=a.rG c ps q;obtain⟨m2,e2⟩:=b.rG c _ e1;exact⟨m1++m2,by rw[e2,Array.append_assoc]⟩
theorem Un.kept(k:∀b u,h.get? b=some u→h'.get? b=some u):Un fs ex H H h h' :=
 ⟨fun b ob q _ _ _=>k b ob q,fun b ob q _ _ _=>⟨ob.slots,k b ob q⟩,fun _ _ _ n _=>n,fun b ob q _=>⟨ob,k b ob q⟩,fun _ _ q=>q,fun _ _ _ q=>q,fun _ ps q=>⟨#[],by rw[q];simp⟩⟩
theorem Un.refl:Un fs ex H H h h:=Un.kept fun _ _ q=>q
theorem Un.laid(k:∀b u,h.get? b=some u→h'.get? b=some u)(hp:h.objs.size≤a)(hn:H a=none):Un fs ex H (upd H a o) h h' where
 keep:=fun b u q _ _ _=>k b u q
 slot:=fun b u q _ _ _=>⟨u.slots,k b u q⟩
 free:=fun b u q n _=>by rw[ah (Nat.ne_of_lt (Nat.lt_of_lt_of_le (Heap.lt_size q) hp))];exact n
 there:=fun b u q _=>⟨u,k b u q⟩
 rV:=fun b xs q=>by rw[ah (ak q hn)];exact q
 nN:=fun b u xs q=>by rw[ah (ak q hn)];exact q
 rG:=fun b ps q=>⟨#[],by rw[ah (ak q hn),q];simp⟩
theorem Un.write(mu:Wi (H x))(he:e=x∨H e=some (.own x))(k:∀b u,b≠e→h.get? b=some u→h'.get? b=some u)(SM:∃u,h'.get? e=some u):Un fs ex H (upd H x o) h h' :=by
 have hx:∀b,H b=none→b≠x:=fun b n z=>by subst z;rw[n] at mu;exact mu
 have hb:∀b,H b=none→b≠e:=fun b n z=>by
  subst z;rcases he with r|r
  ·exact hx b n r
  ·rw[n] at r;cases r
 have hm:∀b u,H b=some u→¬Wi (some u)→b≠x:=fun b u q nm z=>by subst z;rw[q] at mu;exact nm mu
 refine⟨fun b u q n _ _=>k b u (hb b n) q,fun b u q n _ _=>⟨u.slots,k b u (hb b n) q⟩,fun b u q n _=>by rw[ah (hx b n)];exact n,fun b u q _=> ?_,
  fun b xs q=>by rw[ah (hm b _ q fun z=>z)];exact q,fun b u xs q=>by rw[ah (hm b _ q fun z=>z)];exact q,fun b ps q=>⟨#[],by rw[ah (hm b _ q fun z=>z),q];simp⟩⟩
 by_cases Ko:b=e
 ·subst Ko;exact SM
 ·exact⟨u,k b u Ko q⟩
theorem Un.mono(u:Un fs ex H H1 h h1)(hs:∀b∈fs,b∈fs')(hx:∀b∈ex,b∈ex'):Un fs' ex' H H1 h h1:=
 ⟨fun b ob q n hb he=>u.keep b ob q n (fun z=>hb (hs b z)) fun z=>he (hx b z),fun _ _ q n _ he=>u.any q n fun z=>he (hx _ z),fun b ob q n he=>u.free b ob q n fun z=>he (hx b z),fun b ob q he=>u.there b ob q fun z=>he (hx b z),u.rV,u.nN,u.rG⟩
end
def YN(h:Heap)(H:Hp):aY:=(List.range h.objs.size).filter fun a=>(H a).isSome
def xC(h:Heap)(H:Hp):Heap:=PySem.W.hideAll h (YN h H)
theorem E9(h:Heap)(H:Hp):(xC h H).objs.size=h.objs.size:=PySem.W.hideAll_size _ _
theorem GG{h:Heap}{H:Hp}{b:Addr}{o:Obj}(e:h.get? b=some o)(n:H b=none):(xC h H).get? b=some o:=
 PySem.W.hideAll_get _ e fun hm=>by
  have q:(H b).isSome=true:=(List.mem_filter.mp hm).2;rw[n] at q;simp at q
theorem Li{h:Heap}{H:Hp}{b:Addr}{o:Obj}(e:(xC h H).get? b=some o):h.get? b=some o∧H b=none:=by
 have e' :h.get? b=some o:=PySem.W.of_hideAll (YN h H) e;refine⟨e',?_⟩
 cases q:H b with
 |none=>rfl
 |some x=>
  have hm:b∈YN h H:=List.mem_filter.mpr ⟨List.mem_range.mpr (Heap.lt_size e'),by simp[q]⟩;have z:(xC h H).get? b=none:=PySem.W.hideAll_none (YN h H) hm;rw[z] at e;cases e
def LR(g h:Heap)(L:Addr):aP:=(List.range h.objs.size).filterMap fun a=>if a=L∨(g.get? a).isSome=true then none else(h.get? a).map fun o=>(a,o)
def ww(g h:Heap)(L d:Addr):aP:=(LR g h L).filter fun p=>decide (p.1≠d)
structure Mod(K:Frag)(mg:Str→aN)(base:Heap):Prop where
 SI:K.In base
 glob:base.Ns mainGlobals mg
 blt:∃mb,base.Ns builtinsNs mb∧∀x:Str,x≠ "__name__" →mb x=bootBuiltins x
 nolimit:base.NoLimit
structure Cx where
 prog:Program
 w:World
 K:Frag
 mg:Str→aN
 base:Heap
 A:Around
 N:aO
 gF:Shared
 H₀:Hp
 env:Env
 outer:List Env
 stack:List Env
 ex:aY
 fn:Str→Bool
 calm:Bool
 pn:aP
 xe:Value→Shared→Prop
def Fq(l:List Env):aY:=l.filterMap (·.frame)
abbrev Cx.fs(X:Cx):aY:=Fq X.outer
def Vis(sc:Scope)(x:Str):Prop:=sc.names.lookup x=some .local∨sc.names.lookup x=some .cell∨sc.names.lookup x=some .free
def Loc(sc:Scope)(x:Str):Prop:=sc.names.lookup x=some .local∨sc.names.lookup x=some .cell
def jam(env:Env)(h:Heap)(m:Str→aN)(x:Str)(u:Value):Prop:=
 (env.kindOf x=some .local∧m x=some u)∨((env.kindOf x=some .cell∨env.kindOf x=some .free)∧∃c,env.cells.lookup x=some c∧h.IsCell c (some u))
structure Cx.Ok(X:Cx):Prop where
 mod:Mod X.K X.mg X.base
 kind:X.env.scope.kind= .function
 glob:X.env.globals=mainGlobals
 blt:X.env.builtins=builtinsNs
 above:X.gF.heap.objs.size≤X.env.locals
 inj:∀x y c,X.env.cells.lookup x=some c→X.env.cells.lookup y=some c→x=y
 has:∀x,(X.env.kindOf x=some .cell∨X.env.kindOf x=some .free)→∃c,X.env.cells.lookup x=some c
 W0:∀x c,X.fn x=true→X.env.cells.lookup x=some c→X.gF.heap.objs.size≤c
 hd:X.calm=true→X.A.handled=none
 frames:X.A.frames=some X.stack
 XW:X.stack=X.outer∨(X.stack=X.env::X.outer∧X.env.frame=some X.env.locals)
 exf:∀b∈X.ex,b≠X.env.locals∧∀x c,X.env.cells.lookup x=some c→c≠b
 bs:∀b o,X.base.get? b=some o→X.gF.heap.get? b=some o∧X.H₀ b=none
 Gu:X.base.objs.size≤X.gF.heap.objs.size
 F0:∀b o,X.base.get? b=some o→b∉X.ex
 L1:∀b∈X.ex,b∉X.fs
 qV:X.gF.heap.FunFrames X.base X.outer
 PM:∀b∈X.fs,X.H₀ b=none
structure Inv(X:Cx)(pins:aP)(σ:List (Option V))(H:Hp)(s:Shared):Prop where
 ok:X.Ok
 os:s.os=X.gF.os
 bare:AllBare s.gens
 base:Un X.fs X.ex X.H₀ H X.gF.heap s.heap
 loc:∃m,s.heap.Ns X.env.locals m∧∀(i:Nat) (x:Str) (v:V),X.N[i]? =some x→σ[i]? =some (some v)→Vis X.env.scope x→∃u,RelV v u∧jam X.env s.heap m x u
 cell:∀x c,X.env.cells.lookup x=some c→∃v,s.heap.IsCell c v
 free:H X.env.locals=none
 l_:∀x c,X.env.cells.lookup x=some c→H c=none
 pin:∀p∈X.pn++pins,s.heap.get? p.1=some p.2∧H p.1=none∧p.1≠X.env.locals∧p.1∉X.fs∧∀v,p.2.data≠.cell v
 bE:n0 X.prog X.w H s.heap
 len:σ.length=X.N.length
section
variable{X:Cx}{pins:aP}{σ:List (Option V)}{H H' :Hp}{s:Shared}{h' :Heap}
theorem Cx.Ok.ago(ok:X.Ok){b:Addr}{o:Obj}(e:X.base.get? b=some o):b∉X.fs:=fun hb=>by
 have:=(ok.qV.mem hb).1;rw[e] at this;cases this
theorem Inv.bs(I:Inv X pins σ H s):∀b o,X.base.get? b=some o→s.heap.get? b=some o∧H b=none:=fun b o e=>
 ⟨I.base.keep b o (I.ok.bs b o e).1 (I.ok.bs b o e).2 (I.ok.ago e) (I.ok.F0 b o e),I.base.free b o (I.ok.bs b o e).1 (I.ok.bs b o e).2 (I.ok.F0 b o e)⟩
theorem Inv.bk(I:Inv X pins σ H s):∀b o,X.base.get? b=some o→s.heap.get? b=some o:=fun b o e=>(I.bs b o e).1
theorem Inv.mod(I:Inv X pins σ H s):Mod X.K X.mg X.base:=I.ok.mod
theorem Inv.qI(I:Inv X pins σ H s):X.K.In s.heap:=I.ok.mod.SI.keeps I.bk
theorem Inv.nolimit(I:Inv X pins σ H s):s.heap.NoLimit:=I.ok.mod.nolimit.keeps I.bk
theorem Inv.fr(I:Inv X pins σ H s):∃m,Fr X.base X.env.locals s.heap m:=
 let⟨m,hn,_⟩:=I.loc
 ⟨m,hn,I.bk,Nat.le_trans I.ok.Gu I.ok.above⟩
theorem Inv.lt(I:Inv X pins σ H s):X.env.locals<s.heap.objs.size:=let⟨_,hn,_⟩:=I.loc;hn.lt
theorem Inv.sz(I:Inv X pins σ H s):X.gF.heap.objs.size≤s.heap.objs.size:=Nat.le_trans I.ok.above (Nat.le_of_lt I.lt)
theorem Inv.acu(I:Inv X pins σ H s){a:Addr}(h:s.heap.objs.size≤a):a∉X.fs:=fun hb=>by
 obtain⟨_,o,ho,_⟩:=I.ok.qV.mem hb;exact absurd (Nat.lt_of_lt_of_le (Heap.lt_size ho) (Nat.le_trans I.sz h)) (Nat.lt_irrefl _)
theorem Inv.Q7(I:Inv X pins σ H s):∀x c,X.env.cells.lookup x=some c→c≠X.env.locals:=fun x c e z=>by
 obtain⟨v,o,ho,hd⟩:=I.cell x c e;obtain⟨m,⟨o',es,ep,yS,JT,_⟩,_⟩:=I.loc;rw[z,yS] at ho;cases ho;rw[JT] at hd;cases hd
theorem Inv.qV(I:Inv X pins σ H s):s.heap.FunFrames X.base X.outer:=by
 have all:∀(l:List Env),(∀b∈Fq l,b∈X.fs)→X.gF.heap.FunFrames X.base l→s.heap.FunFrames X.base l:=by
  intro l
  induction l with
  |nil=>intro _ _;trivial
  |cons env r ih=>
   intro hs hl;obtain⟨hk,⟨L,o,hf,hn,ho,hd⟩,hr⟩:=hl;have hL:L∈X.fs:=hs L (by unfold Fq;rw[List.filterMap_cons,hf];exact List.mem_cons_self);obtain⟨sl,e⟩:=I.base.slot L o ho (I.ok.PM L hL) hL fun z=>I.ok.L1 L z hL;exact⟨hk,⟨L,_,hf,hn,e,hd⟩,ih (fun b hb=>hs b (by unfold Fq;rw[List.filterMap_cons,hf];exact List.mem_cons_of_mem _ hb)) hr⟩
 exact all X.outer (fun _ hb=>hb) I.ok.qV
theorem Inv.stack(I:Inv X pins σ H s):s.heap.FunFrames X.base X.stack:=by
 rcases I.ok.XW with e|⟨e,hf⟩
 ·rw[e];exact I.qV
 ·rw[e];obtain⟨m,hn,_⟩:=I.loc;refine .cons (by rw[I.ok.kind];decide) hf hn ?_ I.qV;exact Heap.get?_none_of_le (Nat.le_trans I.ok.Gu I.ok.above)
theorem Inv.yo(I:Inv X pins σ H s):∀b∈Fq X.stack,b∈X.env.locals::X.fs:=fun b hb=>by
 rcases I.ok.XW with e|⟨e,hf⟩
 ·rw[e] at hb;exact List.mem_cons_of_mem _ hb
 ·rw[e] at hb;unfold Fq at hb;rw[List.filterMap_cons,hf] at hb;exact hb
theorem Inv.DY(I:Inv X pins σ H s):∀b∈Fq X.stack,H b=none:=fun b hb=>by
 rcases List.mem_cons.mp (I.yo b hb) with e|hb
 ·rw[e];exact I.free
 ·obtain⟨_,o,ho,_⟩:=I.ok.qV.mem hb;exact I.base.free b o ho (I.ok.PM b hb) fun z=>I.ok.L1 b z hb
theorem Inv.step{g' :Array GenState}{t' :Nat}{d' :Drawn}{ch:aY}(I:Inv X pins σ H s)
 (yR:∀b∈ch,(b∈X.ex∨X.gF.heap.objs.size≤b)∧b≠X.env.locals∧(∀x c,X.env.cells.lookup x=some c→c≠b)∧∀p∈X.pn++pins,p.1≠b)
 (keep:∀b o,b≠X.env.locals→b∉X.fs→b∉ch→s.heap.get? b=some o→H b=none→h'.get? b=some o)
 (slot:∀b o,b≠X.env.locals→b∈X.fs→b∉ch→s.heap.get? b=some o→H b=none→∃sl,h'.get? b=some {o with slots:=sl}) (free:∀b o,b∉ch→s.heap.get? b=some o→H b=none→H' b=none)
 (there:∀b o,b∉ch→s.heap.get? b=some o→∃o',h'.get? b=some o')
 (rV:∀b xs,H b=some (.tup xs)→H' b=some (.tup xs)) (nN:∀b o u,H b=some (.fB o u)→H' b=some (.fB o u)) (rG:∀b ps,H b=some (.Lj ps)→∃more,H' b=some (.Lj (ps++more)))
 (ns:∀m,s.heap.Ns X.env.locals m→h'.Ns X.env.locals m) (bE:n0 X.prog X.w H' h') (hg:AllBare g'):
 Inv X pins σ H' {s with heap:=h',gens:=g',drawn:=d',toks:=t'}:=by
 have neL:∀b o,X.gF.heap.get? b=some o→b≠X.env.locals:=fun b o e=>Nat.ne_of_lt (Nat.lt_of_lt_of_le (Heap.lt_size e) I.ok.above)
 have YC:∀b o,X.gF.heap.get? b=some o→b∉X.ex→b∉ch:=fun b o e hx hb=>by
  rcases(yR b hb).1 with z|z
  ·exact hx z
  ·exact absurd (Nat.lt_of_lt_of_le (Heap.lt_size e) z) (Nat.lt_irrefl _)
 have cellK:∀x c,X.env.cells.lookup x=some c→∀v,s.heap.IsCell c v→h'.IsCell c v:=fun x c e v ⟨o,ho,hd⟩=>by
  have Xv:c∉ch:=fun z=>(yR c z).2.2.1 x c e rfl;by_cases hc:c∈X.fs
  ·obtain⟨sl,q⟩:=slot c o (I.Q7 x c e) hc Xv ho (I.l_ x c e);exact⟨_,q,hd⟩
  ·exact⟨o,keep c o (I.Q7 x c e) hc Xv ho (I.l_ x c e),hd⟩
 refine⟨I.ok,I.os,hg,⟨fun b o e n hb hx=> ?_,fun b o e n hb hx=> ?_,fun b o e n hx=> ?_,fun b o e hx=> ?_,fun b xs e=>rV b xs (I.base.rV b xs e),fun b o xs e=>nN b o xs (I.base.nN b o xs e),fun b ps e=> ?_⟩,?_,fun x c e=> ?_,?_,fun x c e=> ?_,fun p hp=> ?_,bE,I.len⟩
 ·exact keep b o (neL b o e) hb (YC b o e hx) (I.base.keep b o e n hb hx) (I.base.free b o e n hx)
 ·obtain⟨sl,e1⟩:=I.base.slot b o e n hb hx;obtain⟨sl',e2⟩:=slot b _ (neL b o e) hb (YC b o e hx) e1 (I.base.free b o e n hx);exact⟨sl',e2⟩
 ·obtain⟨o',e1⟩:=I.base.there b o e hx;exact free b o' (YC b o e hx) e1 (I.base.free b o e n hx)
 ·obtain⟨o',e1⟩:=I.base.there b o e hx;exact there b o' (YC b o e hx) e1
 ·obtain⟨m1,e1⟩:=I.base.rG b ps e;obtain⟨m2,e2⟩:=rG b _ e1;exact⟨m1++m2,by rw[e2,Array.append_assoc]⟩
 ·obtain⟨m,hn,hl⟩:=I.loc;refine⟨m,ns m hn,fun i x v e1 e2 e3=> ?_⟩;obtain⟨u,r,l⟩:=hl i x v e1 e2 e3;refine⟨u,r,?_⟩;rcases l with l|⟨k,c,e,z⟩
  ·exact .inl l
  ·exact .inr ⟨k,c,e,cellK x c e _ z⟩
 ·obtain⟨v,z⟩:=I.cell x c e;exact⟨v,cellK x c e v z⟩
 ·obtain⟨m,⟨o,_,_,ho,_⟩,_⟩:=I.loc;exact free _ o (fun z=>(yR _ z).2.1 rfl) ho I.free
 ·obtain⟨v,o,ho,hd⟩:=I.cell x c e;exact free c o (fun z=>(yR c z).2.2.1 x c e rfl) ho (I.l_ x c e)
 ·obtain⟨e,n,ne,nf,d⟩:=I.pin p hp;have Xv:p.1∉ch:=fun z=>(yR p.1 z).2.2.2 p hp rfl;exact⟨keep p.1 p.2 ne nf Xv e n,free p.1 p.2 Xv e n,ne,nf,d⟩
theorem Inv.un{t' :Nat}(I:Inv X pins σ H s)(u:Un X.fs [] H H' s.heap h')(bE:n0 X.prog X.w H' h'):Inv X pins σ H' {s with heap:=h',toks:=t'}:=by
 obtain⟨m,⟨o,es,ep,ho,r⟩,_⟩:=id I.loc;obtain⟨sl,hL⟩:=u.any ho I.free (by simp)
 exact I.step (g' :=s.gens) (d' :=s.drawn) (ch:=[]) (fun _ z=>nomatch z) (fun b o _ hb _ e n=>u.keep b o e n hb (by simp)) (fun b o _ hb _ e n=>u.slot b o e n hb (by simp)) (fun b o _ e n=>u.free b o e n (by simp)) (fun b o _ e=>u.there b o e (by simp)) u.rV u.nN u.rG (fun m' hm=>by
  obtain⟨o',Lh,Mp,yS,r'⟩:=hm;rw[ho] at yS;cases yS
  exact⟨_,Lh,Mp,hL,r'⟩) bE I.bare
theorem Inv.call{g' :Array GenState}{t' :Nat}{d' :Drawn}{ch:aY}(I:Inv X pins σ H s)(u:Un (Fq X.stack) ch H H' s.heap h')(bE:n0 X.prog X.w H' h')(hg:AllBare g')
 (yR:∀b∈ch,(b∈X.ex∨X.gF.heap.objs.size≤b)∧b≠X.env.locals∧(∀x c,X.env.cells.lookup x=some c→c≠b)∧∀p∈X.pn++pins,p.1≠b):
 Inv X pins σ H' {s with heap:=h',gens:=g',drawn:=d',toks:=t'}:=by
 obtain⟨m,⟨o,es,ep,ho,r⟩,_⟩:=id I.loc;obtain⟨sl,hL⟩:=u.any ho I.free fun z=>(yR _ z).2.1 rfl
 exact I.step (ch:=ch) yR (fun b o hL hb hc e n=>u.keep b o e n (fun z=>(List.mem_cons.mp (I.yo b z)).elim hL hb) hc) (fun b o _ _ hc e n=>u.any e n hc) (fun b o hc e n=>u.free b o e n hc) (fun b o hc e=>u.there b o e hc) u.rV u.nN u.rG (fun m' hm=>by
  obtain⟨o',Lh,Mp,yS,r'⟩:=hm;rw[ho] at yS;cases yS
  exact⟨_,Lh,Mp,hL,r'⟩) bE hg
theorem Inv.turned{t' :Nat}{it:Addr}(I:Inv X pins σ H s)(k:∀b o,b≠it→s.heap.get? b=some o→h'.get? b=some o)(hn:H it=none)(hL:it≠X.env.locals)
 (h1:it∈X.ex∨X.gF.heap.objs.size≤it) (h2:∀x c,X.env.cells.lookup x=some c→c≠it) (h3:∀p∈X.pn++pins,p.1≠it):Inv X pins σ H {s with heap:=h',toks:=t'}:=by
 have nit:∀b u,H b=some u→b≠it:=fun b u e z=>by rw[z,hn] at e;cases e
 refine I.step (g' :=s.gens) (d' :=s.drawn) (ch:=[it]) (fun b hb=> ?_) (fun b o _ _ hc e _=>k b o (fun z=>hc (by simp[z])) e) (fun b o _ _ hc e _=>⟨o.slots,k b o (fun z=>hc (by simp[z])) e⟩) (fun _ _ _ _ n=>n)
  (fun b o hc e=>⟨o,k b o (fun z=>hc (by simp[z])) e⟩) (fun _ _ e=>e) (fun _ _ _ e=>e) (fun b ps e=>⟨#[],by rw[e];simp⟩) (fun m hm=> ?_) (fun b u e=> ?_) I.bare
 ·have e:b=it:=by simpa using hb
  subst e;exact⟨h1,hL,h2,h3⟩
 ·obtain⟨o,es,ep,ho,r⟩:=hm;exact⟨o,es,ep,k _ o (Ne.symm hL) ho,r⟩
 ·refine(I.bE b u e).rZ (fun c v hc q=>k c v ?_ q) (fun _ q=>q) fun _ _ q=>q;rcases hc with z|z
  ·rw[z];exact nit b u e
  ·exact nit c _ z
theorem Inv.tok(I:Inv X pins σ H s)(t:Nat):Inv X pins σ H {s with toks:=t}:=I.un (h' :=s.heap) (t' :=t) Un.refl I.bE
theorem Inv.kept{t' :Nat}(I:Inv X pins σ H s)(k:∀b u,s.heap.get? b=some u→h'.get? b=some u):Inv X pins σ H {s with heap:=h',toks:=t'}:=I.un (Un.kept k) (I.bE.kept k)
theorem Inv.laid{a:Addr}{o:HO}{t' :Nat}(I:Inv X pins σ H s)(k:∀b u,s.heap.get? b=some u→h'.get? b=some u)(hp:s.heap.objs.size≤a)(new:bw X.prog X.w (upd H a o) h' a o):
 Inv X pins σ (upd H a o) {s with heap:=h',toks:=t'}:=I.un (Un.laid k hp (I.bE.fresh hp)) (I.bE.laid k hp new)
theorem Inv.write{x e:Addr}{o:HO}{t' :Nat}(I:Inv X pins σ H s)(mu:Wi (H x))(he:e=x∨H e=some (.own x))(k:∀b u,b≠e→s.heap.get? b=some u→h'.get? b=some u)(SM:∃u,h'.get? e=some u)
 (new:bw X.prog X.w (upd H x o) h' x o):Inv X pins σ (upd H x o) {s with heap:=h',toks:=t'}:=I.un (Un.write mu he k SM) (I.bE.write mu he k SM new)
theorem Inv.weak{dC :List (Option V)}(I:Inv X pins σ H s)(hl:dC.length=σ.length)(w:∀(i:Nat) v,dC[i]? =some (some v)→σ[i]? =some (some v)):Inv X pins dC H s:=
 ⟨I.ok,I.os,I.bare,I.base,let⟨m,hn,QE⟩:=I.loc;⟨m,hn,fun i x v e1 e2 e3=>QE i x v e1 (w i v e2) e3⟩,I.cell,I.free,I.l_,I.pin,I.bE,hl.trans I.len⟩
theorem Inv.DM{Ob :aP}(I:Inv X pins σ H s)(h:∀p∈Ob,s.heap.get? p.1=some p.2∧H p.1=none∧p.1≠X.env.locals∧p.1∉X.fs∧∀v,p.2.data≠.cell v):Inv X Ob σ H s:=
 ⟨I.ok,I.os,I.bare,I.base,I.loc,I.cell,I.free,I.l_,fun p hp=>(List.mem_append.mp hp).elim (fun z=>I.pin p (List.mem_append_left _ z)) (h p),I.bE,I.len⟩
theorem y_{N:aO}(hN:N.Nodup){i j:Nat}{x:Str}(a:N[i]? =some x)(b:N[j]? =some x):i=j:=by
 obtain⟨h1,e1⟩:=List.getElem?_eq_some_iff.mp a;obtain⟨h2,e2⟩:=List.getElem?_eq_some_iff.mp b;exact(List.getElem_inj hN).mp (e1.trans e2.symm)
theorem v_{M:Model}{A:Around}{E:Value→Shared→Prop}{i:Nat}{x:Str}{v:V}{u:Value}{Q:Unit→Shared→Prop}(I:Inv X pins σ H s)(hN:X.N.Nodup)(hi:X.N[i]? =some x)(hx:Loc X.env.scope x)(r:RelV v u)
 (h:∀s',Inv X pins (σ.set i (some v)) H s'→(∃a,Heap.SameBut a s.heap s'.heap∧(a=X.env.locals∨X.env.cells.lookup x=some a))→Q () s') (hf:X.fn x=true∨X.env.scope.names.lookup x=some .local:=by first|exact .inl rfl|exact .inr rfl|assumption):wpAny M A (storeName X.env x u) Q E s:=by
 obtain⟨m,hn,hl⟩:=id I.loc;have afD:(X.env.scope.kind== .class||(X.env.scope.kind== .module&&X.env.locals !=X.env.globals))=false:=by rw[I.ok.kind];rfl
 have XE:i<σ.length:=by rw[I.len];exact(List.getElem?_eq_some_iff.mp hi).1
 have Q7:=I.Q7
 have tracked:∀{a:Addr} {h' :Heap},(∃o,s.heap.get? a=some o∧H a=none)→Heap.SameBut a s.heap h'→n0 X.prog X.w H h' :=fun{a h'} ha hs b ob e=>by
  obtain⟨_,_,Pp⟩:=ha;refine(I.bE b ob e).rZ (fun c w' hc q=>(hs.2 c ?_).trans q) (fun _ q=>q) fun _ _ q=>q
  rintro rfl
  rcases hc with rfl|hc
  ·rw[Pp] at e;cases e
  ·rw[Pp] at hc;cases hc
 rcases hx with hk|hk
 ·refine wpAny_storeName_local hk hn (fun h' hn' hs=> ?_) afD;obtain⟨oL,_,_,hoL,_⟩:=id hn;refine h _ ⟨I.ok,I.os,I.bare,⟨fun b o e n hb hx=> ?_,fun b o e n hb hx=> ?_,I.base.free,fun b o e hx=> ?_,I.base.rV,I.base.nN,I.base.rG⟩,⟨_,hn',fun j y v' e1 e2 e3=> ?_⟩,fun y c e=> ?_,I.free,I.l_,fun p hp=> ?_,tracked ⟨oL,hoL,I.free⟩ hs,by simpa using I.len⟩ ⟨_,hs,.inl rfl⟩
  ·exact(hs.2 b (Nat.ne_of_lt (Nat.lt_of_lt_of_le (Heap.lt_size e) I.ok.above))).trans (I.base.keep b o e n hb hx)
  ·obtain⟨sl,e1⟩:=I.base.slot b o e n hb hx;exact⟨sl,(hs.2 b (Nat.ne_of_lt (Nat.lt_of_lt_of_le (Heap.lt_size e) I.ok.above))).trans e1⟩
  ·obtain⟨o',e1⟩:=I.base.there b o e hx;exact⟨o',(hs.2 b (Nat.ne_of_lt (Nat.lt_of_lt_of_le (Heap.lt_size e) I.ok.above))).trans e1⟩
  ·by_cases hj:j=i
   ·subst hj;rw[hi] at e1;cases e1
    rw[List.getElem?_set_self XE] at e2;cases e2;exact⟨u,r,.inl ⟨hk,by simp⟩⟩
   ·rw[List.getElem?_set_ne (Ne.symm hj)] at e2;obtain⟨u',r',q⟩:=hl j y v' e1 e2 e3;refine⟨u',r',?_⟩;rcases q with⟨k,e⟩|⟨k,c,e,z⟩
    ·refine .inl ⟨k,?_⟩;have:y≠x:=fun e=>hj (y_ hN e1 (e▸hi));simp[this,e]
    ·exact .inr ⟨k,c,e,z.sameBut hs (Q7 y c e)⟩
  ·obtain⟨w',z⟩:=I.cell y c e;exact⟨w',z.sameBut hs (Q7 y c e)⟩
  ·obtain⟨e,n,ne,nf,d⟩:=I.pin p hp;exact⟨(hs.2 p.1 ne).trans e,n,ne,nf,d⟩
 ·have hfn:X.fn x=true:=by
   rcases hf with z|z
   ·exact z
   ·rw[z] at hk;cases hk
  obtain⟨c,hc⟩:=I.ok.has x (.inl hk);obtain⟨w',z⟩:=I.cell x c hc;refine wpAny_storeName_cell I.ok.kind hk hc z (fun h' PN hs=> ?_);obtain⟨oc,hoc,ac_⟩:=id z;refine h {s with heap:=h'} ⟨I.ok,I.os,I.bare,⟨fun b o e n hb hx=> ?_,fun b o e n hb hx=> ?_,I.base.free,fun b o e hx=> ?_,I.base.rV,I.base.nN,I.base.rG⟩,⟨m,hn.sameBut hs (Ne.symm (Q7 x c hc)),fun j y v' e1 e2 e3=> ?_⟩,fun y c' e=> ?_,I.free,I.l_,fun p hp=> ?_,tracked ⟨oc,hoc,I.l_ x c hc⟩ hs,by simpa using I.len⟩ ⟨c,hs,.inr hc⟩
  ·exact(hs.2 b (Nat.ne_of_lt (Nat.lt_of_lt_of_le (Heap.lt_size e) (I.ok.W0 x c hfn hc)))).trans (I.base.keep b o e n hb hx)
  ·obtain⟨sl,e1⟩:=I.base.slot b o e n hb hx;exact⟨sl,(hs.2 b (Nat.ne_of_lt (Nat.lt_of_lt_of_le (Heap.lt_size e) (I.ok.W0 x c hfn hc)))).trans e1⟩
  ·obtain⟨o',e1⟩:=I.base.there b o e hx;exact⟨o',(hs.2 b (Nat.ne_of_lt (Nat.lt_of_lt_of_le (Heap.lt_size e) (I.ok.W0 x c hfn hc)))).trans e1⟩
  ·by_cases hj:j=i
   ·subst hj;rw[hi] at e1;cases e1
    rw[List.getElem?_set_self XE] at e2;cases e2;exact⟨u,r,.inr ⟨.inl hk,c,hc,PN⟩⟩
   ·rw[List.getElem?_set_ne (Ne.symm hj)] at e2;obtain⟨u',r',q⟩:=hl j y v' e1 e2 e3;refine⟨u',r',?_⟩;rcases q with q|⟨k,c',e,z'⟩
    ·exact .inl q
    ·refine .inr ⟨k,c',e,z'.sameBut hs ?_⟩
     rintro rfl
     exact hj (y_ hN e1 (I.ok.inj _ _ _ e hc▸hi))
  ·by_cases hcc:c' =c
   ·subst hcc;exact⟨_,PN⟩
   ·obtain⟨w2,z2⟩:=I.cell y c' e;exact⟨w2,z2.sameBut hs hcc⟩
  ·obtain⟨e,n,ne,nf,d⟩:=I.pin p hp;refine⟨(hs.2 p.1 ?_).trans e,n,ne,nf,d⟩;intro q;rw[q,hoc] at e;have q' :oc=p.2:=Option.some.inj e;exact d w' (by rw[←q'];exact ac_)
theorem zR{M:Model}{A:Around}{E:Value→Shared→Prop}{i:Nat}{x:Str}{v:V}{u:Value}{Q:Unit→Shared→Prop}(I:Inv X pins σ H s)(hN:X.N.Nodup)(hi:X.N[i]? =some x)(hx:Loc X.env.scope x)(r:RelV v u)
 (h:∀s',Inv X pins (σ.set i (some v)) H s'→Q () s') (hf:X.fn x=true∨X.env.scope.names.lookup x=some .local:=by first|exact .inl rfl|exact .inr rfl|assumption):wpAny M A (storeName X.env x u) Q E s:=
 v_ I hN hi hx r (fun s' I' _=>h s' I') hf
theorem Inv.Uh{s' :Shared}{ch:aY}(I:Inv X pins σ H s)(ho:s'.os=s.os)(u:Un (Fq X.stack) ch H H' s.heap s'.heap)(bE:n0 X.prog X.w H' s'.heap)(hg:AllBare s'.gens)
 (yR:∀b∈ch,(b∈X.ex∨X.gF.heap.objs.size≤b)∧b≠X.env.locals∧(∀x c,X.env.cells.lookup x=some c→c≠b)∧∀p∈X.pn++pins,p.1≠b):Inv X pins σ H' s' :=by
 obtain⟨h',g',d',t',o'⟩:=s';have e:o' =s.os:=ho;subst e;exact I.call (g' :=g') (t' :=t') (d' :=d') u bE hg yR
end
abbrev XK:=Value→Option Addr→Hp→Prop
abbrev St:=List (Option V)
abbrev VK:=V→Hp→Prop
abbrev TE:=St→Hp→VK→Prop
abbrev TT:=St→Hp→(Bool→Hp→Prop)→Prop
abbrev TA:=St→Hp→(ax→Hp→Prop)→Prop
structure Ends where
 nx:St→Hp→Prop
 rt:VK
 bk:St→Hp→Prop:=fun _ _=>False
 ct:St→Hp→Prop:=fun _ _=>False
abbrev TS:=Ends→St→Hp→Prop
def EP(X:Cx)(pins:aP)(σ:St)(Q:VK)(u:Value)(s' :Shared):Prop:=∃v H',Inv X pins σ H' s'∧RelV v u∧Q v H'
def TP(X:Cx)(pins:aP)(σ:St)(Q:Bool→Hp→Prop)(b:Bool)(s' :Shared):Prop:=∃H',Inv X pins σ H' s'∧Q b H'
def AP(X:Cx)(pins:aP)(σ:St)(Q:ax→Hp→Prop)(us:aI)(s' :Shared):Prop:=∃vs H',Inv X pins σ H' s'∧Vals vs us∧Q vs H'
def SP(X:Cx)(pins:aP)(D:Ends)(f:Flow)(s' :Shared):Prop:=
 match f with
 | .next=>∃dC H',Inv X pins dC H' s'∧D.nx dC H'
 | .brk=>∃dC H',Inv X pins dC H' s'∧D.bk dC H'
 | .cont=>∃dC H',Inv X pins dC H' s'∧D.ct dC H'
 | .ret u=>∃v dC H',Inv X pins dC H' s'∧RelV v u∧D.rt v H'
def PE(X:Cx)(e:Expr)(t:TE):Prop:=
 ∀(pins:aP) (s:Shared) (σ:St) (H:Hp) (Q:VK),Inv X pins σ H s→t σ H Q→wpAny (model X.prog X.w) X.A (eval e X.env) (EP X pins σ Q) X.xe s
def PT(X:Cx)(e:Expr)(t:TT):Prop:=
 ∀(pins:aP) (s:Shared) (σ:St) (H:Hp) (Q:Bool→Hp→Prop),Inv X pins σ H s→t σ H Q→wpAny (model X.prog X.w) X.A (isTrue e X.env (eval e X.env)) (TP X pins σ Q) X.xe s
def PW(X:Cx)(e:Expr)(t:TT):Prop:=
 ∀(whole:Sem Value) (pins:aP) (s:Shared) (σ:St) (H:Hp) (Q:Bool→Hp→Prop),Inv X pins σ H s→t σ H Q→wpAny (model X.prog X.w) X.A (isTrue e X.env whole) (TP X pins σ Q) X.xe s
theorem PW.pt{X:Cx}{e:Expr}{t:TT}(h:PW X e t):PT X e t:=h _
def PA(X:Cx)(es:b8)(t:TA):Prop:=
 ∀(pos:Pos) (pins:aP) (s:Shared) (σ:St) (H:Hp) (Q:ax→Hp→Prop),Inv X pins σ H s→t σ H Q→wpAny (model X.prog X.w) X.A (spliced (backTo pos (starEach es X.env))) (AP X pins σ Q) X.xe s
def PS(X:Cx)(st:Stmt)(t:TS):Prop:=
 ∀(pins:aP) (s:Shared) (σ:St) (H:Hp) (D:Ends),Inv X pins σ H s→t D σ H→wpAny (model X.prog X.w) X.A (exec st X.env) (SP X pins D) X.xe s
def A2(X:Cx)(st:List Stmt)(t:TS):Prop:=
 ∀(pins:aP) (s:Shared) (σ:St) (H:Hp) (D:Ends),Inv X pins σ H s→t D σ H→wpAny (model X.prog X.w) X.A (execs st X.env) (SP X pins D) X.xe s
theorem bW{α:Type}{t:Sem α}{Q Q' :α→Shared→Prop}{M:Model}{A:Around}{E:Value→Shared→Prop}{s:Shared}(h:wpAny M A t Q E s)(hQ:∀a s,Q a s→Q' a s):wpAny M A t Q' E s:=wpAny_mono h hQ fun _ _ x=>x
section
variable{X:Cx}
theorem bin{a b:Expr}{ta tb:TE}(ha:PE X a ta)(hb:PE X b tb){pins:aP}{s:Shared}{σ:St}{H:Hp}{R:V→V→Hp→Prop}(I:Inv X pins σ H s)(h:ta σ H fun x H1=>tb σ H1 fun y H2=>R x y H2)
 {α:Type} {Q:α→Shared→Prop} {f:Value→Value→Sem α}
 (hf:∀v u s2 x y H2,Inv X pins σ H2 s2→RelV x v→RelV y u→R x y H2→wpAny (model X.prog X.w) X.A (f v u) Q X.xe s2):
 wpAny (model X.prog X.w) X.A (eval a X.env) (fun v bR=>wpAny (model X.prog X.w) X.A (eval b X.env) (fun u r8=>wpAny (model X.prog X.w) X.A (f v u) Q X.xe r8) X.xe bR) X.xe s:=by
 refine bW (ha pins s σ H _ I h) fun v s1 ⟨x,H1,I1,r1,q1⟩=> ?_;refine bW (hb pins s1 σ H1 _ I1 q1) fun u s2 ⟨y,H2,I2,r2,q2⟩=> ?_;exact hf v u s2 x y H2 I2 r1 r2 q2
def Wl(i:Nat):TE:=fun σ H Q=>∃v,σ[i]? =some (some v)∧Q v H
def tC(v:V):TE:=fun _ H Q=>Q v H
theorem Sj{i:Nat}{x:Str}{pos:Pos}(hN:X.N[i]? =some x)(hv:Vis X.env.scope x)(hd:(x==("__debug__" :Str))=false:=by decide)(JM:(x==("__classdict__" :Str))=false:=by decide):PE X (.Name x pos) (Wl i):=by
 intro pins s σ H Q I h;obtain⟨v,e,h⟩:=h;obtain⟨m,hn,hl⟩:=I.loc;obtain⟨u,r,l⟩:=hl i x v hN e hv;have fin:EP X pins σ Q u s:=⟨v,H,I,r,h⟩;rcases l with⟨hk,hm⟩|⟨hk,c,hc,PK⟩
 ·exact wpAny_Name (wpAny_loadName_local I.ok.kind hk hn hm fin) hd
 ·rcases hk with hk|hk
  ·exact wpAny_Name (wpAny_loadName_cell I.ok.kind hk hc PK fin) hd
  ·exact wpAny_Name (wpAny_loadName_free I.ok.kind hk hc PK fin JM) hd
theorem ao{i j pos}:PE X (.Constant (.int i) j pos) (tC (.int i)):=fun _ _ _ H _ I h=>wpAny_Constant_int ⟨.int i,H,I.tok _,⟨_,rfl⟩,h⟩
theorem qC{b j pos}:PE X (.Constant (.bool b) j pos) (tC (.bl b)):=fun _ _ _ H _ I h=>Constant_bool ⟨.bl b,H,I,rfl,h⟩
theorem cG{j pos}:PE X (.Constant .none j pos) (tC .bC):=fun _ _ _ H _ I h=>Constant_none ⟨.bC,H,I,rfl,h⟩
theorem aM{x j pos}:PE X (.Constant (.str x) j pos) (tC (.str x)):=fun _ _ _ H _ I h=>Calls.Constant_str ⟨.str x,H,I.tok _,⟨_,rfl⟩,h⟩
def Gl(X:Cx)(x:Str):Prop:=X.env.kindOf x=some .globalImplicit
theorem tK{E:Value→Shared→Prop}{pins:aP}{s:Shared}{σ:St}{H:Hp}{x:Str}{u:Value}{pos:Pos}{Q:Value→Shared→Prop}(I:Inv X pins σ H s)(hg:Gl X x)(hm:X.mg x=some u)(h:Q u s)
 (hd:(x==("__debug__" :Str))=false:=by decide):wpAny (model X.prog X.w) X.A (eval (.Name x pos) X.env) Q E s:=
 Calls.Name_function_global I.ok.kind hg (Calls.loadGlobal_global (by rw[I.ok.glob];exact I.mod.glob.keeps I.bk) hm h) hd
theorem m3{E:Value→Shared→Prop}{pins:aP}{s:Shared}{σ:St}{H:Hp}{x:Str}{u:Value}{pos:Pos}{Q:Value→Shared→Prop}(I:Inv X pins σ H s)(hg:Gl X x)(hm:X.mg x=none)(hv:bootBuiltins x=some u)(h:Q u s)
 (hn:x≠ "__name__":=by decide) (hd:(x==("__debug__" :Str))=false:=by decide):wpAny (model X.prog X.w) X.A (eval (.Name x pos) X.env) Q E s:=by
 obtain⟨mb,h1,h2⟩:=I.mod.blt;exact Calls.Name_function_global I.ok.kind hg (Calls.loadGlobal_builtin (by rw[I.ok.glob];exact I.mod.glob.keeps I.bk) hm (by rw[I.ok.blt];exact h1.keeps I.bk) ((h2 x hn).trans hv) h) hd
theorem lx{x:Str}{v:V}{u:Value}{pos:Pos}(hg:Gl X x)(hm:X.mg x=some u)(r:RelV v u)(hd:(x==("__debug__" :Str))=false:=by decide):PE X (.Name x pos) (tC v):=
 fun _ _ _ H _ I h=>tK I hg hm ⟨v,H,I,r,h⟩ hd
theorem jE{x:Str}{v:V}{u:Value}{pos:Pos}(hg:Gl X x)(hm:X.mg x=none)(hv:bootBuiltins x=some u)(r:RelV v u)(hn:x≠ "__name__":=by decide)(hd:(x==("__debug__" :Str))=false:=by decide):PE X (.Name x pos) (tC v):=
 fun _ _ _ H _ I h=>m3 I hg hm hv ⟨v,H,I,r,h⟩ hn hd
variable{a b:Expr}{ta tb:TE}{pos:Pos}
def PC(X:Cx)(op:CmpOp)(a b:Expr)(t:TE):Prop:=
 ∀(pins:aP) (s:Shared) (σ:St) (H:Hp) (Q:VK),Inv X pins σ H s→t σ H Q→
  wpAny (model X.prog X.w) X.A (eval a X.env) (fun v bR=>wpAny (model X.prog X.w) X.A (eval b X.env) (fun u r8=>wpAny (model X.prog X.w) X.A (compareOp op v u) (EP X pins σ Q) X.xe r8) X.xe bR) X.xe s
theorem yU(b:Expr){op:CmpOp}(h:op≠.In)(h2:op≠.NotIn):behindInMarks op b=false:=by
 have e1:(op==CmpOp.In)=false:=by cases op<;>first|rfl|exact absurd rfl h
 have e2:(op==CmpOp.NotIn)=false:=by cases op<;>first|rfl|exact absurd rfl h2
 cases b<;>simp[behindInMarks,e1,e2]
def tB(t:TE):TT:=fun σ H Q=>t σ H fun x H1=>∃c,x= .bl c∧Q c H1
theorem Sx{op:CmpOp}{t:TE}(h:PC X op a b t)(h1:behindInMarks op b=false:=by first|exact yU _ (by decide) (by decide)|rfl):PE X (.Compare a [op] [b] pos) t:=fun pins s σ H Q I hw=>wpAny_Compare1 (h pins s σ H Q I hw) h1
theorem ahH{op:CmpOp}{t:TE}(h:PC X op a b t)(h1:behindInMarks op b=false:=by first|exact yU _ (by decide) (by decide)|rfl):PT X (.Compare a [op] [b] pos) (tB t):=by
 intro pins s σ H Q I hw;refine wpAny_isTrue_Compare1 (bW (h pins s σ H _ I hw) fun v s1 h1=>bW h1 fun u s2 h2=>bW h2 fun c s3 ⟨x,H1,I1,r1,q1⟩=> ?_) h1;obtain⟨d,rfl,q⟩:=q1;cases r1;exact wpAny_truthy_bool ⟨H1,I1,q⟩
theorem dW{e:Expr}{t:TE}(h:PE X e t)(he:∀whole,isTrue e X.env whole=(do let v←whole;standAt e.pos;holding [v] (truthy v)):=by intro _;rfl):PT X e (tB t):=by
 intro pins s σ H Q I hw;refine isTrue_plain (bW (h pins s σ H _ I hw) fun v s1 ⟨x,H1,I1,r1,q1⟩=> ?_) (he _);obtain⟨d,rfl,q⟩:=q1;cases r1;exact wpAny_truthy_bool ⟨H1,I1,q⟩
variable{tA X6 :TT}{ww:b8}
def aii(t u:TT):TT:=fun σ H Q=>t σ H fun c H1=>if c=true then u σ H1 Q else Q false H1
def tOr(t u:TT):TT:=fun σ H Q=>t σ H fun c H1=>if c=true then Q true H1 else u σ H1 Q
def abr(t:TT):TT:=fun σ H Q=>t σ H fun c H1=>Q (!c) H1
theorem zn(ha:PT X a tA):PW X (.BoolOp .And [a] pos) tA:=by
 intro wh pins s σ H Q I h;refine isTrue_and (bW (ha pins s σ H Q I h) fun c s1 e=> ?_)
 cases c with
 |true=>exact isTrue_and_nil e
 |false=>exact e
theorem ZB(ha:PT X a tA):PW X (.BoolOp .Or [a] pos) tA:=by
 intro wh pins s σ H Q I h;refine isTrue_or (bW (ha pins s σ H Q I h) fun c s1 e=> ?_)
 cases c with
 |false=>exact isTrue_or_nil e
 |true=>exact e
theorem WP(ha:PT X a tA)(hb:PW X (.BoolOp .And (b::ww) pos) X6):PW X (.BoolOp .And (a::b::ww) pos) (aii tA X6):=by
 intro wh pins s σ H Q I h;refine isTrue_and (bW (ha pins s σ H _ I h) fun c s1 ⟨H1,I1,q1⟩=> ?_)
 cases c with
 |true=>exact hb wh pins s1 σ H1 Q I1 q1
 |false=>exact⟨H1,I1,q1⟩
theorem jac(ha:PT X a tA)(hb:PW X (.BoolOp .Or (b::ww) pos) X6):PW X (.BoolOp .Or (a::b::ww) pos) (tOr tA X6):=by
 intro wh pins s σ H Q I h;refine isTrue_or (bW (ha pins s σ H _ I h) fun c s1 ⟨H1,I1,q1⟩=> ?_)
 cases c with
 |true=>exact⟨H1,I1,q1⟩
 |false=>exact hb wh pins s1 σ H1 Q I1 q1
theorem eS(ha:PT X a tA):PT X (.UnaryOp .Not a pos) (abr tA):=by
 intro pins s σ H Q I h;exact isTrue_not (ha pins s σ H (fun c H1=>Q (!c) H1) I h)
def U1(ta tb:TE):TE:=fun σ H Q=>ta σ H fun x H1=>∃c,x= .bl c∧if c=true then tb σ H1 Q else Q (.bl false) H1
def Zp(ta tb:TE):TE:=fun σ H Q=>ta σ H fun x H1=>∃c,x= .bl c∧if c=true then Q (.bl true) H1 else tb σ H1 Q
def Xz(ta:TE):TE:=fun σ H Q=>ta σ H fun x H1=>∃c,x= .bl c∧Q (.bl (!c)) H1
theorem iG{op}{t:TE}(h:PE X a t):PE X (.BoolOp op [a] pos) t:=fun pins s σ H Q I hw=>BoolOp_one (h pins s σ H Q I hw)
theorem iB(ha:PE X a ta)(hb:PE X (.BoolOp .And (b::ww) pos) tb):PE X (.BoolOp .And (a::b::ww) pos) (U1 ta tb):=by
 intro pins s σ H Q I h;refine BoolOp_and (bW (ha pins s σ H _ I h) fun v s1 ⟨x,H1,I1,r1,q1⟩=> ?_);obtain⟨c,rfl,q1⟩:=q1;cases r1;refine wpAny_truthy_bool ?_
 cases c with
 |true=>exact hb pins s1 σ H1 Q I1 q1
 |false=>exact⟨.bl false,H1,I1,rfl,q1⟩
theorem Qq(ha:PE X a ta)(hb:PE X (.BoolOp .Or (b::ww) pos) tb):PE X (.BoolOp .Or (a::b::ww) pos) (Zp ta tb):=by
 intro pins s σ H Q I h;refine BoolOp_or (bW (ha pins s σ H _ I h) fun v s1 ⟨x,H1,I1,r1,q1⟩=> ?_);obtain⟨c,rfl,q1⟩:=q1;cases r1;refine wpAny_truthy_bool ?_
 cases c with
 |false=>exact hb pins s1 σ H1 Q I1 q1
 |true=>exact⟨.bl true,H1,I1,rfl,q1⟩
theorem J7(ha:PE X a ta):PE X (.UnaryOp .Not a pos) (Xz ta):=by
 intro pins s σ H Q I h;refine UnaryOp_ (bW (ha pins s σ H _ I h) fun v s1 ⟨x,H1,I1,r1,q1⟩=> ?_);obtain⟨c,rfl,q1⟩:=q1;cases r1;exact not_of (wpAny_truthy_bool ⟨.bl (!c),H1,I1,rfl,q1⟩)
end
def bD(K:Frag)(H:Hp)(a:Addr)(xs:ax):Prop:=
 Rd H a (.lst xs)∨
  ∃(o:Obj) (its:Array Value) (n:Nat),K.lookup a=some o∧o.cls= .type "list" ∧o.dict=none∧o.data= .seq its n∧its.size≤sizeLine∧Vals xs its.toList
def mr(K:Frag)(H:Hp)(a:Addr)(xs:ax):Prop:=
 Rd H a (.tup xs)∨
  ∃(o:Obj) (its:Array Value) (n:Nat),K.lookup a=some o∧o.cls= .type "tuple" ∧o.data= .seq its n∧its.size≤sizeLine∧Vals xs its.toList
def agh:Value→Option V
 | .none=>some .bC
 | .bool b=>some (.bl b)
 | .int i _=>some (.int i)
 | .str x _=>some (.str x)
 | .bytes b _=>some (.Fw b)
 | .float b _=>some (.R1 b)
 | .ref a=>some (.ref a)
 | .type n=>some (.ty n)
 |_=>none
theorem RelV.abs{x:V}{u:Value}(r:RelV x u):agh u=some x:=by
 cases x with
 |bC=>cases r;rfl
 |bl _=>cases r;rfl
 |int _=>obtain⟨t,rfl⟩:=r;rfl
 |str _=>obtain⟨t,rfl⟩:=r;rfl
 |Fw _=>obtain⟨t,rfl⟩:=r;rfl
 |R1 _=>obtain⟨t,rfl⟩:=r;rfl
 |ref _=>cases r;rfl
 |ty _=>cases r;rfl
theorem RelV.inj{x y:V}{u:Value}(r:RelV x u)(q:RelV y u):x=y:=Option.some.inj (r.abs.symm.trans q.abs)
theorem Vals.inj:∀{xs ys:ax} {us:aI},Vals xs us→Vals ys us→xs=ys
 |_,_,_,.nil,.nil=>rfl
 |_,_,_,.cons r t,.cons r' t' =>by rw[r.inj r',Vals.inj t t']
section
variable{X:Cx}{pins:aP}{σ:St}{H:Hp}{s:Shared}{a:Addr}{xs ys:ax}
theorem bD.of{K:Frag}(h:H a=some (.lst xs)):bD K H a xs:= .inl (.inl h)
theorem mr.of{K:Frag}(h:H a=some (.tup xs)):mr K H a xs:= .inl (.inl h)
theorem Inv.list(I:Inv X pins σ H s)(h:bD X.K H a xs):∃its:aI,Vals xs its∧PlainL s.heap a its.toArray∧xs.length≤sizeLine:=by
 rcases h with h|⟨o,its,n,hk,hc,hd,hs,hz,r⟩
 ·obtain⟨z,its,n,r,e⟩:=h.ok I.bE;exact⟨its,r,⟨_,n,e,rfl,rfl,rfl⟩,z⟩
 ·refine⟨its.toList,r,⟨o,n,I.qI a o hk,hc,hd,by simpa using hs⟩,?_⟩;have e:=r.length;simp only[Array.length_toList] at e
  lia
theorem Inv.tuple(I:Inv X pins σ H s)(h:mr X.K H a xs):∃its:aI,Vals xs its∧IsTup s.heap a its.toArray∧xs.length≤sizeLine:=by
 rcases h with h|⟨o,its,n,hk,hc,hs,hz,r⟩
 ·obtain⟨z,its,r,p⟩:=h.ok I.bE;exact⟨its,r,p,z⟩
 ·refine⟨its.toList,r,⟨o,I.qI a o hk,hc,n,by simpa using hs⟩,?_⟩;have e:=r.length;simp only[Array.length_toList] at e
  lia
theorem Inv.uU(I:Inv X pins σ H s)(h:bD X.K H a xs)(h' :bD X.K H a ys):xs=ys:=by
 obtain⟨its,r,⟨o,n,e,_,_,d⟩,_⟩:=I.list h;obtain⟨its',r',⟨o',n',e',_,_,d'⟩,_⟩:=I.list h';rw[e] at e';cases e'
 rw[d] at d';injection d' with d1 _;have:its=its' :=by simpa using congrArg Array.toList d1
 subst this;exact r.inj r'
end
abbrev Cx.tE(X:Cx)(E:Value→Shared→Prop):Cx:={X with xe:=E}
abbrev Cx.KD(X:Cx):Cx:=X.tE fun _ _=>False
theorem Cx.Ok.tE{X:Cx}(ok:X.Ok)(E:Value→Shared→Prop):(X.tE E).Ok:=
 ⟨ok.mod,ok.kind,ok.glob,ok.blt,ok.above,ok.inj,ok.has,ok.W0,ok.hd,ok.frames,ok.XW,ok.exf,ok.bs,ok.Gu,ok.F0,ok.L1,ok.qV,ok.PM⟩
theorem Cx.Ok.jU{X:Cx}{E:Value→Shared→Prop}(ok:(X.tE E).Ok):X.Ok:=
 ⟨ok.mod,ok.kind,ok.glob,ok.blt,ok.above,ok.inj,ok.has,ok.W0,ok.hd,ok.frames,ok.XW,ok.exf,ok.bs,ok.Gu,ok.F0,ok.L1,ok.qV,ok.PM⟩
section
variable{X:Cx}{pins:aP}{σ:St}{H:Hp}{s:Shared}{E:Value→Shared→Prop}
theorem Inv.tE(I:Inv X pins σ H s)(E:Value→Shared→Prop):Inv (X.tE E) pins σ H s:=⟨I.ok.tE E,I.os,I.bare,I.base,I.loc,I.cell,I.free,I.l_,I.pin,I.bE,I.len⟩
theorem Inv.jU(I:Inv (X.tE E) pins σ H s):Inv X pins σ H s:=⟨I.ok.jU,I.os,I.bare,I.base,I.loc,I.cell,I.free,I.l_,I.pin,I.bE,I.len⟩
theorem SP.jU{D:Ends}{f:Flow}{s' :Shared}(h:SP (X.tE E) pins D f s'):SP X pins D f s' :=by
 cases f with
 |next=>obtain⟨dC,H',I,q⟩:=h;exact⟨dC,H',I.jU,q⟩
 |brk=>obtain⟨dC,H',I,q⟩:=h;exact⟨dC,H',I.jU,q⟩
 |cont=>obtain⟨dC,H',I,q⟩:=h;exact⟨dC,H',I.jU,q⟩
 |ret u=>obtain⟨v,dC,H',I,r,q⟩:=h;exact⟨v,dC,H',I.jU,r,q⟩
theorem PE.KD{e:Expr}{t:TE}(h:PE X.KD e t):PE X e t:=fun pins s σ H Q I hw=>
 wpAny_mono (h pins s σ H Q (I.tE _) hw) (fun _ _ ⟨v,H',I',r,q⟩=>⟨v,H',I'.jU,r,q⟩) fun _ _ z=>False.elim z
theorem PT.KD{e:Expr}{t:TT}(h:PT X.KD e t):PT X e t:=fun pins s σ H Q I hw=>
 wpAny_mono (h pins s σ H Q (I.tE _) hw) (fun _ _ ⟨H',I',q⟩=>⟨H',I'.jU,q⟩) fun _ _ z=>False.elim z
theorem A2.KD{st:List Stmt}{t:TS}(h:A2 X.KD st t):A2 X st t:=fun pins s σ H D I hw=>
 wpAny_mono (h pins s σ H D (I.tE _) hw) (fun _ _ q=>q.jU) fun _ _ z=>False.elim z
end
section
variable{X:Cx}{st:Stmt}{ww:List Stmt}{t u:TS}{e:Expr}{te:TE}{pos:Pos}
def Qu:TS:=fun D σ H=>D.nx σ H
def Xf(t u:TS):TS:=fun D σ H=>t {D with nx:=u D} σ H
theorem bh:A2 X [] Qu:=fun _ _ σ H _ I h=>wpAny_execs_nil ⟨σ,H,I,h⟩
theorem ai(h1:PS X st t)(h2:A2 X ww u):A2 X (st::ww) (Xf t u):=by
 intro pins s σ H D I h;refine wpAny_execs_cons (bW (h1 pins s σ H {D with nx:=u D} I h) fun f s1 q=> ?_)
 cases f with
 |next=>
  obtain⟨dC,H',I',q⟩:=q;exact h2 pins s1 dC H' D I' q
 |ret v=>exact q
 |brk=>exact q
 |cont=>exact q
theorem aq(h1:PS X st t):A2 X [st] t:=by
 intro pins s σ H D I h;refine wpAny_execs_cons (bW (h1 pins s σ H D I h) fun f s1 q=> ?_)
 cases f with
 |next=>exact wpAny_execs_nil q
 |ret v=>exact q
 |brk=>exact q
 |cont=>exact q
theorem Inv.quiet{pins:aP}{σ:St}{H:Hp}{s:Shared}(I:Inv X pins σ H s):interactive X.env=false:=by simp[interactive,I.ok.kind]
def Ui(te:TE):TS:=fun D σ H=>te σ H fun _ H1=>D.nx σ H1
theorem bB(he:PE X e te)(hs:swapsWith e none pos.line X.env=pure false:=by rfl):PS X (.Expr e pos) (Ui te):=by
 intro pins s σ H D I h;exact wpAny_Expr_any (bW (he pins s σ H _ I h) fun v s1 ⟨x,H1,I1,r1,q1⟩=>⟨σ,H1,I1,q1⟩) I.quiet hs
def Tb(te:TE):TS:=fun D σ H=>te σ H D.rt
theorem aH(he:PE X e te):PS X (.Return (some e) pos) (Tb te):=by
 intro pins s σ H D I h;exact wpAny_Return_some (bW (he pins s σ H _ I h) fun v s1 ⟨x,H1,I1,r1,q1⟩=>⟨x,σ,H1,I1,r1,q1⟩)
def To(c:TT)(t u:TS):TS:=fun D σ H=>c σ H fun b H1=>if b=true then t D σ H1 else u D σ H1
theorem b_{c:Expr}{a b:List Stmt}{tc:TT}(hc:PT X c tc)(ha:A2 X a t)(hb:A2 X b u):PS X (.If c a b pos) (To tc t u):=by
 intro pins s σ H D I h;refine wpAny_If (bW (hc pins s σ H _ I h) fun d s1 ⟨H1,I1,q1⟩=> ?_)
 cases d with
 |true=>exact ha pins s1 σ H1 D I1 q1
 |false=>exact hb pins s1 σ H1 D I1 q1
def Ru:TS:=fun _ _ _=>False
theorem dD:PS X st Ru:=fun _ _ _ _ _ _ h=>h.elim
end
abbrev TG:=V→St→Hp→(St→Hp→Prop)→Prop
abbrev N2:=ax→St→Hp→(St→Hp→Prop)→Prop
def PG(X:Cx)(target:Expr)(t:TG):Prop:=
 ∀(pins:aP) (s:Shared) (σ:St) (H:Hp) (v:V) (u:Value) (Q:St→Hp→Prop),Inv X pins σ H s→RelV v u→t v σ H Q→
  wpAny (model X.prog X.w) X.A (assign target X.env u) (fun _ s' =>∃dC H',Inv X pins dC H' s'∧Q dC H') X.xe s
def V_(X:Cx)(ts:b8)(t:N2):Prop:=
 ∀(pins:aP) (s:Shared) (σ:St) (H:Hp) (vs:ax) (us:aI) (Q:St→Hp→Prop),Inv X pins σ H s→Vals vs us→t vs σ H Q→
  wpAny (model X.prog X.w) X.A (assignInOrder ((assignEach ts X.env).map (·.2)) us) (fun _ s' =>∃dC H',Inv X pins dC H' s'∧Q dC H') X.xe s
abbrev Q6:=V→V→V→Hp→(Hp→Prop)→Prop
def Xu(X:Cx)(t:Q6):Prop:=
 ∀(pins:aP) (s:Shared) (σ:St) (H:Hp) (o i v:V) (ov iv u:Value) (Q:Hp→Prop),Inv X pins σ H s→RelV o ov→RelV i iv→RelV v u→t o i v H Q→
  wpAny (model X.prog X.w) X.A (setItem ov iv u) (fun _ s' =>∃H',Inv X pins σ H' s'∧Q H') X.xe s
section
variable{X:Cx}{pos:Pos}
def CZ(i:Nat):TG:=fun v σ H Q=>Q (σ.set i (some v)) H
theorem a_{i:Nat}{x:Str}(hN:X.N.Nodup)(hi:X.N[i]? =some x)(hx:Loc X.env.scope x)(hf:X.fn x=true∨X.env.scope.names.lookup x=some .local:=by first|exact .inl rfl|exact .inr rfl|assumption):PG X (.Name x pos) (CZ i):=by
 intro pins s σ H v u Q I r h;exact wpAny_assign_Name (zR I hN hi hx r (fun s' I' =>⟨_,H,I',h⟩) hf)
def ab0:N2:=fun vs σ H Q=>vs=[]∧Q σ H
def XM(t:TG)(u:N2):N2:=fun vs σ H Q=>∃v r,vs=v::r∧t v σ H fun dC H' =>u r dC H' Q
theorem tO:V_ X [] ab0:=by
 intro pins s σ H vs us Q I r h;obtain⟨e,h⟩:=h;subst e;cases r;exact assignInOrder_nil ⟨σ,H,I,h⟩
theorem g9{e:Expr}{es:b8}{t:TG}{u:N2}(h1:PG X e t)(h2:V_ X es u)
 (hs:(assignEach (e::es) X.env).map (·.2)=assign e X.env::(assignEach es X.env).map (·.2):=by rfl):V_ X (e::es) (XM t u):=by
 intro pins s σ H vs us Q I r h;obtain⟨v,vr,e1,h⟩:=h;subst e1
 cases r with
 |cons r rr=>
  rw[hs];refine assignInOrder_cons (bW (h1 pins s σ H _ _ _ I r h) fun _ s1 ⟨SN,H1,I1,q1⟩=> ?_);exact h2 pins s1 SN H1 _ _ Q I1 rr q1
def VB(K:Frag)(n:Nat)(t:N2):TG:=fun v σ H Q=>∃a xs,v= .ref a∧mr K H a xs∧xs.length=n∧t xs σ H Q
theorem Rg{es:b8}{k:Nat}{t:N2}{n:Nat}(hc:X.calm=true)(h:V_ X es t)
 (hn:(assignEach es X.env).length=n:=by rfl) (iP:(assignEach es X.env).findIdx? (·.1)=none:=by rfl):PG X (.Tuple es k pos) (VB X.K n t):=by
 intro pins s σ H v u Q I r hw;obtain⟨a,xs,e1,hq,hl,hw⟩:=hw;subst e1;cases r;obtain⟨its,rv,ht,hz⟩:=I.tuple hq;refine assign_Tuple_tuple (I.ok.hd hc) ht (by simp[hn,←hl,rv.length]) iP fun h' hx=> ?_;have I1:Inv X pins σ H {s with heap:=h'}:=I.kept (t' :=s.toks) fun b o e=>hx b o (Nat.ne_of_lt (Heap.lt_size e)) e;exact h pins _ σ H xs _ Q I1 (by simpa using rv) hw
def ZV(to ti:TE)(t:Q6):TG:=fun v σ H Q=>to σ H fun o H1=>ti σ H1 fun i H2=>t o i v H2 fun H3=>Q σ H3
theorem o8{o i:Expr}{to ti:TE}{t:Q6}(ho:PE X o to)(hi:PE X i ti)(hs:Xu X t)
 (ha:∀v,assign (.Subscript o i pos) X.env v=(do
  let ov←holding [v] (eval o X.env)
  let iv←holding [v,ov] (eval i X.env)
  standAt pos
  holding [v,ov,iv] (setItem ov iv v)
  release [v,ov,iv] []):=by intro _;rfl):PG X (.Subscript o i pos) (ZV to ti t):=by
 intro pins s σ H v u Q I r h;rw[ha];refine wpAny_bind (wpAny_holding (bW (ho pins s σ H _ I h) fun ov s1 ⟨x,H1,I1,r1,q1⟩=> ?_));refine wpAny_bind (wpAny_holding (bW (hi pins s1 σ H1 _ I1 q1) fun iv s2 ⟨y,H2,I2,r2,q2⟩=> ?_));refine wpAny_bind (wpAny_standAt (wpAny_bind (wpAny_holding (bW (hs pins s2 σ H2 x y v ov iv u _ I2 r1 r2 r q2) fun _ s3 ⟨H3,I3,q3⟩=> ?_))));exact wpAny_release ⟨σ,H3,I3,q3⟩
def Ld(te:TE)(g:TG):TS:=fun D σ H=>te σ H fun x H1=>g x σ H1 D.nx
theorem oF{tg e:Expr}{te:TE}{g:TG}(he:PE X e te)(hg:PG X tg g)(hs:swapsWithSole [tg] e pos.line X.env=pure false:=by rfl)(hw:swappedStores [tg] e X.env=pure none:=by rfl)
 (h1:(assignEach [tg] X.env).map (·.2)=[assign tg X.env]:=by rfl):PS X (.Assign [tg] e pos) (Ld te g):=by
 intro pins s σ H D I h;refine wpAny_Assign_stores (bW (he pins s σ H _ I h) fun v s1 ⟨x,H1,I1,r1,q1⟩=> ?_) hs hw;rw[h1];exact bW (hg pins s1 σ H1 x v _ I1 r1 q1) fun _ s2 q=>q
theorem aZ{i:Nat}{x:Str}{e:Expr}{te:TE}{pos' :Pos}(hN:X.N.Nodup)(hi:X.N[i]? =some x)(hx:Loc X.env.scope x)(he:PE X e te)(hs:swapsWith e (some (.Name x pos')) pos.line X.env=pure false:=by rfl)(hf:X.fn x=true∨X.env.scope.names.lookup x=some .local:=by first|exact .inl rfl|exact .inr rfl|assumption):
 PS X (.Assign [.Name x pos'] e pos) (Ld te (CZ i)):=by
 intro pins s σ H D I h;refine wpAny_Assign_Name (bW (he pins s σ H _ I h) fun v s1 ⟨y,H1,I1,r1,q1⟩=> ?_) hs;exact zR I1 hN hi hx r1 (fun s2 I2=>⟨_,H1,I2,q1⟩) hf
end
section
variable{X:Cx}{pos:Pos}
def Sv(c:TT)(tb:TS):TS:=fun D σ H=>∃W:Nat→St→Hp→Prop,(∃m,W m σ H)∧∀m σ H,W m σ H→
 c σ H fun b H1=>if b=true then ∃N:St→Hp→Prop,(∀dC H',N dC H'→∃m',m' <m∧W m' dC H')∧tb {D with nx:=N,ct:=N,bk:=D.nx} σ H1 else D.nx σ H1
theorem AK{c:Expr}{body:List Stmt}{tc:TT}{tb:TS}(hp:PassesOwn (model X.prog X.w) X.A X.env X.xe)(hc:PT X c tc)(hb:A2 X body tb):PS X (.While c body [] pos) (Sv tc tb):=by
 intro pins s σ H D I h;obtain⟨W,⟨m0,w0⟩,turn⟩:=h;refine wpAny_While (codeAny_whileLoop (fun n s' =>∃dC H',Inv X pins dC H' s'∧W n dC H') ?_ m0 ⟨σ,H,I,w0⟩)
 rintro n s1 ⟨SN,H1,I1,w1⟩
 refine wpAny_passesOwn hp (bW (hc pins s1 SN H1 _ I1 (turn n SN H1 w1)) fun b s2 ⟨H2,I2,q2⟩=> ?_)
 cases b with
 |true=>
  obtain⟨N,hN,q2⟩:=q2;rw[if_pos rfl];refine wpAny_passesOwn hp (bW (hb pins s2 SN H2 _ I2 q2) fun f s3 q3=> ?_)
  cases f with
  |next=>
   obtain⟨G_,H3,I3,n3⟩:=q3;obtain⟨m',hm,w3⟩:=hN G_ H3 n3;exact⟨m',hm,G_,H3,I3,w3⟩
  |cont=>
   obtain⟨G_,H3,I3,n3⟩:=q3;obtain⟨m',hm,w3⟩:=hN G_ H3 n3;exact⟨m',hm,G_,H3,I3,w3⟩
  |brk=>exact q3
  |ret v=>exact q3
 |false=>
  rw[if_neg Bool.false_ne_true];exact wpAny_execs_nil ⟨SN,H2,I2,q2⟩
end
structure It where
 go:Nat→Hp→Prop
 tJ:Nat→Hp→V→Hp→Prop
 stop:Nat→Hp→Prop
def rN(X:Cx)(pins:aP)(H:Hp)(b:Addr):Prop:=
 H b=none∧b≠X.env.locals∧b∉X.fs∧(b∈X.ex∨X.gF.heap.objs.size≤b)∧(∀x c,X.env.cells.lookup x=some c→c≠b)∧∀p∈X.pn++pins,p.1≠b
theorem Inv.uP{X:Cx}{pins:aP}{σ:St}{H H' :Hp}{s:Shared}{b:Addr}(I:Inv X pins σ H s)(hb:s.heap.objs.size≤b)(hn:H' b=none):rN X pins H' b:=by
 refine⟨hn,Nat.ne_of_gt (Nat.lt_of_lt_of_le I.lt hb),I.acu hb,.inr (Nat.le_trans I.sz hb),fun x c e z=> ?_,fun p hp z=> ?_⟩
 ·obtain⟨v,q⟩:=I.cell x c e;exact absurd (Nat.lt_of_lt_of_le q.lt (by rw[z];exact hb)) (Nat.lt_irrefl _)
 ·exact absurd (Nat.lt_of_lt_of_le (Heap.lt_size (I.pin p hp).1) (by rw[z];exact hb)) (Nat.lt_irrefl _)
structure Turn(P:Program)(w:World)(K:Frag)(tg:Expr)(J:It)(fp:aY)(it:Addr)(tn:Nat→Heap→Prop):Prop where
 mem:it∈fp
 obj:∀i h,tn i h→∀b∈fp,∃o,h.get? b=some o∧∀v,o.data≠.cell v
 keep:∀i h h',tn i h→(∀b∈fp,∀o,h.get? b=some o→h'.get? b=some o)→tn i h'
 item:∀(X:Cx),X.prog=P→X.w=w→X.K=K→X.calm=true→∀(i:Nat) (pins:aP) (s:Shared) (σ:St) (H:Hp) (E:Value→Shared→Prop),Inv X pins σ H s→(∀b∈fp,rN X pins H b)→tn i s.heap→J.go i H→
  wpAny (model P w) X.A (pyNext (.ref it)) (fun r s1=>∃u,r=some u∧
   wpAny (model P w) X.A (letOwnedTupleGo tg (.ref it) u) (fun _ s2=>∃x H',Inv X pins σ H' s2∧RelV x u∧J.tJ i H x H'∧tn (i+1) s2.heap∧∀b∈fp,H' b=none) E s1) E s
 done:∀(X:Cx),X.prog=P→X.w=w→X.K=K→X.calm=true→∀(i:Nat) (pins:aP) (s:Shared) (σ:St) (H:Hp) (E:Value→Shared→Prop),Inv X pins σ H s→(∀b∈fp,rN X pins H b)→tn i s.heap→J.stop i H→
  wpAny (model P w) X.A (pyNext (.ref it)) (fun r s1=>r=none∧Inv X pins σ H s1) E s
 self:∀(A:Around) (i:Nat) (s:Shared) (Q:Value→Shared→Prop) (E:Value→Shared→Prop),tn i s.heap→Q (.ref it) s→wpAny (model P w) A (pyIter (.ref it)) Q E s
abbrev TI:=St→Hp→(It→Hp→Prop)→Prop
def PIE(X:Cx)(pins:aP)(σ:St)(tg:Expr)(R:It→Hp→Prop)(Yy:Value)(s2:Shared):Prop:=
 ∃(it:Addr) (fp:aY) (tn:Nat→Heap→Prop) (J:It) (H' :Hp),Yy= .ref it∧Inv X pins σ H' s2∧Turn X.prog X.w X.K tg J fp it tn∧tn 0 s2.heap∧(∀b∈fp,rN X pins H' b)∧R J H'
def PI(X:Cx)(tg iter:Expr)(wi:TI):Prop:=
 ∀(pins:aP) (s:Shared) (σ:St) (H:Hp) (R:It→Hp→Prop),Inv X pins σ H s→wi σ H R→
  wpAny (model X.prog X.w) X.A (eval iter X.env) (fun v s1=>wpAny (model X.prog X.w) X.A (pyIter v) (PIE X pins σ tg R) X.xe s1) X.xe s
theorem yX{M:Model}{A:Around}{E:Value→Shared→Prop}{s:Shared}{tg:Expr}{it:Addr}{u:Value}{o:Obj}{n:String}{vs:Array Value}{Q:Unit→Shared→Prop}(ho:s.heap.get? it=some o)(hc:o.cls= .type n)(hd:o.data= .fields vs)
 (hn:["enumerate","zip","dict_itemiterator","dict_reverseitemiterator","odict_iterator","itertools.zip_longest","itertools.pairwise"].contains n=false) (hQ:Q () s):wpAny M A (letOwnedTupleGo tg (.ref it) u) Q E s:=by
 unfold letOwnedTupleGo
 cases tg<;>first
  |exact wpAny_pure hQ
  |(cases u<;>first
   |exact wpAny_pure hQ
   |(refine wpAny_bind (wpAny_load ho ?_)
     rw[hc,hd];show wpAny M A (if(["enumerate","zip","dict_itemiterator","dict_reverseitemiterator","odict_iterator","itertools.zip_longest","itertools.pairwise"].contains n&&vs[0]? ==some (rawInt _))=true then _ else _) Q E s;rw[if_neg (by intro h;rw[hn,Bool.false_and] at h;cases h)];exact wpAny_pure hQ))
def QY(K:Frag)(a:Addr):It:=
 ⟨fun i H=>∃xs x,bD K H a xs∧xs[i]? =some x,fun i H x H' =>H' =H∧∀xs,bD K H a xs→xs[i]? =some x,fun i H=>∃xs,bD K H a xs∧xs.length≤i⟩
def OX(lo:Int)(n:Nat):It:=⟨fun i _=>i<n,fun i H x H' =>H' =H∧x= .int (lo+i),fun i _=>n≤i⟩
theorem EN{P:Program}{w:World}{K:Frag}{tg:Expr}(a it:Addr):Turn P w K tg (QY K a) [it] it (fun i h=>h.IsListIter it a i) where
 mem:=by simp
 obj:=fun i h st b hb=>by
  have e:b=it:=by simpa using hb
  subst e;obtain⟨o,e,c,d⟩:=st;exact⟨o,e,fun v z=>by rw[d] at z;cases z⟩
 keep:=fun i h h' st k=>st.at fun o e=>k it (by simp) o e
 item:=by
  intro X hP hw hK hc i pins s σ H E I hf st hg;subst hP hw hK;obtain⟨xs,x,hq,hx⟩:=hg;obtain⟨its,rv,p,hz⟩:=I.list hq;obtain⟨u,hu,ru⟩:=rv.get hx;obtain⟨f0,f1,f2,f3,f4,f5⟩:=hf it (by simp);refine wpAny_pyNext_list_item st p.isList (x:=u) (by simpa using hu) fun h' Gk sb=> ?_;have I1:Inv X pins σ H {s with heap:=h'}:=I.turned (t' :=s.toks) (fun b o hb e=>(sb.2 b hb).trans e) f0 f1 f3 f4 f5;obtain⟨o,e,c,d⟩:=id Gk;exact⟨u,rfl,yX (s:={s with heap:=h'}) e c d (by decide) ⟨x,H,I1,ru,⟨rfl,fun ys hy=>by rw[I.uU hy hq];exact hx⟩,Gk,fun b hb=>(hf b hb).1⟩⟩
 done:=by
  intro X hP hw hK hc i pins s σ H E I hf st hg;subst hP hw hK;obtain⟨xs,hq,hx⟩:=hg;obtain⟨its,rv,p,hz⟩:=I.list hq;obtain⟨f0,f1,f2,f3,f4,f5⟩:=hf it (by simp);have hl:=rv.length;exact wpAny_pyNext_list_end (I.ok.hd hc) st p.isList (by simp;lia) fun h' eb=>⟨rfl,I.turned (t' :=s.toks) (fun b o hb e=>eb b o hb e) f0 f1 f3 f4 f5⟩
 self:=fun _ _ _ _ _ st h=>wpAny_pyIter_listiter st h
theorem BS{P:Program}{w:World}{K:Frag}{tg:Expr}(it:Addr)(lo:Int)(n:Nat):Turn P w K tg (OX lo n) [it] it (fun i h=>IsRangeIter h it (lo+(i:Nat)*1) ((n:Int) - (i:Nat)) 1) where
 mem:=by simp
 obj:=fun i h st b hb=>by
  have e:b=it:=by simpa using hb
  subst e
  exact⟨_,st,fun v z=>by
   have z' :Data.fields _=Data.cell v:=z;cases z'⟩
 keep:=fun i h h' st k=>k it (by simp) _ st
 item:=by
  intro X hP hw hK hc i pins s σ H E I hf st hg;subst hP hw hK;obtain⟨f0,f1,f2,f3,f4,f5⟩:=hf it (by simp);have W:=Walks.range (prog:=X.prog) (w:=X.w) (I.ok.hd hc) it lo 1 n;refine W.item i s _ _ hg st fun v h' tk hv Gk kk=> ?_;obtain⟨t,rfl⟩:=hv;have I1:Inv X pins σ H {s with heap:=h',toks:=tk}:=I.turned (fun b o hb e=>kk b o (by simpa using hb) e) f0 f1 f3 f4 f5;refine⟨_,rfl,yX (s:={s with heap:=h',toks:=tk}) (n:="range_iterator") Gk rfl rfl (by decide) ⟨.int (lo+i),H,I1,⟨t,?_⟩,⟨rfl,rfl⟩,Gk,fun b hb=>(hf b hb).1⟩⟩;rw[Int.mul_one]
 done:=by
  intro X hP hw hK hc i pins s σ H E I hf st hg;subst hP hw hK;obtain⟨f0,f1,f2,f3,f4,f5⟩:=hf it (by simp);exact wpAny_pyNext_range_end (I.ok.hd hc) st (by have:n≤i:=hg;lia) fun h' eb=>⟨rfl,I.turned (t' :=s.toks) (fun b o hb e=>eb b o hb e) f0 f1 f3 f4 f5⟩
 self:=fun _ _ _ _ _ st h=>wpAny_pyIter_rangeiter st h
section
variable{X:Cx}{tg:Expr}
def TR(K:Frag)(tl:TE):TI:=fun σ H R=>tl σ H fun x H1=>∃a,x= .ref a∧(∃xs,bD K H1 a xs)∧R (QY K a) H1
theorem cQ{l:Expr}{tl:TE}(hl:PE X l tl):PI X tg l (TR X.K tl):=by
 intro pins s σ H R I h;refine bW (hl pins s σ H _ I h) fun v s1 ⟨x,H1,I1,r1,q1⟩=> ?_;obtain⟨a,e,⟨xs,hq⟩,q⟩:=q1;subst e;cases r1;obtain⟨its,rv,p,hz⟩:=I1.list hq;refine wpAny_pyIter_list p.isList ?_;refine⟨s1.heap.objs.size,[s1.heap.objs.size],_,_,H1,rfl,I1.kept (t' :=s1.toks) fun b o e=>Heap.get?_push_of_some _ e,EN a _,⟨_,Heap.get?_push_size _ rfl,rfl,rfl⟩,fun b hb=> ?_,q⟩;have e:b=s1.heap.objs.size:=by simpa using hb
 subst e;exact I1.uP (Nat.le_refl _) (I1.bE.fresh (Nat.le_refl _))
theorem ID{pins:aP}{σ:St}{H:Hp}{s:Shared}{R:It→Hp→Prop}{E:Value→Shared→Prop}{lo hi:Int}{t u v:Tok}{tk:Nat}(I:Inv X pins σ H s)(h1: -(2 ^ 62)≤lo)(h2:lo<2 ^ 62)(h3: -(2 ^ 62)≤hi)(h4:hi<2 ^ 62)
 (q:R (OX lo (hi - lo).toNat) H):wpAny (model X.prog X.w) X.A (pyIter (.ref s.heap.objs.size)) (PIE X pins σ tg R) E {s with heap:=s.heap.push {cls:= .type "range",data:= .fields #[.int lo t,.int hi u,.int 1 v]},toks:=tk}:=by
 refine wpAny_pyIter_range (IsRange.new ..) (small_one h1 h2 h3 h4) ?_;have I1:Inv X pins σ H {s with heap:=s.heap.push {cls:= .type "range",data:= .fields #[.int lo t,.int hi u,.int 1 v]},toks:=tk}:=I.kept fun b o e=>Heap.get?_push_of_some _ e
 refine⟨(s.heap.push {cls:= .type "range",data:= .fields #[.int lo t,.int hi u,.int 1 v]}).objs.size,[(s.heap.push {cls:= .type "range",data:= .fields #[.int lo t,.int hi u,.int 1 v]}).objs.size],_,_,H,rfl,
  I1.kept (t' :=tk) fun b o e=>Heap.get?_push_of_some _ e,BS _ lo (hi - lo).toNat,?_,fun b hb=> ?_,q⟩
 ·have e1:lo+((0:Nat):Int)*1=lo:=by simp
  have e2:(((hi - lo).toNat:Nat):Int) - ((0:Nat):Int)=Builtin.Range.rangeSize lo hi 1:=by rw[rangeSize_one];split<;>lia
  show IsRangeIter _ _ (lo+((0:Nat):Int)*1) ((((hi - lo).toNat:Nat):Int) - ((0:Nat):Int)) 1;rw[e1,e2];exact Heap.get?_push_size _ rfl
 ·have e:b=(s.heap.push {cls:= .type "range",data:= .fields #[.int lo t,.int hi u,.int 1 v]}).objs.size:=by simpa using hb
  subst e;exact I1.uP (Nat.le_refl _) (I1.bE.fresh (Nat.le_refl _))
def Tw(ta:TA):TI:=fun σ H R=>ta σ H fun vs H1=>∃j:Int,vs=[.int j]∧ -(2 ^ 62)≤j∧j<2 ^ 62∧R (OX 0 j.toNat) H1
theorem eO{a:Expr}{ta:TA}{p pos:Pos}(hg:Gl X "range")(hm:X.mg "range"=none)(ha:PA X [a] ta)(hs:starEach [a] X.env=[(false,eval a X.env)]:=by rfl):PI X tg (.Call (.Name "range" p) [a] [] pos) (Tw ta):=by
 intro pins s σ H R I h;refine Call_ (m3 I hg hm boot_range (PyProof.Rows.callWith_type1 (bW (ha pos pins s σ H _ I h) fun us s1 ⟨vs,H1,I1,r1,q1⟩=> ?_) hs rfl));obtain⟨j,e,q1,q2,q⟩:=q1;subst e
 cases r1 with
 |cons r rr=>
  cases rr;obtain⟨t,rfl⟩:=r;exact call_range_1 (ID I1 (by lia) (by lia) q1 q2 (by simpa using q))
def ZO(wi:TI)(g:TG)(tb:TS):TS:=fun D σ H=>wi σ H fun J H1=>∃W:Nat→Nat→St→Hp→Prop,(∃m,W 0 m σ H1)∧∀i m σ H,W i m σ H→
 (J.stop i H∧D.nx σ H)∨(J.go i H∧∃N:St→Hp→Prop,(∀dC H',N dC H'→∃m',m' <m∧W (i+1) m' dC H')∧∀x H',J.tJ i H x H'→g x σ H' fun me H2=>tb {D with nx:=N,ct:=N,bk:=D.nx} me H2)
def uE(fp:aY)(h:Heap):aP:=fp.filterMap fun b=>(h.get? b).map fun o=>(b,o)
theorem kH{fp:aY}{h:Heap}{b:Addr}{o:Obj}(hb:b∈fp)(e:h.get? b=some o):(b,o)∈uE fp h:=List.mem_filterMap.mpr ⟨b,hb,by rw[e];rfl⟩
theorem EF{fp:aY}{h:Heap}{p:Addr×Obj}(hp:p∈uE fp h):p.1∈fp∧h.get? p.1=some p.2:=by
 obtain⟨b,hb,e⟩:=List.mem_filterMap.mp hp
 cases q:h.get? b with
 |none=>rw[q] at e;cases e
 |some o=>
  rw[q] at e;have e' :(b,o)=p:=Option.some.inj e;subst e';exact⟨hb,q⟩
theorem Inv.pinned{pins:aP}{σ:St}{H:Hp}{s:Shared}{fp:aY}(I:Inv X pins σ H s)(hf:∀b∈fp,rN X pins H b)(ho:∀b∈fp,∃o,s.heap.get? b=some o∧∀v,o.data≠.cell v):Inv X (pins++uE fp s.heap) σ H s:=
 I.DM fun p hp=>(List.mem_append.mp hp).elim (fun z=>I.pin p (List.mem_append_right _ z)) fun z=>by
  obtain⟨hb,e⟩:=EF z;obtain⟨f0,f1,f2,_⟩:=hf p.1 hb;obtain⟨o,e',d⟩:=ho p.1 hb;rw[e] at e';cases e'
  exact⟨e,f0,f1,f2,d⟩
theorem Inv.p9{pins pl:aP}{σ:St}{H:Hp}{s:Shared}(I:Inv X (pins++pl) σ H s):Inv X pins σ H s:=I.DM fun p hp=>I.pin p (List.mem_append_right _ (List.mem_append_left _ hp))
theorem ir{iter:Expr}{body:List Stmt}{wi:TI}{g:TG}{tb:TS}{pos:Pos}(hp:PassesOwn (model X.prog X.w) X.A X.env X.xe)(hc:X.calm=true)(hi:PI X tg iter wi)(hg:PG X tg g)(hb:A2 X body tb)
 (hs:∀x,foldedSetIterable iter X.env x=pure x:=by intro _;rfl):PS X (.For tg iter body [] pos) (ZO wi g tb):=by
 intro pins s σ H D I h;refine wpAny_For (bW (hi pins s σ H _ I h) fun v s1 h1=>bW h1 fun Yy s2 h2=> ?_) hs;obtain⟨it,fp,tn,J,H2,e,I2,T,ML,f2,W,⟨m0,w0⟩,turn⟩:=h2;subst e;have BO:∀{H' :Hp},(∀b∈fp,H' b=none)→∀b∈fp,rN X pins H' b:=fun hn b hb=>⟨hn b hb,(f2 b hb).2⟩;refine codeAny_forLoop_any (fun n s' =>∃i dC H',Inv X pins dC H' s'∧tn i s'.heap∧(∀b∈fp,H' b=none)∧W i n dC H') ?_ m0 ⟨0,σ,H2,I2,ML,fun b hb=>(f2 b hb).1,w0⟩
 rintro n s3 ⟨i,G_,H3,I3,st3,X5,w3⟩
 rcases turn i n G_ H3 w3 with⟨stop,qn⟩|⟨go,N,hN,step⟩
 ·refine wpAny_passesOwn hp (bW (T.done X rfl rfl rfl hc i pins s3 G_ H3 X.xe I3 (BO X5) st3 stop) fun r s4 ⟨hr,I4⟩=> ?_);subst hr;exact wpAny_execs_nil ⟨G_,H3,I4,qn⟩
 ·refine wpAny_passesOwn hp (bW (T.item X rfl rfl rfl hc i pins s3 G_ H3 X.xe I3 (BO X5) st3 go) fun r s4 ⟨u,hr,h4⟩=> ?_);subst hr;refine wpAny_passesOwn hp (bW h4 fun _ s5 ⟨x,H5,I5,r5,y5,SV,X7⟩=> ?_);have I5' :=I5.pinned (BO X7) (T.obj _ _ SV);refine wpAny_passesOwn hp (bW (hg _ s5 G_ H5 x u _ I5' r5 (step x H5 y5)) fun _ s6 ⟨σ6,H6,I6,q6⟩=> ?_);refine wpAny_passesOwn hp (bW (hb _ s6 σ6 H6 _ I6 q6) fun f s7 q7=> ?_)
  have again:∀{FK:St} {H7:Hp},Inv X (pins++uE fp s5.heap) FK H7 s7→N FK H7→∃m,m<n∧∃i dC H',Inv X pins dC H' s7∧tn i s7.heap∧(∀b∈fp,H' b=none)∧W i m dC H' :=fun{FK H7} I7 n7=>by
   obtain⟨m',hm,w7⟩:=hN FK H7 n7;refine⟨m',hm,i+1,FK,H7,I7.p9,T.keep _ _ _ SV fun b hb o e=>(I7.pin (b,o) (List.mem_append_right _ (List.mem_append_right _ (kH hb e)))).1,fun b hb=> ?_,w7⟩;obtain⟨o,e,d⟩:=T.obj _ _ SV b hb;exact(I7.pin (b,o) (List.mem_append_right _ (List.mem_append_right _ (kH hb e)))).2.1
  cases f with
  |next=>obtain⟨FK,H7,I7,n7⟩:=q7;exact again I7 n7
  |cont=>obtain⟨FK,H7,I7,n7⟩:=q7;exact again I7 n7
  |brk=>obtain⟨FK,H7,I7,q7⟩:=q7;exact⟨FK,H7,I7.p9,q7⟩
  |ret v=>obtain⟨x7,FK,H7,I7,r7,q7⟩:=q7;exact⟨x7,FK,H7,I7.p9,r7,q7⟩
end
theorem fi{K:Frag}{a:Addr}{xs:ax}{g:TG}{tb:TS}{D:Ends}{σ:St}{H:Hp}(Pv:Nat→St→Hp→Prop)(h0:Pv 0 σ H)(hl:∀i σ H,i≤xs.length→Pv i σ H→bD K H a xs)
 (hs:∀i x σ H,xs[i]? =some x→Pv i σ H→g x σ H fun me H2=>tb {D with nx:=Pv (i+1),ct:=Pv (i+1),bk:=D.nx} me H2) (hd:∀σ H,Pv xs.length σ H→D.nx σ H):
 ∃W:Nat→Nat→St→Hp→Prop,(∃m,W 0 m σ H)∧∀i m σ H,W i m σ H→
  ((QY K a).stop i H∧D.nx σ H)∨((QY K a).go i H∧∃N:St→Hp→Prop,(∀dC H',N dC H'→∃m',m' <m∧W (i+1) m' dC H')∧∀x H',(QY K a).tJ i H x H'→g x σ H' fun me H2=>tb {D with nx:=N,ct:=N,bk:=D.nx} me H2):=by
 refine⟨fun i m σ H=>m=xs.length - i∧i≤xs.length∧Pv i σ H,⟨xs.length,by simp,Nat.zero_le _,h0⟩,?_⟩
 rintro i m σ H ⟨rfl,hi,p⟩
 have q:=hl i σ H hi p;by_cases gB:i<xs.length
 ·refine .inr ⟨⟨xs,xs[i],q,by simp[gB]⟩,Pv (i+1),fun dC H' p' =>⟨xs.length - (i+1),by lia,rfl,gB,p'⟩,fun x H' y=> ?_⟩;obtain⟨e,y⟩:=y;subst e;exact hs i x σ _ (y xs q) p
 ·have e:i=xs.length:=by lia
  subst e;exact .inl ⟨⟨xs,q,Nat.le_refl _⟩,hd σ H p⟩
theorem wF{lo:Int}{n:Nat}{g:TG}{tb:TS}{D:Ends}{σ:St}{H:Hp}(Pv:Nat→St→Hp→Prop)(h0:Pv 0 σ H)
 (hs:∀i σ H,i<n→Pv i σ H→g (.int (lo+i)) σ H fun me H2=>tb {D with nx:=Pv (i+1),ct:=Pv (i+1),bk:=D.nx} me H2) (hd:∀σ H,Pv n σ H→D.nx σ H):
 ∃W:Nat→Nat→St→Hp→Prop,(∃m,W 0 m σ H)∧∀i m σ H,W i m σ H→
  ((OX lo n).stop i H∧D.nx σ H)∨((OX lo n).go i H∧∃N:St→Hp→Prop,(∀dC H',N dC H'→∃m',m' <m∧W (i+1) m' dC H')∧∀x H',(OX lo n).tJ i H x H'→g x σ H' fun me H2=>tb {D with nx:=N,ct:=N,bk:=D.nx} me H2):=by
 refine⟨fun i m σ H=>m=n - i∧i≤n∧Pv i σ H,⟨n,by simp,Nat.zero_le _,h0⟩,?_⟩
 rintro i m σ H ⟨rfl,hi,p⟩
 by_cases gB:i<n
 ·refine .inr ⟨gB,Pv (i+1),fun dC H' p' =>⟨n - (i+1),by lia,rfl,gB,p'⟩,fun x H' y=> ?_⟩;obtain⟨e,y⟩:=y;subst e y;exact hs i σ _ gB p
 ·have e:i=n:=by lia
  subst e;exact .inl ⟨Nat.le_refl _,hd σ H p⟩
abbrev R2:=V→V→Hp→VK→Prop
def mh(X:Cx)(f:Value→Value→Sem Value)(r:R2):Prop:=
 ∀(pins:aP) (s:Shared) (σ:St) (H:Hp) (x y:V) (v u:Value) (Q:VK),Inv X pins σ H s→RelV x v→RelV y u→r x y H Q→
  wpAny (model X.prog X.w) X.A (f v u) (EP X pins σ Q) X.xe s
def ZC(X:Cx)(f:Value→Sem Value)(r:V→Hp→VK→Prop):Prop:=
 ∀(pins:aP) (s:Shared) (σ:St) (H:Hp) (x:V) (v:Value) (Q:VK),Inv X pins σ H s→RelV x v→r x H Q→
  wpAny (model X.prog X.w) X.A (f v) (EP X pins σ Q) X.xe s
def eZ(X:Cx)(f:Value)(r:ax→Hp→VK→Prop):Prop:=
 ∀(pins:aP) (s:Shared) (σ:St) (H:Hp) (xs:ax) (us:aI) (Q:VK),Inv X pins σ H s→Vals xs us→r xs H Q→
  wpAny (model X.prog X.w) X.A (call f us) (EP X pins σ Q) X.xe s
def Yi(r:R2)(ta tb:TE):TE:=fun σ H Q=>ta σ H fun x H1=>tb σ H1 fun y H2=>r x y H2 Q
def tUn(r:V→Hp→VK→Prop)(ta:TE):TE:=fun σ H Q=>ta σ H fun x H1=>r x H1 Q
def rI(C:Int→Int→Prop)(g:Int→Int→V):R2:=fun x y H Q=>∃i j,x= .int i∧y= .int j∧C i j∧Q (g i j) H
def NM(g:Int→Int→V):R2:=fun x y H Q=>∃i j,x= .int i∧y= .int j∧Q (g i j) H
def rU(g:Int→V):V→Hp→VK→Prop:=fun x H Q=>∃i,x= .int i∧Q (g i) H
section
variable{X:Cx}{a b c:Expr}{ta tb tc:TE}{pos:Pos}
theorem Rt(ha:PE X a ta)(hb:PE X b tb){pins:aP}{s:Shared}{σ:St}{H:Hp}{R:V→V→Hp→Prop}(I:Inv X pins σ H s)
 (h:ta σ H fun x H1=>tb σ H1 fun y H2=>R x y H2) {Q:Value→Shared→Prop} {f:Value→Value→Sem Value}
 (hf:∀v u s2 x y H2,Inv X pins σ H2 s2→RelV x v→RelV y u→R x y H2→wpAny (model X.prog X.w) X.A (f v u) Q X.xe s2):
 wpAny (model X.prog X.w) X.A (eval a X.env) (fun v bR=>wpAny (model X.prog X.w) X.A (eval b X.env) (fun u r8=>wpAny (model X.prog X.w) X.A (f v u) Q X.xe r8) X.xe bR) X.xe s:=by
 refine bW (ha pins s σ H _ I h) fun v s1 ⟨x,H1,I1,r1,q1⟩=> ?_;refine bW (hb pins s1 σ H1 _ I1 q1) fun u s2 ⟨y,H2,I2,r2,q2⟩=> ?_;exact hf v u s2 x y H2 I2 r1 r2 q2
theorem bt{op:Operator}{r:R2}(ho:mh X (binaryOp op) r)(ha:PE X a ta)(hb:PE X b tb):PE X (.BinOp a op b pos) (Yi r ta tb):=by
 intro pins s σ H Q I h;exact wpAny_BinOp (Rt ha hb I h fun v u s2 x y H2 I2 rx ry q=>ho pins s2 σ H2 x y v u Q I2 rx ry q)
theorem wK{op:UnaryOp}{r:V→Hp→VK→Prop}(ho:ZC X (unaryOp op) r)(ha:PE X a ta):PE X (.UnaryOp op a pos) (tUn r ta):=by
 intro pins s σ H Q I h;exact UnaryOp_ (bW (ha pins s σ H _ I h) fun v s1 ⟨x,H1,I1,r1,q1⟩=>ho pins s1 σ H1 x v Q I1 r1 q1)
theorem Yz{f:Value→Value→Sem Value}{C:Int→Int→Prop}{g:Int→Int→Int}
 (rule:∀(i j:Int) (t u:Tok) (s:Shared) (Q:Value→Shared→Prop) (E:Value→Shared→Prop),C i j→Q (.int (g i j) s.toks) {s with toks:=s.toks+1}→wpAny (model X.prog X.w) X.A (f (.int i t) (.int j u)) Q E s):
 mh X f (rI C fun i j=> .int (g i j)):=by
 intro pins s σ H x y v u Q I rx ry h;obtain⟨i,j,rfl,rfl,hc,q⟩:=h;obtain⟨t,rfl⟩:=rx;obtain⟨t',rfl⟩:=ry;exact rule i j t t' s _ _ hc ⟨.int (g i j),H,I.tok _,⟨_,rfl⟩,q⟩
theorem Tz{f:Value→Value→Sem Value}{g:Int→Int→Int}
 (rule:∀(i j:Int) (t u:Tok) (s:Shared) (Q:Value→Shared→Prop) (E:Value→Shared→Prop),Q (.int (g i j) s.toks) {s with toks:=s.toks+1}→wpAny (model X.prog X.w) X.A (f (.int i t) (.int j u)) Q E s):
 mh X f (NM fun i j=> .int (g i j)):=by
 intro pins s σ H x y v u Q I rx ry h;obtain⟨i,j,rfl,rfl,q⟩:=h;obtain⟨t,rfl⟩:=rx;obtain⟨t',rfl⟩:=ry;exact rule i j t t' s _ _ ⟨.int (g i j),H,I.tok _,⟨_,rfl⟩,q⟩
theorem KW{f:Value→Value→Sem Value}{g:Int→Int→Bool}
 (rule:∀(i j:Int) (t u:Tok) (s:Shared) (Q:Value→Shared→Prop) (E:Value→Shared→Prop),Q (.bool (g i j)) s→wpAny (model X.prog X.w) X.A (f (.int i t) (.int j u)) Q E s):
 mh X f (NM fun i j=> .bl (g i j)):=by
 intro pins s σ H x y v u Q I rx ry h;obtain⟨i,j,rfl,rfl,q⟩:=h;obtain⟨t,rfl⟩:=rx;obtain⟨t',rfl⟩:=ry;exact rule i j t t' s _ _ ⟨.bl (g i j),H,I,rfl,q⟩
def aeO(i j:Int):Prop:=0≤j∧j≤1000000∧i.natAbs<2 ^ 64
def Sd(i j:Int):Prop:=(-(2 ^ 64)<i∧i<2 ^ 64)∨(-(2 ^ 64)<j∧j<2 ^ 64)
theorem Sd.ok{i j:Int}(h:Sd i j):IntMulOk i j:=by
 rcases h with⟨h1,h2⟩|⟨h1,h2⟩
 ·exact .of_left (intBits_le_64 h1 h2)
 ·exact .of_right (intBits_le_64 h1 h2)
theorem fz:mh X (binaryOp .Add) (NM fun i j=> .int (i+j)):=Tz fun _ _ _ _ _ _ _ q=>add_int q
theorem mI:mh X (binaryOp .Sub) (NM fun i j=> .int (i - j)):=Tz fun _ _ _ _ _ _ _ q=>sub_int q
theorem oz:mh X (binaryOp .Mult) (rI Sd fun i j=> .int (i*j)):=Yz fun _ _ _ _ _ _ _ hc q=>mul_int q hc.ok
theorem iY:mh X (binaryOp .Mod) (rI (fun _ j=>0<j) fun i j=> .int (i % j)):=Yz fun i j _ _ _ _ _ hc q=>by
 have h1:(0:Int)<j:=hc;exact mod_int' (by lia) (by rw[Int.fmod_eq_emod_of_nonneg i (by lia)];exact q)
theorem vc:mh X (binaryOp .Pow) (rI aeO fun i j=> .int (i ^ j.toNat)):=Yz fun _ _ _ _ _ _ _ hc q=>pow_int_small hc.1 hc.2.1 hc.2.2 q
theorem unI{f:Value→Sem Value}{g:Int→Int}
 (rule:∀(i:Int) (t:Tok) (s:Shared) (Q:Value→Shared→Prop) (E:Value→Shared→Prop),Q (.int (g i) s.toks) {s with toks:=s.toks+1}→wpAny (model X.prog X.w) X.A (f (.int i t)) Q E s):
 ZC X f (rU fun i=> .int (g i)):=by
 intro pins s σ H x v Q I rx h;obtain⟨i,rfl,q⟩:=h;obtain⟨t,rfl⟩:=rx;exact rule i t s _ _ ⟨.int (g i),H,I.tok _,⟨_,rfl⟩,q⟩
theorem ra:ZC X (unaryOp .USub) (rU fun i=> .int (-i)):=unI fun _ _ _ _ _ q=>neg_int q
end
def VU:V→V→Bool
 | .bC,.bC=>true| .bC,.int _=>true| .int _,.bC=>true| .bC,.bl _=>true| .bl _,.bC=>true| .bC,.str _=>true| .str _,.bC=>true
 | .int _,.int _=>true| .bl _,.bl _=>true| .str _,.str _=>true| .Fw _,.Fw _=>true
 | .int _,.str _=>true| .str _,.int _=>true| .bl _,.str _=>true| .str _,.bl _=>true
 |_,_=>false
def rEq:R2:=fun x y H Q=>VU x y=true∧Q (.bl (decide (x=y))) H
def rNe:R2:=fun x y H Q=>VU x y=true∧Q (.bl (!decide (x=y))) H
theorem CY{i j:Int}:decide (V.int i=V.int j)=(i==j):=by
 rw[Bool.eq_iff_iff];simp
theorem Js{i j:Bool}:decide (V.bl i=V.bl j)=(i==j):=by
 rw[Bool.eq_iff_iff];simp
theorem C7{i j:Str}:decide (V.str i=V.str j)=(i==j):=by
 rw[Bool.eq_iff_iff];simp
theorem DV{i j:Array UInt8}:decide (V.Fw i=V.Fw j)=(i.toList==j.toList):=by
 rw[Bool.eq_iff_iff];cases i;cases j;simp
section
variable{X:Cx}{a b c:Expr}{ta tb tc:TE}{pos:Pos}
theorem bM{pins:aP}{σ:St}{H:Hp}{s:Shared}{Q:VK}{k k' :Bool}(I:Inv X pins σ H s)(q:Q (.bl k) H)(e:k=k'):EP X pins σ Q (.bool k') s:=by
 subst e;exact⟨.bl k,H,I,rfl,q⟩
theorem j9:mh X (compareOp .Eq) rEq:=by
 intro pins s σ H x y v u Q I rx ry h;obtain⟨hs,q⟩:=h
 cases x with
 |bC=>
  cases rx
  cases y with
  |bC=>cases ry;exact PySem.EqNone.eq_none_none (bM I q (by simp))
  |bl j=>cases ry;exact PySem.EqNone.eq_none_bool (bM I q (by simp))
  |int j=>obtain⟨t',rfl⟩:=ry;exact PySem.EqNone.eq_none_int (bM I q (by simp))
  |str j=>obtain⟨t',rfl⟩:=ry;exact PySem.EqNone.eq_none_str (bM I q (by simp))
  |_=>exact absurd (show false=true from hs) Bool.false_ne_true
 |bl i=>
  cases rx
  cases y with
  |bC=>cases ry;exact PySem.EqNone.eq_bool_none (bM I q (by simp))
  |bl j=>cases ry;exact eq_bool (bM I q Js)
  |str j=>obtain⟨t',rfl⟩:=ry;exact PySem.EqMixed.eq_bool_str (bM I q (by simp))
  |_=>exact absurd (show false=true from hs) Bool.false_ne_true
 |int i=>
  obtain⟨t,rfl⟩:=rx
  cases y with
  |bC=>cases ry;exact PySem.EqNone.eq_int_none (bM I q (by simp))
  |int j=>obtain⟨t',rfl⟩:=ry;exact eq_int (bM I q CY)
  |str j=>obtain⟨t',rfl⟩:=ry;exact PySem.EqMixed.eq_int_str (bM I q (by simp))
  |_=>exact absurd (show false=true from hs) Bool.false_ne_true
 |str i=>
  obtain⟨t,rfl⟩:=rx
  cases y with
  |bC=>cases ry;exact PySem.EqNone.eq_str_none (bM I q (by simp))
  |bl j=>cases ry;exact PySem.EqMixed.eq_str_bool (bM I q (by simp))
  |int j=>obtain⟨t',rfl⟩:=ry;exact PySem.EqMixed.eq_str_int (bM I q (by simp))
  |str j=>obtain⟨t',rfl⟩:=ry;exact eq_str (bM I q C7)
  |_=>exact absurd (show false=true from hs) Bool.false_ne_true
 |Fw i=>
  obtain⟨t,rfl⟩:=rx
  cases y with
  |Fw j=>obtain⟨t',rfl⟩:=ry;exact PySem.W.eq_bytes (bM I q DV)
  |_=>exact absurd (show false=true from hs) Bool.false_ne_true
 |_=>cases y<;>exact absurd (show false=true from hs) Bool.false_ne_true
theorem UP:mh X (compareOp .NotEq) rNe:=by
 intro pins s σ H x y v u Q I rx ry h;obtain⟨hs,q⟩:=h
 cases x with
 |bC=>
  cases rx
  cases y with
  |bC=>cases ry;exact PySem.EqNone.ne_none_none (bM I q (by simp))
  |bl j=>cases ry;exact PySem.EqNone.ne_none_bool (bM I q (by simp))
  |int j=>obtain⟨t',rfl⟩:=ry;exact PySem.EqNone.ne_none_int (bM I q (by simp))
  |str j=>obtain⟨t',rfl⟩:=ry;exact PySem.EqNone.ne_none_str (bM I q (by simp))
  |_=>exact absurd (show false=true from hs) Bool.false_ne_true
 |bl i=>
  cases rx
  cases y with
  |bC=>cases ry;exact PySem.EqNone.ne_bool_none (bM I q (by simp))
  |bl j=>cases ry;exact ne_bool (bM I q (congrArg not Js))
  |str j=>obtain⟨t',rfl⟩:=ry;exact PySem.EqMixed.ne_bool_str (bM I q (by simp))
  |_=>exact absurd (show false=true from hs) Bool.false_ne_true
 |int i=>
  obtain⟨t,rfl⟩:=rx
  cases y with
  |bC=>cases ry;exact PySem.EqNone.ne_int_none (bM I q (by simp))
  |int j=>obtain⟨t',rfl⟩:=ry;exact ne_int (bM I q (congrArg not CY))
  |str j=>obtain⟨t',rfl⟩:=ry;exact PySem.EqMixed.ne_int_str (bM I q (by simp))
  |_=>exact absurd (show false=true from hs) Bool.false_ne_true
 |str i=>
  obtain⟨t,rfl⟩:=rx
  cases y with
  |bC=>cases ry;exact PySem.EqNone.ne_str_none (bM I q (by simp))
  |bl j=>cases ry;exact PySem.EqMixed.ne_str_bool (bM I q (by simp))
  |int j=>obtain⟨t',rfl⟩:=ry;exact PySem.EqMixed.ne_str_int (bM I q (by simp))
  |str j=>obtain⟨t',rfl⟩:=ry;exact ne_str (bM I q (congrArg not C7))
  |_=>exact absurd (show false=true from hs) Bool.false_ne_true
 |Fw i=>
  obtain⟨t,rfl⟩:=rx
  cases y with
  |Fw j=>obtain⟨t',rfl⟩:=ry;exact PySem.W.ne_bytes (bM I q (congrArg not DV))
  |_=>exact absurd (show false=true from hs) Bool.false_ne_true
 |_=>cases y<;>exact absurd (show false=true from hs) Bool.false_ne_true
theorem AL:mh X (compareOp .Lt) (NM fun i j=> .bl (decide (i<j))):=KW fun _ _ _ _ _ _ _ q=>lt_int q
theorem DF:mh X (compareOp .LtE) (NM fun i j=> .bl (decide (i≤j))):=KW fun _ _ _ _ _ _ _ q=>le_int q
theorem CG:mh X (compareOp .Gt) (NM fun i j=> .bl (decide (j<i))):=KW fun _ _ _ _ _ _ _ q=>gt_int q
theorem Xn:mh X (compareOp .GtE) (NM fun i j=> .bl (decide (j≤i))):=KW fun _ _ _ _ _ _ _ q=>ge_int q
theorem EU:mh X (compareOp .In) (fun x y H Q=>∃i j,x= .str i∧y= .str j∧Q (.bl (!(Builtin.Str.occurrences j i 0 j.length 1).isEmpty)) H):=by
 intro pins s σ H x y v u Q I rx ry h;obtain⟨i,j,rfl,rfl,q⟩:=h;obtain⟨t,rfl⟩:=rx;obtain⟨t',rfl⟩:=ry;exact in_str (bM I q rfl)
theorem rM:mh X (compareOp .Is) (fun x y H Q=>y= .bC∧Q (.bl (decide (x= .bC))) H):=by
 intro pins s σ H x y v u Q I rx ry h;obtain⟨rfl,q⟩:=h;cases ry;refine is_none_gen (bM I q ?_)
 cases x<;>first
  |(cases rx;rfl)
  |(obtain⟨t,rfl⟩:=rx;rfl)
theorem tM:mh X (compareOp .IsNot) (fun x y H Q=>y= .bC∧Q (.bl (!decide (x= .bC))) H):=by
 intro pins s σ H x y v u Q I rx ry h;obtain⟨rfl,q⟩:=h;cases ry;refine isnot_none_gen (bM I q ?_)
 cases x<;>first
  |(cases rx;rfl)
  |(obtain⟨t,rfl⟩:=rx;rfl)
theorem mh.or{f:Value→Value→Sem Value}{r r' :R2}(h:mh X f r)(h' :mh X f r'):mh X f (fun x y H Q=>r x y H Q∨r' x y H Q):=by
 intro pins s σ H x y v u Q I rx ry q;rcases q with q|q
 ·exact h pins s σ H x y v u Q I rx ry q
 ·exact h' pins s σ H x y v u Q I rx ry q
theorem br(b:Expr){op:CmpOp}(h:op≠.In:=by decide)(h2:op≠.NotIn:=by decide):behindInMarks op b=false:=by
 have e1:(op==CmpOp.In)=false:=by cases op<;>first|rfl|exact absurd rfl h
 have e2:(op==CmpOp.NotIn)=false:=by cases op<;>first|rfl|exact absurd rfl h2
 cases b<;>simp[behindInMarks,e1,e2]
theorem fq{op:CmpOp}{r:R2}(ho:mh X (compareOp op) r)(ha:PE X a ta)(hb:PE X b tb)(hm:behindInMarks op b=false):PE X (.Compare a [op] [b] pos) (Yi r ta tb):=by
 intro pins s σ H Q I h;exact wpAny_Compare1 (Rt ha hb I h fun v u s2 x y H2 I2 rx ry q=>ho pins s2 σ H2 x y v u Q I2 rx ry q) hm
def WB(t:TE):TT:=fun σ H Q=>t σ H fun x H' =>∃k,x= .bl k∧Q k H'
theorem ba{op:CmpOp}{r:R2}(ho:mh X (compareOp op) r)(ha:PE X a ta)(hb:PE X b tb)(hm:behindInMarks op b=false):PT X (.Compare a [op] [b] pos) (WB (Yi r ta tb)):=by
 intro pins s σ H Q I h
 refine wpAny_isTrue_Compare1 (bW (ha pins s σ H _ I h) fun v s1 ⟨x,H1,I1,r1,q1⟩=>bW (hb pins s1 σ H1 _ I1 q1) fun u s2 ⟨y,H2,I2,r2,q2⟩=>
  bW (ho pins s2 σ H2 x y v u _ I2 r1 r2 q2) fun c s3 ⟨z,H3,I3,r3,k,e,q3⟩=> ?_) hm
 subst e;cases r3;exact wpAny_truthy_bool ⟨H3,I3,q3⟩
def R8(r r' :R2)(ta tb tc:TE):TE:=fun σ H Q=>ta σ H fun x H1=>tb σ H1 fun y H2=>r x y H2 fun z H3=>∃k,z= .bl k∧
 (if k=true then tc σ H3 fun w' H4=>r' y w' H4 Q else Q (.bl false) H3)
theorem zG{op op' :CmpOp}{r r' :R2}(ho:mh X (compareOp op) r)(yS :mh X (compareOp op') r')(ha:PE X a ta)(hb:PE X b tb)(hc:PE X c tc)
 (hm:lastMarks [op,op'] [b,c]=false:=by with_unfolding_all rfl):PE X (.Compare a [op,op'] [b,c] pos) (R8 r r' ta tb tc):=by
 intro pins s σ H Q I h
 refine Compare_chain (bW (ha pins s σ H _ I h) fun v s1 ⟨x,H1,I1,r1,q1⟩=>chain_link (bW (hb pins s1 σ H1 _ I1 q1) fun u s2 ⟨y,H2,I2,r2,q2⟩=>
  bW (ho pins s2 σ H2 x y v u _ I2 r1 r2 q2) fun d s3 ⟨z,H3,I3,r3,k,e,q3⟩=> ?_)) hm
 subst e;cases r3;refine wpAny_truthy_bool ?_
 cases k with
 |false=>exact ite_ff ⟨.bl false,H3,I3,rfl,q3⟩
 |true=>exact ite_tt (chain_last (bW (hc pins s3 σ H3 _ I3 q3) fun w' s4 ⟨z',H4,I4,r4,q4⟩=>yS pins s4 σ H4 y z' u w' Q I4 r2 r4 q4))
theorem rK:(sizeLine:Nat)<2 ^ 63:=by rw[sizeLine_eq];decide
theorem kS:mh X (binaryOp .Add) (fun x y H Q=>∃i j,x= .str i∧y= .str j∧i.length+j.length≤sizeLine∧Q (.str (i++j)) H):=by
 intro pins s σ H x y v u Q I rx ry h;obtain⟨i,j,rfl,rfl,hz,q⟩:=h;obtain⟨t,rfl⟩:=rx;obtain⟨t',rfl⟩:=ry;exact add_str (fun t' tk=>⟨.str (i++j),H,I.tok _,⟨_,rfl⟩,q⟩) hz
theorem wT{x:V}{us:aI}(r:Vals [x] us):∃u,us=[u]∧RelV x u:=by
 cases r with
 |cons r1 r2=>cases r2;exact⟨_,rfl,r1⟩
theorem jad{x y:V}{us:aI}(r:Vals [x,y] us):∃u w',us=[u,w']∧RelV x u∧RelV y w' :=by
 cases r with
 |cons r1 r2=>
  cases r2 with
  |cons r3 r4=>cases r4;exact⟨_,_,rfl,r1,r3⟩
theorem nE(hc:X.calm=true):eZ X (.builtin "max") (fun xs H Q=>∃i j,xs=[.int i,.int j]∧Q (.int (if j>i then j else i)) H):=by
 intro pins s σ H xs us Q I r h;obtain⟨i,j,rfl,q⟩:=h;obtain⟨u,w',rfl,⟨t,rfl⟩,⟨t',rfl⟩⟩:=jad r;refine max_two_ints (I.ok.hd hc) fun h' tk k=>⟨_,H,I.kept k,?_,q⟩;by_cases hj:j>i
 ·rw[if_pos hj,if_pos hj];exact⟨_,rfl⟩
 ·rw[if_neg hj,if_neg hj];exact⟨_,rfl⟩
theorem EI(hc:X.calm=true):eZ X (.builtin "min") (fun xs H Q=>∃i j,xs=[.int i,.int j]∧Q (.int (if j<i then j else i)) H):=by
 intro pins s σ H xs us Q I r h;obtain⟨i,j,rfl,q⟩:=h;obtain⟨u,w',rfl,⟨t,rfl⟩,⟨t',rfl⟩⟩:=jad r;refine min_two_ints (I.ok.hd hc) fun h' tk k=>⟨_,H,I.kept k,?_,q⟩;by_cases hj:j<i
 ·rw[if_pos hj,if_pos hj];exact⟨_,rfl⟩
 ·rw[if_neg hj,if_neg hj];exact⟨_,rfl⟩
end
structure A7(h:Heap)(x dx C:Addr)(mA:Str→aN):Prop where
 obj:h.get? x=some (instObj C dx)
 ns:h.Ns1 dx mA
 ne:dx≠x
theorem D9{h:Heap}{dx:Addr}{mA:Str→aN}(n:h.Ns1 dx mA):∃od,h.get? dx=some od∧∀name,lookIn name od=some (mA name):=by
 obtain⟨o,es,ep,ho,hd,hk,_,hm⟩:=n;refine⟨o,ho,fun name=> ?_⟩;have e:=hm name;unfold nsFind findBy at e;rw[←Array.find?_toList] at e;unfold lookIn;rw[hd];dsimp only
 split
 ·rename_i y q;rw[q] at e;exact congrArg some e
 ·rename_i q;rw[q] at e
  have a:es.toList.any (·.refKey)=false:=by
   rw[List.any_eq_false];intro y hy;obtain⟨z,t,vU⟩:=hk y (Array.mem_toList_iff.mp hy);simp[DictEntry.refKey,vU]
  have a' :¬es.toList.any (·.refKey)=true:=by rw[a];exact Bool.false_ne_true
  rw[if_neg a'];exact congrArg some e
theorem A7.look{h:Heap}{x dx C:Addr}{mA:Str→aN}(I:A7 h x dx C mA):∃od,PySem.W.InstAt h x (instObj C dx) C (some od)∧∀name,lookIn name od=some (mA name):=
 let⟨od,ho,hl⟩:=D9 I.ns
 ⟨od,⟨I.obj,rfl,rfl,ho⟩,hl⟩
section
variable{prog:Program}{w:World}{A:Around}{E:Value→Shared→Prop}{s:Shared}{K:Frag}{x dx C f:Addr}{mA:Str→aN}{name:Str}{v:Value}
theorem jag{expr:Bool}{Q:Value→Shared→Prop}(X:K.In s.heap)(I:A7 s.heap x dx C mA)(hg:PySem.W.plainGet K C name=true)(hh:PySem.W.hasDictIn K C=true)
 (ha:PySem.W.findIn K (.ref C) name=some none) (hv:mA name=some v) (SY :handedIn v=true) (h:Q v {s with toks:=s.toks+1}):
 wpAny (model prog w) A (getAttr (.ref x) name expr) Q E s:=by
 obtain⟨od,J,hl⟩:=I.look;exact PySem.W.get_value X J (plainGet_of hg).1 (PySem.W.findObj_own hh ha rfl (by rw[hl,hv])) SY h
theorem Im{pl:Sem Bool}{Q:Value×aI→Shared→Prop}(X:K.In s.heap)(I:A7 s.heap x dx C mA)(hg:PySem.W.plainGet K C name=true)
 (hf:PySem.W.findIn K (.ref C) name=some (some (.ref f))) (ht:PySem.W.isFn K (.ref f)=true) (hv:mA name=none) (h:Q (.ref f,[.ref x]) s):
 wpAny (model prog w) A (getMethod (.ref x) name pl) Q E s:=by
 obtain⟨od,J,hl⟩:=I.look;exact PySem.W.method_fn X J (plainGet_of hg).1 (plainGet_of hg).2 hf (beq_iff_eq.mp ht) (by show(lookIn name od).map (·.isSome)=some false;rw[hl,hv];rfl) h
theorem M3{ns:aO}{Q:Unit→Shared→Prop}(X:K.In s.heap)(I:A7 s.heap x dx C mA)
 (hs:PySem.W.findIn K (.ref C) "__setattr__"=some (some (.builtin "object.__setattr__"))) (hp:PySem.W.plainOver K C=true) (ht:takerIn K C name=some none) (hh:PySem.W.hasDictIn K C=true)
 (hw:PySem.Within mA ns) (hsz:ns.length≤sizeLine)
 (h:∀h',A7 h' x dx C (fun y=>if y=name then some v else mA y)→Heap.SameBut dx s.heap h'→Q () {s with heap:=h',toks:=s.toks+2}):
 wpAny (model prog w) A (setAttr (.ref x) name v) Q E s:=by
 obtain⟨od,J,hl⟩:=I.look;refine PySem.W.set_plain X J hs (PySem.W.osa_open (s:={s with toks:=s.toks+1}) (r:=none) X J hp ht fun b=> ?_);obtain⟨cd,hc,JT⟩:=PySem.W.any_some hh;have hx:s.heap.get? x=some ⟨.ref C,some dx,.plain,#[]⟩:=I.obj;refine wpAny_bind (wpAny_pure (wpAny_bind (wpAny_bind (wpAny_loadPart hx (wpAny_bind (PySem.W.Looks.here (s:={s with toks:=s.toks+1}) (PySem.W.looks_clsIn X hc) ?_))))));rw[JT];refine wpAny_pure (a:=some dx) (wpAny_bind (wpAny_pure (wpAny_bind ?_)));refine wpAny_nsSet1 (s:={s with toks:=s.toks+1}) I.ns fun h' SH FP=> ?_;obtain⟨oD,esD,epD,hoD,hdD,hcD⟩:=SH.count (PySem.Within.cons name v hw);refine wpAny_bind (wpAny_lookBehind hoD (by rw[hdD];exact pastItsLine_dict (Nat.le_trans hcD (by rw[List.length_cons];lia))) ?_);exact wpAny_pure (h _ ⟨(FP.2 _ (Ne.symm I.ne)).trans I.obj,SH,I.ne⟩ FP)
theorem Kg{R:Result→Shared→Prop}{vs:aI}{kw:List (Str×Value)}(X:K.In s.heap)(hm:PySem.W.makesIn K C=true)
 (hi:PySem.W.findIn K (.ref C) "__init__"=some (some (.ref f))) (hf:PySem.W.typeIn K (.ref f)=some (.type "function"))
 (h:codeAny (model prog w) (A.under (.builtin "type.__call__" ⟨.ref C::vs,kw⟩)) (.call (.ref f) ⟨.ref (s.heap.objs.size+1)::vs,kw⟩) (PySem.W.InitBack (s.heap.objs.size+1) R)
  {s with heap:=(s.heap.push emptyDict).push (instObj C s.heap.objs.size)}):
 codeAny (model prog w) A (.call (.ref C) ⟨vs,kw⟩) R s:=by
 obtain⟨hh,g,d,t,os⟩:=s;exact PySem.W.make_core (PySem.W.makes_of X hm) (PySem.W.looks_findIn X hi) (fun self=>PySem.W.bind_fn X self hf) (.inl rfl) h
end
def cF(f:Str)(v:V):jz→jz
 |[]=>[(f,v)]
 |(g,x)::r=>if g=f then(g,v)::r else(g,x)::cF f v r
theorem aK(f g:Str)(v:V):∀fs:jz,(cF f v fs).lookup g=if g=f then some v else fs.lookup g
 |[]=>by
  show List.lookup g [(f,v)]=_;by_cases h:g=f
  ·have hb:(g==f)=true:=beq_iff_eq.mpr h;simp only[List.lookup,hb,if_pos h]
  ·have hb:(g==f)=false:=beq_eq_false_iff_ne.mpr h;simp only[List.lookup,hb,if_neg h]
 |(k,x)::r=>by
  have ih:=aK f g v r;rw[show cF f v ((k,x)::r)=(if k=f then(k,v)::r else(k,x)::cF f v r) from rfl];by_cases hk:k=f
  ·rw[if_pos hk];by_cases h:g=k
   ·have hb:(g==k)=true:=beq_iff_eq.mpr h;simp only[List.lookup,hb,if_pos (h.trans hk)]
   ·have hb:(g==k)=false:=beq_eq_false_iff_ne.mpr h;simp only[List.lookup,hb,if_neg (fun e:g=f=>h (e.trans hk.symm))]
  ·rw[if_neg hk];by_cases h:g=k
   ·have hb:(g==k)=true:=beq_iff_eq.mpr h;simp only[List.lookup,hb,if_neg (fun e:g=f=>hk (h.symm.trans e))]
   ·have hb:(g==k)=false:=beq_eq_false_iff_ne.mpr h;simp only[List.lookup,hb];exact ih
theorem qM(f:Str)(v:V):∀fs:jz,f∈(cF f v fs).map (·.1)∧∀g,g∈fs.map (·.1)→g∈(cF f v fs).map (·.1)
 |[]=>⟨by simp[cF],fun g h=>by simp at h⟩
 |(k,x)::r=>by
  obtain⟨i1,i2⟩:=qM f v r;rw[show cF f v ((k,x)::r)=(if k=f then(k,v)::r else(k,x)::cF f v r) from rfl];by_cases hk:k=f
  ·rw[if_pos hk];subst hk;exact⟨by simp,fun g h=>by simpa using h⟩
  ·rw[if_neg hk];refine⟨?_,fun g h=> ?_⟩
   ·rw[List.map_cons];exact List.mem_cons_of_mem _ i1
   ·rw[List.map_cons] at h ⊢;rcases List.mem_cons.mp h with e|e
    ·exact List.mem_cons.mpr (.inl e)
    ·exact List.mem_cons_of_mem _ (i2 g e)
theorem b4(f:Str)(v:V):∀fs:jz,(cF f v fs).length≤fs.length+1
 |[]=>by simp[cF]
 |(k,x)::r=>by
  have ih:=b4 f v r;rw[show cF f v ((k,x)::r)=(if k=f then(k,v)::r else(k,x)::cF f v r) from rfl];by_cases hk:k=f
  ·rw[if_pos hk,List.length_cons,List.length_cons];lia
  ·rw[if_neg hk,List.length_cons,List.length_cons];lia
theorem mn.some_of{v:V}{o:aN}(r:mn (some v) o):∃u,o=some u∧RelV v u:=by
 cases o with
 |none=>exact(show False from r).elim
 |some u=>exact⟨u,rfl,r⟩
theorem mn.none_of{o:aN}(r:mn none o):o=none:=by
 cases o with
 |none=>rfl
 |some u=>exact(show False from r).elim
theorem EE{v:V}{u:Value}(r:RelV v u):handedIn u=true:=by
 cases v with
 |bC=>cases(show u=Value.none from r);rfl
 |bl b=>cases(show u=Value.bool b from r);rfl
 |int i=>obtain⟨t,e⟩:=(show ∃t,u=Value.int i t from r);cases e;rfl
 |str x=>obtain⟨t,e⟩:=(show ∃t,u=Value.str x t from r);cases e;rfl
 |Fw b=>obtain⟨t,e⟩:=(show ∃t,u=Value.bytes b t from r);cases e;rfl
 |R1 b=>obtain⟨t,e⟩:=(show ∃t,u=Value.float b t from r);cases e;rfl
 |ref a=>cases(show u=Value.ref a from r);rfl
 |ty n=>cases(show u=Value.type n from r);rfl
section
variable{P:Program}{w:World}{H H' :Hp}{h h' :Heap}{a C dx:Addr}{fs fs' :jz}
theorem tR(bE:n0 P w H h)(e:H a=some (.ins C dx fs)):∃mA,A7 h a dx C mA∧(∀f,mn (fs.lookup f) (mA f))∧PySem.Within mA (fs.map (·.1))∧fs.length≤1000∧H dx=some (.own a):=by
 obtain⟨d,z,ne,ob,mA,n,r,q⟩:=(show bw P w H h a (.ins C dx fs) from bE a _ e);exact⟨mA,⟨ob,n,ne⟩,r,q,z,d⟩
end
structure Dg(K:Frag)(C:Addr):Prop where
 pg:PySem.W.plainGet K C Str.empty=true
 hd:PySem.W.hasDictIn K C=true
 po:PySem.W.plainOver K C=true
 sa:PySem.W.findIn K (.ref C) "__setattr__"=some (some (.builtin "object.__setattr__"))
theorem Dg.get{K:Frag}{C:Addr}(c:Dg K C)(f:Str):PySem.W.plainGet K C f=true:=c.pg
def gf(K:Frag)(C:Addr)(f:Str):Prop:=PySem.W.findIn K (.ref C) f=some none
theorem gf.Tj{K:Frag}{C:Addr}{f:Str}(n:gf K C f):takerIn K C f=some none:=by
 unfold takerIn;rw[show PySem.W.findIn K (.ref C) f=some none from n];rfl
structure Meth(K:Frag)(C:Addr)(m:Str)(f:Addr):Prop where
 at_:PySem.W.findIn K (.ref C) m=some (some (.ref f))
 fn:PySem.W.isFn K (.ref f)=true
 kp:PySem.W.keepIn K (.ref f)=true
section
variable{X:Cx}{pins:aP}{σ:St}{H:Hp}{s:Shared}{a C dx:Addr}{fs:jz}{f:Str}{v:V}{A:Around}{E:Value→Shared→Prop}
theorem BN{b:Bool}{Q:Value→Shared→Prop}(I:Inv X pins σ H s)(e:H a=some (.ins C dx fs))(c:Dg X.K C)(n:gf X.K C f)(l:fs.lookup f=some v)
 (h:∀u s',Inv X pins σ H s'→RelV v u→Q u s'):wpAny (model X.prog X.w) A (getAttr (.ref a) f b) Q E s:=by
 obtain⟨mA,O,r,_,_,_⟩:=tR I.bE e;obtain⟨u,hu,ru⟩:=mn.some_of (v:=v) (o:=mA f) (by rw[←l];exact r f);exact jag I.qI O (c.get f) c.hd n hu (EE ru) (h u _ (I.tok _) ru)
theorem oI{m:Str}{g:Addr}{pl:Sem Bool}{Q:Value×aI→Shared→Prop}(I:Inv X pins σ H s)(e:H a=some (.ins C dx fs))(c:Dg X.K C)(k:Meth X.K C m g)(l:fs.lookup m=none)
 (h:Q (.ref g,[.ref a]) s):wpAny (model X.prog X.w) A (getMethod (.ref a) m pl) Q E s:=by
 obtain⟨mA,O,r,_,_,_⟩:=tR I.bE e;have hn:mA m=none:=mn.none_of (by rw[←l];exact r m);exact Im I.qI O (c.get m) k.at_ k.fn hn h
theorem BR{y:V}{u:Value}{Q:Unit→Shared→Prop}(I:Inv X pins σ H s)(e:H a=some (.ins C dx fs))(c:Dg X.K C)(n:gf X.K C f)(hl:fs.length<1000)(ry:RelV y u)
 (h:∀s',Inv X pins σ (upd H a (.ins C dx (cF f y fs))) s'→Q () s'):wpAny (model X.prog X.w) A (setAttr (.ref a) f u) Q E s:=by
 obtain⟨mA,O,r,wi,_,ho⟩:=tR I.bE e;have hz:(fs.map (·.1)).length≤sizeLine:=by rw[List.length_map,sizeLine_eq];lia
 refine M3 I.qI O c.sa c.po n.Tj c.hd wi hz fun h' O' sb=>h _ ?_;have hd:∃o,h'.get? dx=some o:=let⟨o,_,_,e',_⟩:=O'.ns;⟨o,e'⟩
 refine I.write (x:=a) (e:=dx) (by rw[e];exact True.intro) (.inr ho) (fun b q hb z=>(sb.2 b hb).trans z) hd ?_;refine⟨by rw[ah O.ne];exact ho,?_,O.ne,O'.obj,_,O'.ns,fun g=> ?_,fun g hg=> ?_⟩
 ·have:=b4 f y fs;lia
 ·show mn ((cF f y fs).lookup g) (if g=f then some u else mA g);rw[aK];by_cases q:g=f
  ·rw[if_pos q,if_pos q];exact ry
  ·rw[if_neg q,if_neg q];exact r g
 ·by_cases q:g=f
  ·rw[q];exact(qM f y fs).1
  ·refine(qM f y fs).2 g (wi g fun z=>hg ?_);show(if g=f then some u else mA g)=none;rw[if_neg q];exact z
theorem Inv.made(I:Inv X pins σ H s):Inv X pins σ (upd (upd H s.heap.objs.size (.own (s.heap.objs.size+1))) (s.heap.objs.size+1) (.ins C s.heap.objs.size []))
 {s with heap:=(s.heap.push emptyDict).push (instObj C s.heap.objs.size)}:=by
 have e1:(s.heap.push emptyDict).get? s.heap.objs.size=some emptyDict:=Heap.get?_push_size s.heap rfl
 have e2:((s.heap.push emptyDict).push (instObj C s.heap.objs.size)).get? (s.heap.objs.size+1)=some (instObj C s.heap.objs.size):=by
  have:=Heap.get?_push_size (s.heap.push emptyDict) (o:=instObj C s.heap.objs.size) rfl;rwa[Heap.size_push] at this
 have e3:(s.heap.push emptyDict).Ns s.heap.objs.size (fun _=>none):=⟨emptyDict,#[],_,e1,rfl,(fun e he=>absurd he (by simp)),fun _=>rfl⟩;have I1:=I.laid (a:=s.heap.objs.size) (o:= .own (s.heap.objs.size+1)) (h' :=s.heap.push emptyDict) (t' :=s.toks) (fun b u q=>Heap.get?_push_of_some _ q) (Nat.le_refl _) ⟨_,e1⟩;refine I1.laid (a:=s.heap.objs.size+1) (o:= .ins C s.heap.objs.size []) (t' :=s.toks) (fun b u q=>Heap.get?_push_of_some _ q) (Nat.le_of_eq (Heap.size_push _ _)) ?_;have ne:s.heap.objs.size≠s.heap.objs.size+1:=Nat.ne_of_lt (Nat.lt_succ_self _);refine⟨by rw[ah ne,af],Nat.zero_le _,ne,e2,fun _=>none,(Heap.Ns1.of_empty e3).at fun o q=>Heap.get?_push_of_some _ q,fun _=>True.intro,fun y hy=>absurd rfl hy⟩
theorem LB{prog:Program}{w:World}{env:Env}{e:Expr}{f:Str}{pos:Pos}{s:Shared}{Q:Value→Shared→Prop}(hb:attributeBase e f env (eval e env)=eval e env)
 (h:wpAny (model prog w) A (eval e env) (fun o bR=>wpAny (model prog w) A (getAttr o f true) Q E bR) E s):wpAny (model prog w) A (eval (.Attribute e f pos) env) Q E s:=
 Attribute_any_ h (by rw[arm_eval_Attribute,hb])
end
def UH(K:Frag)(ta:TE)(f:Str):TE:=fun σ H Q=>ta σ H fun x H1=>∃a C dx fs v,x= .ref a∧H1 a=some (.ins C dx fs)∧Dg K C∧gf K C f∧fs.lookup f=some v∧Q v H1
def agc(K:Frag)(ta tv:TE)(f:Str):TS:=fun D σ H=>tv σ H fun y H1=>ta σ H1 fun x H2=>∃a C dx fs,x= .ref a∧H2 a=some (.ins C dx fs)∧Dg K C∧gf K C f∧fs.length<1000∧
 D.nx σ (upd H2 a (.ins C dx (cF f y fs)))
section
variable{X:Cx}{o e value:Expr}{f:Str}{pos pos' Zj:Pos}{ta tv:TE}
theorem dr(he:PE X e ta)(hb:attributeBase e f X.env (eval e X.env)=eval e X.env):PE X (.Attribute e f pos) (UH X.K ta f):=by
 intro pins s σ H Q I h;refine LB hb (bW (he pins s σ H _ I h) fun u s1 ⟨x,H1,I1,rx,a,C,dx,fs,v,ex,ea,c,n,l,q⟩=> ?_);subst ex;obtain rfl:u=Value.ref a:=rx;exact BN I1 ea c n l fun u' s2 I2 ru=>⟨v,H1,I2,ru,q⟩
theorem oY(ha:PE X o ta)(hv:PE X value tv)(hs:swapsWith value (some (.Attribute o f pos')) pos.line X.env=pure false):PS X (.Assign [.Attribute o f pos'] value pos) (agc X.K ta tv f):=by
 intro pins s σ H D I h;refine plainObj_wpAny_Assign_Attribute (bW (hv pins s σ H _ I h) fun u s1 ⟨y,H1,I1,ry,q⟩=>bW (ha pins s1 σ H1 _ I1 q) fun ov s2 ⟨x,H2,I2,rx,a,C,dx,fs,ex,ea,c,n,l,q2⟩=> ?_) hs;subst ex;obtain rfl:ov=Value.ref a:=rx;exact BR I2 ea c n l ry fun s3 I3=>⟨σ,_,I3,q2⟩
theorem Qc{pl:Sem Bool}{m:Str}{apos:Pos}{args:b8}{pins:aP}{s:Shared}{σ:St}{H:Hp}{Q:Value→Shared→Prop}{te:TE}(he:PE X e te)(I:Inv X pins σ H s)
 (h:te σ H fun x H1=>∃a C dx fs g,x= .ref a∧H1 a=some (.ins C dx fs)∧Dg X.K C∧Meth X.K C m g∧fs.lookup m=none∧
  ∀s1,Inv X pins σ H1 s1→wpAny (model X.prog X.w) X.A (callWith pos (.ref g) [.ref a] (backTo pos (starEach args X.env)) (backToKw pos (keywordEach [] X.env))) Q X.xe s1)
 (ht:eval (.Call (.Attribute e m apos) args [] pos) X.env=(do
  let ov←eval e X.env
  standAt apos.atName
  let(f,first)←holding [ov] (getMethod ov m pl)
  callWith pos f first (backTo pos (starEach args X.env)) (backToKw pos (keywordEach [] X.env)))):
 wpAny (model X.prog X.w) X.A (eval (.Call (.Attribute e m apos) args [] pos) X.env) Q X.xe s:=by
 refine methodCall_KW (pl:=pl) (bW (he pins s σ H _ I h) fun u s1 ⟨x,H1,I1,rx,a,C,dx,fs,g,ex,ea,c,k,l,q⟩=> ?_) ht;subst ex;obtain rfl:u=Value.ref a:=rx;exact oI I1 ea c k l (q s1 I1)
end
section
variable{X:Cx}{pins:aP}{σ:St}{H:Hp}{s:Shared}{A:Around}{E:Value→Shared→Prop}{Q:Value→Shared→Prop}{c:Value}{b:Bool}
inductive qw (K:Frag) (H:Hp):V→Value→Prop where
 |bC:qw K H .bC (.type "NoneType")
 |bl (x:Bool):qw K H (.bl x) (.type "bool")
 |int (i:Int):qw K H (.int i) (.type "int")
 |str (x:Str):qw K H (.str x) (.type "str")
 |R1 (x:UInt64):qw K H (.R1 x) (.type "float")
 |lst {a:Addr} {xs:ax} (e:H a=some (.lst xs)):qw K H (.ref a) (.type "list")
 |fB {a:Addr} {o:Obj} {xs:ax} (e:H a=some (.fB o (.lst xs))):qw K H (.ref a) (.type "list")
 |tup {a:Addr} {xs:ax} (e:H a=some (.tup xs)):qw K H (.ref a) (.type "tuple")
 |dK {a:Addr} {kvs:bG} (e:H a=some (.dK kvs)):qw K H (.ref a) (.type "dict")
 |dT {a:Addr} {kvs:eA} (e:H a=some (.dT kvs)):qw K H (.ref a) (.type "dict")
 |ins {a C dx:Addr} {fs:jz} (e:H a=some (.ins C dx fs)) (cl:Dg K C) (ha:PySem.W.findIn K (.ref C) "__class__"=some (some (.builtin "object.__class__")))
  (hn:PySem.W.specialIn K (.builtin "object.__class__") "__get__"=some (some (.builtin "getset_descriptor.__get__"))) (htk:PySem.W.takesIn K (.builtin "object.__class__")=some true)
  (hm:PySem.W.mroIn K C (.type "object")=some true):qw K H (.ref a) (.ref C)
theorem Fc{x:V}{u t:Value}(I:Inv X pins σ H s)(rx:RelV x u)(ty:qw X.K H x t)(e:kitOne X.K t c=some b)(h:∀tk,Q (.bool b) {s with toks:=tk}):
 wpAny (model X.prog X.w) A (call (.builtin "isinstance") [u,c]) Q E s:=by
 cases ty with
 |bC=>cases(show u=Value.none from rx);exact kia_one PySem.W.kitx_none I.qI True.intro e (fun z=>nomatch z) h
 |bl y=>cases(show u=Value.bool y from rx);exact kia_one PySem.W.kitx_bool I.qI True.intro e (fun z=>nomatch z) h
 |int i=>obtain⟨t,q⟩:=(show ∃t,u=Value.int i t from rx);cases q;exact kia_one PySem.W.kitx_int I.qI True.intro e (fun z=>nomatch z) h
 |str y=>obtain⟨t,q⟩:=(show ∃t,u=Value.str y t from rx);cases q;exact kia_one PySem.W.kitx_str I.qI True.intro e (fun z=>nomatch z) h
 |R1 y=>obtain⟨t,q⟩:=(show ∃t,u=Value.float y t from rx);cases q;exact kia_one PySem.W.kitx_float I.qI True.intro e (fun z=>nomatch z) h
 | @lst a xs ea=>
  cases(show u=Value.ref a from rx);obtain⟨_,_,n,_,h1⟩:=(show bw X.prog X.w H s.heap a (.lst xs) from I.bE a _ ea);exact kia_one kitx_list I.qI ⟨_,h1,rfl⟩ e (fun z=>nomatch z) h
 | @fB a ob xs ea=>
  cases(show u=Value.ref a from rx);obtain⟨_,_,_,n,_,h1⟩:=(show bw X.prog X.w H s.heap a (.fB ob (.lst xs)) from I.bE a _ ea);exact kia_one kitx_list I.qI ⟨_,h1,rfl⟩ e (fun z=>nomatch z) h
 | @tup a xs ea=>
  cases(show u=Value.ref a from rx);obtain⟨_,_,_,p⟩:=(show bw X.prog X.w H s.heap a (.tup xs) from I.bE a _ ea);obtain⟨o,h1,h2,_⟩:=p;exact kia_one PySem.W.kitx_tuple I.qI ⟨o,h1,h2⟩ e (fun z=>nomatch z) h
 | @dK a kvs ea=>
  cases(show u=Value.ref a from rx);obtain⟨_,_,vs,_,p⟩:=(show bw X.prog X.w H s.heap a (.dK kvs) from I.bE a _ ea);obtain⟨o,es,ep,h1,h2,_⟩:=p;exact kia_one kitx_dict I.qI ⟨o,h1,h2.1⟩ e (fun z=>nomatch z) h
 | @dT a kvs ea=>
  cases(show u=Value.ref a from rx);obtain⟨_,_,xs,_,o,es,ep,h1,h2,_⟩:=(show bw X.prog X.w H s.heap a (.dT kvs) from I.bE a _ ea);exact kia_one kitx_dict I.qI ⟨o,h1,h2.1⟩ e (fun z=>nomatch z) h
 | @ins a C dx fs ea cl ha hn htk hm=>
  cases(show u=Value.ref a from rx);obtain⟨mA,O,_⟩:=tR I.bE ea;obtain⟨od,J,_⟩:=O.look;exact kia_one (PySem.W.kitx_own (cl.get _) cl.hd ha hn htk hm) I.qI J e (fun z=>nomatch z) h
end
structure fh(k:Nat)(A:Around):Prop where
 hd:A.handled=none
 dp:A.depth+3*k+5<recursionLimit
 un:A.units+16*k+200<cLine
 gd:A.guards=some []
theorem fh.mono{j k:Nat}{A:Around}(r:fh k A)(h:j≤k):fh j A:=⟨r.hd,by have:=r.dp;lia,by have:=r.un;lia,r.gd⟩
theorem fh.deeper{k:Nat}{A:Around}(r:fh (k+1) A)(env:Env):fh k (A.deeper env):=
 ⟨r.hd,by have:=r.dp;show A.depth+1+3*k+5<_;lia,by have:=r.un;show A.units+3+16*k+200<_;lia,r.gd⟩
theorem fh.in1{k:Nat}{A:Around}(r:fh (k+1) A):fh k A.in1:=
 ⟨r.hd,by have:=r.dp;show A.depth+3*k+5<_;lia,by have:=r.un;show A.units+1+16*k+200<_;lia,r.gd⟩
theorem BY{A:Around}{C:Addr}{us:aI}{kw:List (Str×Value)}:(A.under (.builtin "type.__call__" ⟨.ref C::us,kw⟩)).depth=A.depth+1:=by
 first|rfl|simp[Around.under,Code.weight,Code.isCreation,Code.isGuard,Code.isCaller,Code.frames,Code.isFrame,guardIds]
theorem Bh{A:Around}{C:Addr}{us:aI}{kw:List (Str×Value)}:(A.under (.builtin "type.__call__" ⟨.ref C::us,kw⟩)).units=A.units+1:=by
 first|rfl|simp[Around.under,Code.cUnits,Code.frames,Code.isFrame]
theorem zu{A:Around}{C:Addr}{us:aI}{kw:List (Str×Value)}{g:List Code}(h:A.guards=some g):(A.under (.builtin "type.__call__" ⟨.ref C::us,kw⟩)).guards=some g:=by
 have e:(Code.builtin "type.__call__" ⟨.ref C::us,kw⟩).guards=[]:=by first|rfl|simp[Code.guards,Code.isGuard,guardIds]
 first
  |(simp only[Around.under,e,pushGuards];exact h)
  |simp[Around.under,e,pushGuards,h]
theorem fh.make{k:Nat}{A:Around}(r:fh (k+1) A)(C:Addr)(us:aI)(kw:List (Str×Value)):fh k (A.under (.builtin "type.__call__" ⟨.ref C::us,kw⟩)):=
 ⟨r.hd,by have:=r.dp;rw[BY];lia,by have:=r.un;rw[Bh];lia,zu r.gd⟩
theorem fh.depth{k:Nat}{A:Around}(r:fh k A):A.depth<recursionLimit:=by have:=r.dp;lia
theorem fh.units{k:Nat}{A:Around}(r:fh k A):A.units+64<cLine:=by have:=r.un;lia
theorem fh.RY{k:Nat}{A:Around}(r:fh k A):A.units<cLine:=by have:=r.un;lia
def QX:TA:=fun _ H Q=>Q [] H
def N0(ta:TE)(tr:TA):TA:=fun σ H Q=>ta σ H fun x H1=>tr σ H1 fun xs H2=>Q (x::xs) H2
section
variable{X:Cx}{e:Expr}{es:b8}{te:TE}{t:TA}{pos:Pos}
theorem ae:PA X [] QX:=fun _ _ _ _ H Q I h=>Calls.spliced_nil ⟨[],H,I,.nil,h⟩
theorem aa(ha:PE X e te)(hr:PA X es t)(hs:starEach (e::es) X.env=(false,eval e X.env)::starEach es X.env:=by rfl):PA X (e::es) (N0 te t):=by
 intro pos pins s σ H Q I h;rw[hs];show wpAny _ _ (spliced ((false,eval e X.env)::backTo pos (starEach es X.env))) _ _ s;refine Calls.spliced_cons (bW (ha pins s σ H _ I h) fun u s1 ⟨x,H1,I1,r1,q1⟩=> ?_);exact bW (hr pos pins s1 σ H1 _ I1 q1) fun us s2 ⟨xs,H2,I2,r2,q2⟩=>⟨x::xs,H2,I2,.cons r1 r2,q2⟩
def afu(t:TA):TE:=fun σ H Q=>t σ H fun xs H1=>xs.length≤sizeLine∧∀p,H1 p=none→Q (.ref p) (upd H1 p (.tup xs))
def UU(t:TA):TE:=fun σ H Q=>t σ H fun xs H1=>xs.length≤sizeLine∧∀p,H1 p=none→Q (.ref p) (upd H1 p (.lst xs))
theorem gT{x1}(h:PA X es t):PE X (.Tuple es x1 pos) (afu t):=by
 intro pins s σ H Q I hq;refine wpAny_Tuple_spliced (bW (h pos pins s σ H _ I hq) fun us s1 ⟨xs,H1,I1,r,z,q⟩=>⟨by rw[←r.length];exact z,?_⟩);have hf:H1 s1.heap.objs.size=none:=I1.bE.fresh (Nat.le_refl _);refine⟨.ref s1.heap.objs.size,upd H1 s1.heap.objs.size (.tup xs),I1.laid (t' :=s1.toks) (fun b u e=>Heap.get?_push_of_some _ e) (Nat.le_refl _) ?_,rfl,q _ hf⟩;exact⟨z,us,r,⟨_,Heap.get?_push_size _ rfl,rfl,_,rfl⟩⟩
theorem b7(h:PA X es t):PE X (.List es pos) (UU t):=by
 intro pins s σ H Q I hq;refine wpAny_List_spliced (bW (h pos pins s σ H _ I hq) fun us s1 ⟨xs,H1,I1,r,z,q⟩=>⟨by rw[←r.length];exact z,?_⟩);have hf:H1 s1.heap.objs.size=none:=I1.bE.fresh (Nat.le_refl _);refine⟨.ref s1.heap.objs.size,upd H1 s1.heap.objs.size (.lst xs),I1.laid (t' :=s1.toks) (fun b u e=>Heap.get?_push_of_some _ e) (Nat.le_refl _) ?_,rfl,q _ hf⟩;exact⟨z,us,0,r,Heap.get?_push_size _ rfl⟩
end
abbrev Sp:=ax→Hp→VK→XK→Prop
abbrev A5:=List Env→Hp→Shared→XK→Value→Shared→Prop
structure uH(P:Program)(w:World)(K:Frag)(mg:Str→aN)(base:Heap)(A:Around)(outer:List Env)(s:Shared)(H:Hp):Prop where
 frames:A.frames=some outer
 mod:Mod K mg base
 bs:∀b o,base.get? b=some o→s.heap.get? b=some o∧H b=none
 Gu:base.objs.size≤s.heap.objs.size
 qV:s.heap.FunFrames base outer
 PM:∀b∈Fq outer,H b=none
 bE:n0 P w H s.heap
 bare:AllBare s.gens
def CE(outer:List Env)(P:Program)(w:World)(H:Hp)(s:Shared)(Q:VK)(u:Value)(s' :Shared):Prop:=
 ∃v H',s'.os=s.os∧AllBare s'.gens∧Un (Fq outer) [] H H' s.heap s'.heap∧n0 P w H' s'.heap∧RelV v u∧Q v H'
def CR(CX:A5)(outer:List Env)(P:Program)(w:World)(H:Hp)(s:Shared)(Q:VK)(E:XK)(r:Result)(s' :Shared):Prop:=
 match r with
 | .ok (.ret u)=>CE outer P w H s Q u s'
 | .ok _=>False
 | .error e=>CX outer H s E e s'
structure bu(P:Program)(w:World)(K:Frag)(mg:Str→aN)(base:Heap)(CX:A5)(k:Nat)(f:Addr)(fd:FuncData)(ps:aO)(sp:Sp):Prop where
 len:∀vs H Q E,sp vs H Q E→vs.length=ps.length
 run:∀(A:Around) (outer:List Env) (s:Shared) (H:Hp) (args:Args) (us:aI) (vs:ax) (Q:VK) (E:XK),fh k A→uH P w K mg base A outer s H→BindsTo s fd args (ps.zip us)→Vals vs us→sp vs H Q E→
  codeAny (model P w) A (.call (.ref f) args) (CR CX outer P w H s Q E) s
theorem bu.mono{P:Program}{w:World}{K:Frag}{mg:Str→aN}{base:Heap}{CX:A5}{j k:Nat}{f:Addr}{fd:FuncData}{ps:aO}{sp:Sp}(F:bu P w K mg base CX j f fd ps sp)(h:j≤k):
 bu P w K mg base CX k f fd ps sp:=⟨F.len,fun A outer s H args us vs Q E hr=>F.run A outer s H args us vs Q E (hr.mono h)⟩
theorem bu.imp{P:Program}{w:World}{K:Frag}{mg:Str→aN}{base:Heap}{CX:A5}{k:Nat}{f:Addr}{fd:FuncData}{ps:aO}{sp sp' :Sp}(F:bu P w K mg base CX k f fd ps sp)
 (h:∀vs H Q E,sp' vs H Q E→sp vs H Q E):bu P w K mg base CX k f fd ps sp' :=
 ⟨fun vs H Q E q=>F.len vs H Q E (h _ _ _ _ q),fun A outer s H args us vs Q E hr he hb hv hs=>F.run A outer s H args us vs Q E hr he hb hv (h _ _ _ _ hs)⟩
theorem uH.make{P:Program}{w:World}{K:Frag}{mg:Str→aN}{base:Heap}{A:Around}{outer:List Env}{s:Shared}{H:Hp}(e:uH P w K mg base A outer s H)(C:Addr)(us:aI)(kw:List (Str×Value)):
 uH P w K mg base (A.under (.builtin "type.__call__" ⟨.ref C::us,kw⟩)) outer s H:=⟨by first|exact e.frames|(simpa[Around.under,Code.envs,Code.isFrame,pushEnvs] using e.frames),e.mod,e.bs,e.Gu,e.qV,e.PM,e.bE,e.bare⟩
theorem uH.in1{P:Program}{w:World}{K:Frag}{mg:Str→aN}{base:Heap}{A:Around}{outer:List Env}{s:Shared}{H:Hp}(e:uH P w K mg base A outer s H):
 uH P w K mg base A.in1 outer s H:=⟨e.frames,e.mod,e.bs,e.Gu,e.qV,e.PM,e.bE,e.bare⟩
section
variable{X:Cx}{pins:aP}{σ:St}{H:Hp}{s s' :Shared}
theorem Inv.XF(I:Inv X pins σ H s):uH X.prog X.w X.K X.mg X.base X.A X.stack s H:=
 ⟨I.ok.frames,I.ok.mod,I.bs,Nat.le_trans I.ok.Gu I.sz,I.stack,I.DY,I.bE,I.bare⟩
theorem Inv.after{Q:VK}{u:Value}(I:Inv X pins σ H s)(h:CE X.stack X.prog X.w H s Q u s'):EP X pins σ Q u s' :=by
 obtain⟨v,H',os,bare,un,bE,r,q⟩:=h;obtain⟨hh,g,d,t,os'⟩:=s';obtain rfl:os' =s.os:=os;exact⟨v,H',I.call (h' :=hh) (g' :=g) (d' :=d) (t' :=t) (ch:=[]) un bE bare (fun b z=>absurd z (by simp)),r,q⟩
end
def PQ(sp:Sp)(sQ:ax)(E:XK)(t:TA):TE:=fun σ H Q=>t σ H fun vs H1=>sp (vs++sQ) H1 Q E
def Pf(C:Addr)(m:Str)(sp:Sp)(sQ:ax)(E:XK)(ta:TE)(t:TA):TE:=fun σ H Q=>ta σ H fun x H1=>∃a dx fs,x= .ref a∧H1 a=some (.ins C dx fs)∧fs.lookup m=none∧
 t σ H1 fun vs H2=>sp (x::(vs++sQ)) H2 Q E
def XJ(C:Addr)(sp:Sp)(sQ:ax)(E:XK)(t:TA):TE:=fun σ H Q=>t σ H fun vs H1=>∀x dx,H1 x=none→H1 dx=none→dx≠x→
 sp (.ref x::(vs++sQ)) (upd (upd H1 dx (.own x)) x (.ins C dx [])) (fun v H2=>v= .bC∧Q (.ref x) H2) E
def Binds(K:Frag)(fd:FuncData)(ps:aO)(ds:aI):Prop:=
 ∀(s:Shared) (us:aI),K.In s.heap→(us++ds).length=ps.length→BindsTo s fd ⟨us,[]⟩ (ps.zip (us++ds))
theorem Binds.all{K:Frag}{fd:FuncData}{ps:aO}(h:∀us:aI,us.length=ps.length→bindArgs fd ⟨us,[]⟩=pure (ps.zip us)):Binds K fd ps []:=fun s us _ hl=>by
 rw[List.append_nil] at hl ⊢;exact .of_eq (h us hl)
def xL(CX:A5)(X:Cx)(E:XK):Prop:=∀(pins:aP) (σ:St) (H:Hp) (s:Shared) (e:Value) (s' :Shared),Inv X pins σ H s→CX X.stack H s E e s'→X.xe e s'
section
variable{X:Cx}{CX:A5}{k:Nat}{f C:Addr}{fd:FuncData}{ps:aO}{sp:Sp}{sQ:ax}{ds:aI}{E:XK}{x m:Str}{p pos apos:Pos}{e o:Expr}{es:b8}{ta:TE}{t:TA}
theorem xk{pins:aP}{σ:St}{H:Hp}{s:Shared}{Q:VK}{us:aI}{vs:ax}(F:bu X.prog X.w X.K X.mg X.base CX k f fd ps sp)(hr:fh k X.A)(hb:Binds X.K fd ps ds)(hd:Vals sQ ds)(hx:xL CX X E)
 (I:Inv X pins σ H s) (r:Vals vs us) (h:sp (vs++sQ) H Q E):wpAny (model X.prog X.w) X.A (call (.ref f) us) (EP X pins σ Q) X.xe s:=by
 have r2:Vals (vs++sQ) (us++ds):=r.append hd;have hl:(us++ds).length=ps.length:=by rw[←r2.length];exact F.len _ _ _ _ h
 refine wpAny_call (codeAny_mono (F.run X.A X.stack s H ⟨us,[]⟩ (us++ds) (vs++sQ) Q E hr I.XF (hb s us I.qI hl) r2 h) fun r s' hq=> ?_)
 cases r with
 |error e=>exact hx pins σ H s e s' I hq
 |ok fl=>
  cases fl with
  |ret u=>exact I.after hq
  |next=>exact False.elim hq
  |brk=>exact False.elim hq
  |cont=>exact False.elim hq
theorem aA(F:bu X.prog X.w X.K X.mg X.base CX k f fd ps sp)(hr:fh k X.A)(hg:Gl X x)(hm:X.mg x=some (.ref f))(hk:PySem.W.keepIn X.K (.ref f)=true)(hb:Binds X.K fd ps ds)(hd:Vals sQ ds)(hx:xL CX X E)
 (ha:PA X (e::es) t) (LX:(x==("__debug__" :Str))=false:=by decide) (he:starEach (e::es) X.env=(false,eval e X.env)::starEach es X.env:=by rfl) (tS:(backTo pos (starEach es X.env)).any (·.1)=false:=by rfl):
 PE X (.Call (.Name x p) (e::es) [] pos) (PQ sp sQ E t):=by
 intro pins s σ H Q I h;refine wpAny_Call_Name_kw (tK I hg hm ?_ LX);refine callWith_K (h₀:=X.base) I.ok.mod.SI hk (bW (ha pos pins s σ H _ I h) fun us s1 ⟨vs,H1,I1,r,q⟩=>⟨I1.qI,?_⟩) he tS;exact xk F hr hb hd hx I1 r q
theorem bg{pl:Sem Bool}(he:PE X o ta)(c:Dg X.K C)(hm:Meth X.K C m f)(F:bu X.prog X.w X.K X.mg X.base CX k f fd ps sp)(hr:fh k X.A)(hb:Binds X.K fd ps ds)(hd:Vals sQ ds)(hx:xL CX X E)(ha:PA X (e::es) t)
 (iP:starEach (e::es) X.env=(false,eval e X.env)::starEach es X.env:=by rfl) (tS:(backTo pos (starEach es X.env)).any (·.1)=false:=by rfl)
 (ht:eval (.Call (.Attribute o m apos) (e::es) [] pos) X.env=(do
  let ov←eval o X.env
  standAt apos.atName
  let(f,first)←holding [ov] (getMethod ov m pl)
  callWith pos f first (backTo pos (starEach (e::es) X.env)) (backToKw pos (keywordEach [] X.env))):=by rfl):
 PE X (.Call (.Attribute o m apos) (e::es) [] pos) (Pf C m sp sQ E ta t):=by
 intro pins s σ H Q I h;refine methodCall_KW (pl:=pl) (bW (he pins s σ H _ I h) fun u s1 ⟨x,H1,I1,rx,a,dx,fs,ex,ea,l,q⟩=> ?_) ht;subst ex;obtain rfl:u=Value.ref a:=rx;refine oI I1 ea c hm l ?_;refine callWith_K (first:=[.ref a]) (h₀:=X.base) I.ok.mod.SI hm.kp (bW (ha pos pins s1 σ H1 _ I1 q) fun us s2 ⟨vs,H2,I2,r,q2⟩=>⟨I2.qI,?_⟩) iP tS;exact xk (us:= .ref a::us) (vs:= .ref a::vs) F hr hb hd hx I2 (.cons rfl r) q2
theorem dP{pl:Sem Bool}(he:PE X o ta)(c:Dg X.K C)(hm:Meth X.K C m f)(F:bu X.prog X.w X.K X.mg X.base CX k f fd ps sp)(hr:fh k X.A)(hb:Binds X.K fd ps ds)(hd:Vals sQ ds)(hx:xL CX X E)
 (ht:eval (.Call (.Attribute o m apos) [] [] pos) X.env=(do
  let ov←eval o X.env
  standAt apos.atName
  let(f,first)←holding [ov] (getMethod ov m pl)
  callWith pos f first (backTo pos (starEach [] X.env)) (backToKw pos (keywordEach [] X.env))):=by rfl):
 PE X (.Call (.Attribute o m apos) [] [] pos) (Pf C m sp sQ E ta QX):=by
 intro pins s σ H Q I h;refine methodCall_KW (pl:=pl) (bW (he pins s σ H _ I h) fun u s1 ⟨x,H1,I1,rx,a,dx,fs,ex,ea,l,q⟩=> ?_) ht;subst ex;obtain rfl:u=Value.ref a:=rx;refine oI I1 ea c hm l ?_;exact PySem.W.callWith_K0 (first:=[.ref a]) I1.qI hm.kp (xk (us:=[.ref a]) (vs:=[.ref a]) F hr hb hd hx I1 (.cons rfl .nil) q)
structure Mk(K:Frag)(C f:Addr):Prop where
 makes:PySem.W.makesIn K C=true
 init:PySem.W.findIn K (.ref C) "__init__"=some (some (.ref f))
 fn:PySem.W.isFn K (.ref f)=true
 kp:PySem.W.keepIn K (.ref C)=true
theorem Kd{pins:aP}{σ:St}{H:Hp}{s:Shared}{Q:VK}{us:aI}{vs:ax}(M:Mk X.K C f)(F:bu X.prog X.w X.K X.mg X.base CX k f fd ps sp)(hr:fh (k+1) X.A)(hb:Binds X.K fd ps ds)(hd:Vals sQ ds)
 (hx:xL CX X E) (I:Inv X pins σ H s) (r:Vals vs us)
 (h:∀x dx,H x=none→H dx=none→dx≠x→sp (.ref x::(vs++sQ)) (upd (upd H dx (.own x)) x (.ins C dx [])) (fun v H2=>v= .bC∧Q (.ref x) H2) E):
 wpAny (model X.prog X.w) X.A (call (.ref C) us) (EP X pins σ Q) X.xe s:=by
 have hq:=h (s.heap.objs.size+1) s.heap.objs.size (I.bE.fresh (Nat.le_succ _)) (I.bE.fresh (Nat.le_refl _)) (Nat.ne_of_lt (Nat.lt_succ_self _));have I2:=Inv.made (C:=C) I;have r2:Vals (V.ref (s.heap.objs.size+1)::(vs++sQ)) (Value.ref (s.heap.objs.size+1)::(us++ds)):= .cons rfl (r.append hd)
 have hl:(Value.ref (s.heap.objs.size+1)::us++ds).length=ps.length:=by
  have e:=r2.length;rw[F.len _ _ _ _ hq] at e;exact e.symm
 refine wpAny_call (Kg (f:=f) I.qI M.makes M.init (beq_iff_eq.mp M.fn) (codeAny_mono (F.run _ X.stack _ _ ⟨Value.ref (s.heap.objs.size+1)::us,[]⟩ (Value.ref (s.heap.objs.size+1)::(us++ds)) _ _ E (hr.make C us [])
  (I2.XF.make C us []) (hb _ (Value.ref (s.heap.objs.size+1)::us) I2.qI hl) r2 hq) fun r s' WU => ?_))
 cases r with
 |error e=>exact hx pins σ _ _ e s' I2 WU
 |ok fl=>
  cases fl with
  |ret u=>
   obtain⟨v,H',I3,rv,ev,q3⟩:=I2.after WU;subst ev;exact⟨rv,⟨V.ref (s.heap.objs.size+1),H',I3,rfl,q3⟩⟩
  |next=>exact False.elim WU
  |brk=>exact False.elim WU
  |cont=>exact False.elim WU
theorem MQ(M:Mk X.K C f)(F:bu X.prog X.w X.K X.mg X.base CX k f fd ps sp)(hr:fh (k+1) X.A)(hg:Gl X x)(hm:X.mg x=some (.ref C))(hb:Binds X.K fd ps ds)(hd:Vals sQ ds)(hx:xL CX X E)
 (ha:PA X (e::es) t) (LX:(x==("__debug__" :Str))=false:=by decide) (he:starEach (e::es) X.env=(false,eval e X.env)::starEach es X.env:=by rfl) (tS:(backTo pos (starEach es X.env)).any (·.1)=false:=by rfl):
 PE X (.Call (.Name x p) (e::es) [] pos) (XJ C sp sQ E t):=by
 intro pins s σ H Q I h;refine wpAny_Call_Name_kw (tK I hg hm ?_ LX);refine callWith_K (h₀:=X.base) I.ok.mod.SI M.kp (bW (ha pos pins s σ H _ I h) fun us s1 ⟨vs,H1,I1,r,q⟩=>⟨I1.qI,?_⟩) he tS;exact Kd M F hr hb hd hx I1 r q
end
section
variable{X:Cx}{CX:A5}{k:Nat}{f C:Addr}{fd:FuncData}{ps ks:aO}{sp:Sp}{E:XK}{x m:Str}{p pos apos aqd:Pos}{e o:Expr}{es:b8}{kws:List Keyword}{te ta:TE}{t tk:TA}{nm:Option Str}
variable{g:aI→aI→aI}{gV:ax→ax→ax}
end
structure aF(N P:aO)(sc:Scope):Prop where
 kind:sc.kind= .function
 co:sc.isCoroutine=false
 gen:sc.isGenerator=false
 nd:N.Nodup
 pre:N.take P.length=P
 par:∀x∈P,sc.names.lookup x=some .local∨sc.names.lookup x=some .cell
 Rj:∀y∈sc.names,y.2≠.free
theorem wH{kindOf:Str→Option NameKind}{x:Str}:∀{binds:List (Str×Value)} {m:Str→aN},(∀v,(x,v)∉binds)→bindL kindOf binds m x=m x
 |[],_,_=>rfl
 |(n,v)::r,m,h=>by
  unfold bindL;rw[wH fun w hw=>h w (List.mem_cons_of_mem _ hw)]
  split
  ·have:x≠n:=by rintro rfl;exact h v List.mem_cons_self
   simp[this]
  ·rfl
theorem wZ{kindOf:Str→Option NameKind}{x:Str}:∀{binds:List (Str×Value)} {m:Str→aN},(∀v,(x,v)∉binds)→bindC kindOf binds m x=m x
 |[],_,_=>rfl
 |(n,v)::r,m,h=>by
  unfold bindC;rw[wZ fun w hw=>h w (List.mem_cons_of_mem _ hw)]
  split
  ·rfl
  ·have:x≠n:=by rintro rfl;exact h v List.mem_cons_self
   simp[this]
theorem wG{kindOf:Str→Option NameKind}{x:Str}{v:Value}:∀{P:aO} {vs:aI} {i:Nat} {m:Str→aN},P.Nodup→P[i]? =some x→vs[i]? =some v→kindOf x=some .local→
 bindL kindOf (P.zip vs) m x=some v
 |[],_,_,_,_,h,_,_=>by simp at h
 |_::_,[],_,_,_,_,h,_=>by simp at h
 |p::P,w::vs,0,m,nd,h1,h2,hk=>by
  simp at h1 h2;subst h1;subst h2
  show bindL kindOf ((p,w)::P.zip vs) m p=_;unfold bindL;rw[wH fun v hv=>(List.nodup_cons.mp nd).1 (List.of_mem_zip hv).1,if_pos hk];simp
 |p::P,w::vs,i+1,m,nd,h1,h2,hk=>by
  show bindL kindOf ((p,w)::P.zip vs) m x=_;unfold bindL;exact wG (i:=i) (List.nodup_cons.mp nd).2 (by simpa using h1) (by simpa using h2) hk
theorem wj{kindOf:Str→Option NameKind}{x:Str}{v:Value}:∀{P:aO} {vs:aI} {i:Nat} {m:Str→aN},P.Nodup→P[i]? =some x→vs[i]? =some v→kindOf x≠some .local→
 bindC kindOf (P.zip vs) m x=some v
 |[],_,_,_,_,h,_,_=>by simp at h
 |_::_,[],_,_,_,_,h,_=>by simp at h
 |p::P,w::vs,0,m,nd,h1,h2,hk=>by
  simp at h1 h2;subst h1;subst h2
  show bindC kindOf ((p,w)::P.zip vs) m p=_;unfold bindC;rw[wZ fun v hv=>(List.nodup_cons.mp nd).1 (List.of_mem_zip hv).1,if_neg hk];simp
 |p::P,w::vs,i+1,m,nd,h1,h2,hk=>by
  show bindC kindOf ((p,w)::P.zip vs) m x=_;unfold bindC;exact wj (i:=i) (List.nodup_cons.mp nd).2 (by simpa using h1) (by simpa using h2) hk
def Wp(N:aO)(vs:ax):St:=vs.map some++List.replicate (N.length - vs.length) none
def Bi(CX:A5)(P:Program)(w:World)(K:Frag)(mg:Str→aN)(base:Heap)(N:aO)(qual:Str)(scope:Scope)(f:Addr)(cd:Value)(A:Around)(outer:List Env)(s:Shared)(H:Hp)(E:XK):Cx where
 prog:=P
 w:=w
 K:=K
 mg:=mg
 base:=base
 A:=A.deeper (envOfC qual scope s.heap.objs.size f cd)
 N:=N
 gF:=s
 H₀:=H
 env:=envOfC qual scope s.heap.objs.size f cd
 outer:=outer
 stack:=envOfC qual scope s.heap.objs.size f cd::outer
 ex:=[]
 calm:=true
 fn:=fun _=>true
 pn:=[]
 xe:=fun e s' =>wpAny (model P w) (A.deeper (envOfC qual scope s.heap.objs.size f cd)) (leaving (envOfC qual scope s.heap.objs.size f cd) e) (fun _ RK =>CX outer H s E e RK) (fun e' RK =>CX outer H s E e' RK) s'
theorem yV{sc:Scope}{n:Nat}{x:Str}(h:sc.names.lookup x=some .cell):∃c,(cellsFrom n sc.names []).lookup x=some c:=by
 have q:=cellsFrom_some sc.names n [] (.inl h);exact Option.isSome_iff_exists.mp q
theorem Ed{CX:A5}{P:Program}{w:World}{K:Frag}{mg:Str→aN}{base:Heap}{N ps:aO}{qual:Str}{scope:Scope}{f:Addr}{cd:Value}{A:Around}{outer:List Env}{s s1:Shared}{H:Hp}{E:XK}{us:aI}{vs:ax}
 (S:aF N ps scope) (hd:A.handled=none) (e0:uH P w K mg base A outer s H) (hl:vs.length=ps.length) (r:Vals vs us)
 (x:InCallC s s.heap.objs.size (bindL (envOfC qual scope s.heap.objs.size f cd).kindOf (ps.zip us) fun _=>none) (cellsFrom (s.heap.objs.size+1) scope.names []) (bindC (envOfC qual scope s.heap.objs.size f cd).kindOf (ps.zip us) fun _=>none) s1):
 Inv (Bi CX P w K mg base N qual scope f cd A outer s H E) [] (Wp N vs) H s1:=by
 have tS:ps.length≤N.length:=by have:=congrArg List.length S.pre;rw[List.length_take] at this;lia
 obtain⟨h1,tk,rfl,hk⟩:=x.done;have UR:∀b:Addr,b∉(Bi CX P w K mg base N qual scope f cd A outer s H E).ex:=fun b z=>absurd (show b∈([]:aY) from z) (by simp)
 refine⟨⟨e0.mod,S.kind,rfl,rfl,Nat.le_refl _,fun y z c h1 h2=> ?_,fun y hy=> ?_,fun y c _ h=> ?_,fun _=>hd,Around.frames_deeper e0.frames,.inr ⟨rfl,rfl⟩,fun b z=>absurd z (UR b),e0.bs,e0.Gu,fun b _ _=>UR b,fun b z=>absurd z (UR b),e0.qV,e0.PM⟩,
  rfl,e0.bare,Un.kept hk,⟨_,x.toInCall.ns,fun i y v h1 h2 h3=> ?_⟩,fun y c h=>⟨_,x.cell y c h⟩,e0.bE.fresh (Nat.le_refl _),fun y c h=> ?_,fun p hp=>absurd (show p∈([]:aP) from hp) (by simp),e0.bE.kept hk,?_⟩
 ·exact name_of_addr x.apart (PySem.mem_of_lookup h1) (PySem.mem_of_lookup h2)
 ·have hy:scope.names.lookup y=some .cell∨scope.names.lookup y=some .free:=hy;rcases hy with hy|hy
  ·exact yV hy
  ·exact absurd rfl (S.Rj _ (PySem.mem_of_lookup hy))
 ·exact Nat.le_of_lt (x.above y c (PySem.mem_of_lookup h))
 ·have hi:i<vs.length:=by
   unfold Wp at h2;by_cases hi:i<vs.length
   ·exact hi
   ·rw[List.getElem?_append_right (by simpa using hi)] at h2;rw[List.getElem?_replicate] at h2
    split at h2<;>cases h2
  have ha:vs[i]? =some v:=by
   unfold Wp at h2;rw[List.getElem?_append_left (by simpa using hi),List.getElem?_map] at h2
   cases e:vs[i]? with
   |none=>rw[e] at h2;cases h2
   |some a=>rw[e] at h2;cases h2;rfl
  obtain⟨u,hu,rv⟩:=r.get ha
  have hp:ps[i]? =some y:=by
   rw[←S.pre,List.getElem?_take_of_lt (by lia)];exact h1
  have ndP:ps.Nodup:=by rw[←S.pre];exact S.nd.sublist (List.take_sublist _ _)
  refine⟨u,rv,?_⟩;rcases S.par y (List.mem_of_getElem? hp) with k|k
  ·exact .inl ⟨k,wG ndP hp hu k⟩
  ·obtain⟨c,e⟩:=yV (n:=s.heap.objs.size+1) k;refine .inr ⟨.inl k,c,e,?_⟩;have q:=x.cell y c e;rw[wj ndP hp hu (by show scope.names.lookup y≠_;rw[k];decide)] at q;exact q
 ·exact e0.bE.fresh (Nat.le_of_lt (x.above y c (PySem.mem_of_lookup h)))
 ·unfold Wp;show _=N.length;rw[List.length_append,List.length_map,List.length_replicate]
  lia
theorem Wk{CX:A5}{P:Program}{w:World}{K:Frag}{mg:Str→aN}{base:Heap}{k:Nat}{f:Addr}{name qual:Str}{params:Arguments}{body:List Stmt}{scope:Scope}{dV kV doc pm cJ ct oc:Value}{an od:Option Addr}
 {Qn:Array (aN)} {N ps:aO} {sp:Sp} (lk:K.lookup f=some ⟨oc,od,.func (fnOf name qual params body scope dV kV doc pm an cJ ct),Qn⟩) (JM:PySem.W.codeIn K cJ qual=true) (S:aF N ps scope)
 (len:∀vs H Q E,sp vs H Q E→vs.length=ps.length)
 (h8:∀(A:Around) (outer:List Env) (s:Shared) (H:Hp) (vs:ax) (Q:VK) (E:XK),fh k (A.deeper (envOfC qual scope s.heap.objs.size f cJ))→sp vs H Q E→
  ∃t,A2 (Bi CX P w K mg base N qual scope f cJ A outer s H E) body t∧t {nx:=fun _ H' =>Q .bC H',rt:=Q} (Wp N vs) H):
 bu P w K mg base CX (k+1) f (fnOf name qual params body scope dV kV doc pm an cJ ct) ps sp:=by
 refine⟨len,fun A outer s H args us vs Q E hr e0 hb r N8=> ?_⟩;have hl:=len _ _ _ _ N8;have KX:K.In s.heap:=e0.mod.SI.keeps fun b o e=>(e0.bs b o e).1;have lim:s.heap.NoLimit:=e0.mod.nolimit.keeps fun b o e=>(e0.bs b o e).1
 have WC:∀y∈ps.zip us,scope.names.lookup y.1=some .local∨(scope.names.lookup y.1=some .cell∧((cellsFrom (s.heap.objs.size+1) scope.names []).lookup y.1).isSome=true):=fun⟨n,v⟩ hy=>by
  rcases S.par n (List.of_mem_zip hy).1 with q|q
  ·exact .inl q
  ·exact .inr ⟨q,cellsFrom_some _ _ _ (.inl q)⟩
 refine codeAny_call_function hr.depth (KX _ _ lk) rfl S.co S.gen rfl (PySem.W.codeRec_of KX JM) (hb _ _ _ _ ?_);refine wpAny_newFunctionEnv_cells S.kind WC fun env he s1 x=> ?_;subst he;refine⟨lim.keeps x.toInCall.keep,codeAny_func ?_⟩;obtain⟨t,ht,hq⟩:=h8 A outer s H vs Q E (hr.deeper _) N8;have I:Inv (Bi CX P w K mg base N qual scope f cJ A outer s H E) [] (Wp N vs) H s1:=Ed S hr.hd e0 hl r x;refine wpAny_mono (ht [] s1 (Wp N vs) H _ I hq) (fun fl s' hs=> ?_) fun e s' hs=>hs
 have fin:∀{dC :St} {H' :Hp} {v:V} {u:Value},Inv (Bi CX P w K mg base N qual scope f cJ A outer s H E) [] dC H' s'→RelV v u→Q v H'→CE outer P w H s Q u s' :=
  fun{dC H' v u} J rv q=>⟨v,H',J.os,J.bare,J.base,J.bE,rv,q⟩
 cases fl with
 |ret u=>
  obtain⟨v,dC,H',J,rv,q⟩:=hs;exact fin J rv q
 |next=>
  obtain⟨dC,H',J,q⟩:=hs;exact fin (v:=V.bC) (u:=Value.none) J rfl q
 |brk=>
  obtain⟨_,_,_,q⟩:=hs;exact False.elim q
 |cont=>
  obtain⟨_,_,_,q⟩:=hs;exact False.elim q
section
variable{X:Cx}{x:Str}{p pos:Pos}{e:Expr}{es:b8}{t:TA}{id T:String}{r:ax→Hp→VK→Prop}
def tCB(r:ax→Hp→VK→Prop)(t:TA):TE:=fun σ H Q=>t σ H fun vs H1=>r vs H1 Q
theorem aT(hc:eZ X (.builtin id) r)(hg:Gl X x)(hm:X.mg x=none)(hv:bootBuiltins x=some (.builtin id))(ha:PA X (e::es) t)(hn:x≠ "__name__":=by decide)(LX:(x==("__debug__" :Str))=false:=by decide)
 (he:starEach (e::es) X.env=(false,eval e X.env)::starEach es X.env:=by rfl) (tS:(backTo pos (starEach es X.env)).any (·.1)=false:=by rfl):PE X (.Call (.Name x p) (e::es) [] pos) (tCB r t):=by
 intro pins s σ H Q I h;refine wpAny_Call_Name_kw (m3 I hg hm hv ?_ hn LX);exact PyProof.Rows.callWith_builtin1 (bW (ha pos pins s σ H _ I h) fun us s1 ⟨vs,H1,I1,r1,q1⟩=>hc pins s1 σ H1 vs us Q I1 r1 q1) he tS
theorem cx(hc:eZ X (.type T) r)(hg:Gl X x)(hm:X.mg x=none)(hv:bootBuiltins x=some (.type T))(ha:PA X (e::es) t)(hn:x≠ "__name__":=by decide)(LX:(x==("__debug__" :Str))=false:=by decide)
 (he:starEach (e::es) X.env=(false,eval e X.env)::starEach es X.env:=by rfl) (tS:(backTo pos (starEach es X.env)).any (·.1)=false:=by rfl):PE X (.Call (.Name x p) (e::es) [] pos) (tCB r t):=by
 intro pins s σ H Q I h;refine wpAny_Call_Name_kw (m3 I hg hm hv ?_ hn LX);exact PyProof.Rows.callWith_type1 (bW (ha pos pins s σ H _ I h) fun us s1 ⟨vs,H1,I1,r1,q1⟩=>hc pins s1 σ H1 vs us Q I1 r1 q1) he tS
end
end L2
namespace HT
open PySem PyProof.Rows
section
open PySem.SeqAt
open PySem.AutoSeq1 (wpAny_loadPart')
open PySem.MeetsSeq PySem.MeetsSeq2 PySem.MeetsSeq3
end
section
variable{prog:Program}{w:World}{A:Around}{E:Value→Shared→Prop}{s:Shared}
def za(n d:Nat):Option Int→Nat
 |none=>d
 |some v=>if v<0 then(v+(n:Int)).toNat else min v.toNat n
theorem M1(n d k:Nat):za n d (some (k:Int))=min k n:=by
 show(if(k:Int)<0 then((k:Int)+(n:Int)).toNat else min (k:Int).toNat n)=min k n;rw[if_neg (by lia),Int.toNat_natCast]
end
end HT
namespace L2
open PySem PySem.Spec PyProof.Rows
abbrev TO:=St→Hp→(Option Int→Hp→Prop)→Prop
def PO(X:Cx)(e:Option Expr)(t:TO):Prop:=
 ∀(pins:aP) (s:Shared) (σ:St) (H:Hp) (Q:Option Int→Hp→Prop),Inv X pins σ H s→t σ H Q→
  wpAny (model X.prog X.w) X.A (evalPart e X.env) (fun u s' =>∃o H',Inv X pins σ H' s'∧IsPart u o∧Q o H') X.xe s
def Mq:TO:=fun _ H Q=>Q none H
def Dp(t:TE):TO:=fun σ H Q=>t σ H fun x H1=>∃i,x= .int i∧Q (some i) H1
section
variable{X:Cx}{e:Expr}{te:TE}{lo hi:Option Expr}{tl th:TO}{pos p2:Pos}
theorem pN:PO X none Mq:=by
 intro pins s σ H Q I h;rw[evalPart_none];exact wpAny_pure ⟨none,H,I,.none,h⟩
theorem jy(h:PE X e te):PO X (some e) (Dp te):=by
 intro pins s σ H Q I hw;rw[evalPart_some];refine bW (h pins s σ H _ I hw) fun u s1 ⟨x,H1,I1,r1,q1⟩=> ?_;obtain⟨i,rfl,q⟩:=q1;obtain⟨t,rfl⟩:=r1;exact⟨some i,H1,I1,.int i t,q⟩
def R4(X:Cx)(r:V→Option Int→Option Int→Hp→VK→Prop):Prop:=
 ∀(pins:aP) (s:Shared) (σ:St) (H:Hp) (x:V) (v vl vu:Value) (lo hi:Option Int) (sl:Addr) (Q:VK),Inv X pins σ H s→RelV x v→s.heap.IsSliceOf sl vl vu .none→IsPart vl lo→IsPart vu hi→r x lo hi H Q→
  ∃T id,typeLookup (.type T) "__getitem__"=pure (some (.builtin id))∧s.TypeIs v T∧wpAny (model X.prog X.w) X.A (getItem v (.ref sl)) (EP X pins σ Q) X.xe s
theorem R4.or{r r' :V→Option Int→Option Int→Hp→VK→Prop}(h:R4 X r)(h' :R4 X r'):R4 X (fun x lo hi H Q=>r x lo hi H Q∨r' x lo hi H Q):=by
 intro pins s σ H x v vl vu lo hi sl Q I rx hs pl pu q;rcases q with q|q
 ·exact h pins s σ H x v vl vu lo hi sl Q I rx hs pl pu q
 ·exact h' pins s σ H x v vl vu lo hi sl Q I rx hs pl pu q
def tSl(r:V→Option Int→Option Int→Hp→VK→Prop)(te:TE)(tl th:TO):TE:=fun σ H Q=>te σ H fun x H1=>tl σ H1 fun l H2=>th σ H2 fun u H3=>r x l u H3 Q
theorem mC{r:V→Option Int→Option Int→Hp→VK→Prop}(hr:R4 X r)(he:PE X e te)(hl:PO X lo tl)(hu:PO X hi th):PE X (.Subscript e (.Slice lo hi none p2) pos) (tSl r te tl th):=by
 intro pins s σ H Q I h;refine Subscript_ (bW (he pins s σ H _ I h) fun v s1 ⟨x,H1,I1,r1,q1⟩=> ?_);refine wpAny_Slice (bW (hl pins s1 σ H1 _ I1 q1) fun vl s2 ⟨l,H2,I2,pl,q2⟩=>bW (hu pins s2 σ H2 _ I2 q2) fun vu s3 ⟨u,H3,I3,pu,q3⟩=> ?_);rw[evalPart_none];refine wpAny_pure ?_;have I4:Inv X pins σ H3 {s3 with heap:=s3.heap.push {cls:= .type "slice",data:= .fields #[vl,vu,.none]}}:=I3.kept (t' :=s3.toks) fun b ob q=>Heap.get?_push_of_some _ q;obtain⟨T,id,hT,ht,hg⟩:=hr pins {s3 with heap:=s3.heap.push {cls:= .type "slice",data:= .fields #[vl,vu,.none]}} σ H3 x v vl vu l u s3.heap.objs.size Q I4 r1 (Heap.IsSliceOf.new ..) pl pu q3;show wpAny (model X.prog X.w) X.A (subscriptTail e (.Slice lo hi none p2) v (.ref s3.heap.objs.size)) (EP X pins σ Q) X.xe {s3 with heap:=s3.heap.push {cls:= .type "slice",data:= .fields #[vl,vu,.none]}};exact tail_any (ops:=[.ref s3.heap.objs.size,v]) ht hT hg (by with_unfolding_all rfl)
def vS(xs:ax)(lo hi:Option Int):ax:=(xs.drop (HT.za xs.length 0 lo)).take (HT.za xs.length xs.length hi - HT.za xs.length 0 lo)
theorem AM(xs:ax)(lo hi:Option Int):(vS xs lo hi).length≤xs.length:=by
 unfold vS;rw[List.length_take,List.length_drop]
 lia
end
def J2(n:Nat)(i:Int):Option Nat:=if 0≤i then(if i<n then some i.toNat else none) else if -(n:Int)≤i then some (i+n).toNat else none
def JZ{α:Type}(xs:List α)(i:Int):Option α:=(J2 xs.length i).bind fun j=>xs[j]?
theorem DI{n:Nat}{i:Int}{j:Nat}(h:J2 n i=some j):seqIndex? i n=some j∧j<n∧ -(n:Int)≤i∧i<n:=by
 unfold J2 at h;by_cases h0:0≤i
 ·rw[if_pos h0] at h;by_cases h1:i<n
  ·rw[if_pos h1] at h;have e:i.toNat=j:=Option.some.inj h;exact⟨by rw[seqIndex_of h0 h1,e],by lia,by lia,h1⟩
  ·rw[if_neg h1] at h;cases h
 ·rw[if_neg h0] at h;by_cases h1: -(n:Int)≤i
  ·rw[if_pos h1] at h;have e:(i+n).toNat=j:=Option.some.inj h;exact⟨by rw[seqIndex_neg (by lia) h1,e],by lia,h1,by lia⟩
  ·rw[if_neg h1] at h;cases h
theorem xK{α:Type}{xs:List α}{i:Int}{v:α}(h:JZ xs i=some v):∃j,seqIndex? i xs.length=some j∧xs[j]? =some v∧j<xs.length∧ -(xs.length:Int)≤i∧i<xs.length:=by
 unfold JZ at h
 cases e:J2 xs.length i with
 |none=>rw[e] at h;cases h
 |some j=>
  rw[e] at h;obtain⟨h1,h2,h3,h4⟩:=DI e;exact⟨j,h1,h,h2,h3,h4⟩
theorem d5{α:Type}{xs:List α}{j:Nat}{v:α}(h:xs[j]? =some v):JZ xs (j:Int)=some v:=by
 have hj:j<xs.length:=(List.getElem?_eq_some_iff.mp h).1
 have e:J2 xs.length (j:Int)=some j:=by
  unfold J2;rw[if_pos (by lia),if_pos (by lia)];simp
 unfold JZ;rw[e];exact h
theorem zD{α:Type}(xs:List α)(v:α):JZ (xs++[v]) (-1)=some v:=by
 have hl:(xs++[v]).length=xs.length+1:=by simp
 have e:J2 (xs++[v]).length (-1)=some xs.length:=by
  unfold J2;rw[hl,if_neg (by decide),if_pos (by lia)]
  congr 1
  lia
 unfold JZ;rw[e];show(xs++[v])[xs.length]? =some v;simp
def KI(b:Expr):Prop:=∀o i,subscripted b false o i=operate [o,i] (getItem o i)
def Ks(X:Cx)(r:R2):Prop:=
 ∀(value slice:Expr) (pins:aP) (s:Shared) (σ:St) (H:Hp) (x y:V) (v u:Value) (Q:VK),Inv X pins σ H s→RelV x v→RelV y u→r x y H Q→
  subscripted slice false v u=operate [v,u] (getItem v u)→wpAny (model X.prog X.w) X.A (subscriptTail value slice v u) (EP X pins σ Q) X.xe s
def PY(X:Cx)(id:String)(r:V→ax→Hp→VK→Prop):Prop:=
 ∀(pins:aP) (s:Shared) (σ:St) (H:Hp) (x:V) (xs:ax) (v:Value) (us:aI) (Q:VK),Inv X pins σ H s→RelV x v→Vals xs us→r x xs H Q→
  wpAny (model X.prog X.w) X.A (call (.builtin id) (v::us)) (EP X pins σ Q) X.xe s
section
variable{X:Cx}{a b:Expr}{ta tb:TE}{pos:Pos}
theorem Ks.or{r r' :R2}(h:Ks X r)(h' :Ks X r'):Ks X (fun x y H Q=>r x y H Q∨r' x y H Q):=by
 intro value slice pins s σ H x y v u Q I rx ry q hs;rcases q with q|q
 ·exact h value slice pins s σ H x y v u Q I rx ry q hs
 ·exact h' value slice pins s σ H x y v u Q I rx ry q hs
theorem PY.or{id:String}{r r' :V→ax→Hp→VK→Prop}(h:PY X id r)(h' :PY X id r'):PY X id (fun x xs H Q=>r x xs H Q∨r' x xs H Q):=by
 intro pins s σ H x xs v us Q I rx rs q;rcases q with q|q
 ·exact h pins s σ H x xs v us Q I rx rs q
 ·exact h' pins s σ H x xs v us Q I rx rs q
theorem bb{r:R2}(hr:Ks X r)(ha:PE X a ta)(hb:PE X b tb)(hs:KI b):PE X (.Subscript a b pos) (Yi r ta tb):=by
 intro pins s σ H Q I h;exact Subscript_ (Rt ha hb I h fun v u s2 x y H2 I2 rx ry q=>hr a b pins s2 σ H2 x y v u Q I2 rx ry q (hs _ _))
def RQ(K:Frag):R2:=fun x y H Q=>∃p xs i v,x= .ref p∧y= .int i∧bD K H p xs∧JZ xs i=some v∧Q v H
def Xl(K:Frag):R2:=fun x y H Q=>∃p xs i v,x= .ref p∧y= .int i∧mr K H p xs∧JZ xs i=some v∧Q v H
def Qz:R2:=fun x y H Q=>∃z i c,x= .str z∧y= .int i∧z.length≤sizeLine∧JZ z.cps.toList i=some c∧Q (.str ⟨#[c]⟩) H
theorem bj:Ks X (RQ X.K):=by
 intro value slice pins s σ H x y v u Q I rx ry h hs;obtain⟨p,xs,i,z,rfl,rfl,hq,he,q⟩:=h;cases rx;obtain⟨t,rfl⟩:=ry;obtain⟨its,r,pl,hz⟩:=I.list hq;obtain⟨j,h1,h2,h3,h4,h5⟩:=xK he;obtain⟨w,ew,ED⟩:=r.get h2;have hl:=r.length;have hn:=rK;have fin:EP X pins σ Q w s:=⟨z,H,I,ED,q⟩;by_cases h0:0≤i
 ·have hj:i.toNat=j:=by
   rw[seqIndex_of h0 h5] at h1;exact Option.some.inj h1
  exact item_listR pl.isList h0 (by lia) (by rw[hj];simpa using ew) fin hs
 ·have hj:(i+(its.toArray.size:Int)).toNat=j:=by
   rw[seqIndex_neg (by lia) h4] at h1;rw[List.size_toArray,←hl];exact Option.some.inj h1
  exact subscriptTail_builtinR (x:=w) pl.isList.typeIs slot_list_getitem.lookup
   (wpAny_getItem_list_neg (Q:=fun r s' =>r=w∧EP X pins σ Q r s') pl.isList (by lia) (by rw[List.size_toArray]<;>lia) (by lia) (by rw[hj];simpa using ew) ⟨rfl,fin⟩) hs
theorem du:Ks X (Xl X.K):=by
 intro value slice pins s σ H x y v u Q I rx ry h hs;obtain⟨p,xs,i,z,rfl,rfl,hq,he,q⟩:=h;cases rx;obtain⟨t,rfl⟩:=ry;obtain⟨its,r,pl,hz⟩:=I.tuple hq;obtain⟨j,h1,h2,h3,h4,h5⟩:=xK he;obtain⟨w,ew,ED⟩:=r.get h2;have hl:=r.length;have hn:=rK;have fin:EP X pins σ Q w s:=⟨z,H,I,ED,q⟩
 exact subscriptTail_builtinR (x:=w) pl.typeIs slot_tuple_getitem.lookup
  (getItem_tuple (j:=j) (Q:=fun r s' =>r=w∧EP X pins σ Q r s') pl (by lia) (by lia) (by rw[List.size_toArray,←hl];exact h1) (by simpa using ew) ⟨rfl,fin⟩) hs
theorem uS:Ks X Qz:=by
 intro value slice pins s σ H x y v u Q I rx ry h hs;obtain⟨z,i,c,rfl,rfl,hz,he,q⟩:=h;obtain⟨t,rfl⟩:=rx;obtain⟨t',rfl⟩:=ry;obtain⟨j,h1,h2,h3,h4,h5⟩:=xK he;have hl:z.cps.toList.length=z.length:=by simp[Str.length]
 rw[hl] at h1 h4 h5;have hn:=rK
 exact tail_any (typeIs_str s z t) slot_str_getitem.lookup (getItem_str (c:=c) (by
  have e1:decide (i< -(2 ^ 63:Int))=false:=decide_eq_false (by lia);have e2:decide (i≥2 ^ 63)=false:=decide_eq_false (by lia);rw[e1,e2,Bool.or_false]) (by rw[h1];simpa using h2) ⟨.str ⟨#[c]⟩,H,I.tok _,⟨_,rfl⟩,q⟩) hs
theorem Ca(its:aI)(n j:Nat)(u:Value):Obj.mapSeq (·.setIfInBounds j u) {cls:= .type "list",data:= .seq its.toArray n}={cls:= .type "list",data:= .seq (its.set j u).toArray n}:=by
 simp[Obj.mapSeq]
theorem Inv.lst{pins:aP}{σ:St}{H:Hp}{s:Shared}{p:Addr}{xs:ax}(I:Inv X pins σ H s)(h:H p=some (.lst xs)):
 ∃(its:aI) (n:Nat),Vals xs its∧s.heap.get? p=some {cls:= .type "list",data:= .seq its.toArray n}∧xs.length≤sizeLine:=by
 obtain⟨z,its,n,r,e⟩:=I.bE p _ h;exact⟨its,n,r,e,z⟩
theorem Inv.RU{pins:aP}{σ:St}{H:Hp}{s:Shared}{p:Addr}{xs ys:ax}{its its' :aI}{n n' :Nat}{f:Obj→Obj}(I:Inv X pins σ H s)(h:H p=some (.lst xs))
 (ho:s.heap.get? p=some {cls:= .type "list",data:= .seq its.toArray n}) (hf:f {cls:= .type "list",data:= .seq its.toArray n}={cls:= .type "list",data:= .seq its'.toArray n'}) (r:Vals ys its') (hz:ys.length≤sizeLine) (t:Nat):
 Inv X pins σ (upd H p (.lst ys)) {s with heap:=s.heap.update p f,toks:=t}:=by
 have e:(s.heap.update p f).get? p=some {cls:= .type "list",data:= .seq its'.toArray n'}:=by
  rw[Heap.get?_update_self f ho (by rw[hf]<;>rfl),hf]
 refine I.write (x:=p) (e:=p) (by rw[h];trivial) (.inl rfl) (fun b u hb q=>(Heap.get?_update_other _ _ (Ne.symm hb)).trans q) ⟨_,e⟩ ?_;exact⟨hz,its',n',r,e⟩
def Uv:V→V→V→Hp→(Hp→Prop)→Prop:=fun o i v H Q=>∃p xs k j,o= .ref p∧i= .int k∧H p=some (.lst xs)∧J2 xs.length k=some j∧Q (upd H p (.lst (xs.set j v)))
theorem wS:Xu X Uv:=by
 intro pins s σ H o i v ov iv u Q I ro ri rv h;obtain⟨p,xs,k,j,rfl,rfl,hp,hj,q⟩:=h;cases ro;obtain⟨t,rfl⟩:=ri;obtain⟨its,n,r,ho,hz⟩:=I.lst hp;obtain⟨h1,h2,h3,h4⟩:=DI hj;have hl:=r.length;have hn:=rK
 have I' :Inv X pins σ (upd H p (.lst (xs.set j v))) {s with heap:=s.heap.update p (Obj.mapSeq (·.setIfInBounds j u))}:=
  I.RU hp ho (Ca its n j u) (r.set rv j) (by rw[List.length_set];exact hz) s.toks
 by_cases h0:0≤k
 ·have hk:k.toNat=j:=by
   rw[seqIndex_of h0 h4] at h1;exact Option.some.inj h1
  exact PySem.W.ki_setAt ho h0 (by lia) (by rw[List.size_toArray,←hl];exact h4) (by rw[hk];exact⟨_,I',q⟩)
 ·have hk:(k+(its.toArray.size:Int)).toNat=j:=by
   rw[seqIndex_neg (by lia) h3] at h1;rw[List.size_toArray,←hl];exact Option.some.inj h1
  exact PySem.W.ki_setBack ho (by lia) (by rw[List.size_toArray,←hl];exact h3) (by lia) (by rw[hk];exact⟨_,I',q⟩)
theorem yG(lo hi:Option Int)(n:Nat):(sliceBounds lo hi none n).1=((HT.za n 0 lo:Nat):Int)∧(sliceBounds lo hi none n).2.1=((HT.za n n hi:Nat):Int)∧(sliceBounds lo hi none n).2.2=1:=by
 refine⟨?_,?_,rfl⟩
 ·cases lo with
  |none=>simp[sliceBounds,HT.za]
  |some i=>
   simp only[sliceBounds,HT.za,Option.getD_none,show(1:Int)>0 by decide,if_true];by_cases h:i<0
   ·simp only[h,if_true]<;>lia
   ·simp only[h,if_false]<;>lia
 ·cases hi with
  |none=>simp[sliceBounds,HT.za]
  |some i=>
   simp only[sliceBounds,HT.za,Option.getD_none,show(1:Int)>0 by decide,if_true];by_cases h:i<0
   ·simp only[h,if_true]<;>lia
   ·simp only[h,if_false]<;>lia
theorem vN(its:aI)(lo hi:Option Int):slicePick its.toArray lo hi none=((its.drop (HT.za its.length 0 lo)).take (HT.za its.length its.length hi - HT.za its.length 0 lo)).toArray:=by
 obtain⟨h1,h2,h3⟩:=yG lo hi its.toArray.size;unfold slicePick;rw[h1,h2,h3];simp only[sliceRange_one,pick_run,List.size_toArray]<;>rfl
def ahu(K:Frag):V→Option Int→Option Int→Hp→VK→Prop:=fun x lo hi H Q=>∃a xs,x= .ref a∧bD K H a xs∧∀p,H p=none→Q (.ref p) (upd H p (.lst (vS xs lo hi)))
theorem Ma:R4 X (ahu X.K):=by
 intro pins s σ H x v vl vu lo hi sl Q I rx hs pl pu h;obtain⟨a,xs,rfl,hx,q⟩:=h;cases rx;obtain⟨its,r,ht,hz⟩:=I.list hx;have hlen:=r.length;refine⟨"list",_,slot_list_getitem.lookup,ht.isList.typeIs,?_⟩;refine wpAny_getItem_list_slice ht.isList hs pl pu .none (by simp) ?_ (by rw[List.size_toArray]<;>lia);rw[vN,←hlen];refine⟨.ref s.heap.objs.size,_,I.laid (t' :=s.toks) (o:= .lst (vS xs lo hi)) (fun b ob q=>Heap.get?_push_of_some _ q) (Nat.le_refl _) ?_,rfl,q _ (I.bE.fresh (Nat.le_refl _))⟩;exact⟨Nat.le_trans (AM xs lo hi) hz,_,0,(r.drop (HT.za xs.length 0 lo)).take (HT.za xs.length xs.length hi - HT.za xs.length 0 lo),Heap.get?_push_size _ rfl⟩
def ka:V→Bool
 | .bC=>true
 | .bl _=>true
 | .int _=>true
 | .str _=>true
 |_=>false
def Bw:V→V→Bool
 | .bC,.bC=>true
 | .bl a,.bl b=>a==b
 | .bl a,.int b=>(if a then 1 else 0)==b
 | .int a,.bl b=>a==(if b then 1 else 0)
 | .int a,.int b=>a==b
 | .str a,.str b=>a==b
 |_,_=>false
theorem Hu{A:Around}{s:Shared}{y x:V}{u v:Value}(ry:RelV y u)(rx:RelV x v)(fy:ka y=true)(fx:ka x=true):SeqAt.EqAt A s u v (Bw y x):=by
 cases y with
 |bC=>
  cases ry
  cases x with
  |bC=>cases rx;exact SeqAt.EqAt.same _
  |bl b=>cases rx;exact SeqAt.EqAt.none_bool b
  |int b=>obtain⟨t,rfl⟩:=rx;exact SeqAt.EqAt.none_int b t
  |str b=>obtain⟨t,rfl⟩:=rx;exact SeqAt.EqAt.none_str b t
  |_=>exact absurd (show false=true from fx) Bool.false_ne_true
 |bl a=>
  cases ry
  cases x with
  |bC=>cases rx;exact SeqAt.EqAt.bool_none a
  |bl b=>cases rx;exact SeqAt.EqAt.bool_bool a b
  |int b=>obtain⟨t,rfl⟩:=rx;exact SeqAt.EqAt.bool_int a b t
  |str b=>obtain⟨t,rfl⟩:=rx;exact SeqAt.EqAt.bool_str a b t
  |_=>exact absurd (show false=true from fx) Bool.false_ne_true
 |int a=>
  obtain⟨t',rfl⟩:=ry
  cases x with
  |bC=>cases rx;exact SeqAt.EqAt.int_none a t'
  |bl b=>cases rx;exact SeqAt.EqAt.int_bool a t' b
  |int b=>obtain⟨t,rfl⟩:=rx;exact SeqAt.EqAt.int_int a t' b t
  |str b=>obtain⟨t,rfl⟩:=rx;exact SeqAt.EqAt.int_str a t' b t
  |_=>exact absurd (show false=true from fx) Bool.false_ne_true
 |str a=>
  obtain⟨t',rfl⟩:=ry
  cases x with
  |bC=>cases rx;exact SeqAt.EqAt.str_none a t'
  |bl b=>cases rx;exact SeqAt.EqAt.str_bool a t' b
  |int b=>obtain⟨t,rfl⟩:=rx;exact SeqAt.EqAt.str_int a t' b t
  |str b=>obtain⟨t,rfl⟩:=rx;exact SeqAt.EqAt.str_str a t' b t
  |_=>exact absurd (show false=true from fx) Bool.false_ne_true
 |_=>exact absurd (show false=true from fy) Bool.false_ne_true
def BU(x:V)(u:Value):Bool:=match u with
 | .none=>Bw .bC x
 | .bool b=>Bw (.bl b) x
 | .int i _=>Bw (.int i) x
 | .str z _=>Bw (.str z) x
 |_=>false
theorem Je{x y:V}{u:Value}(r:RelV y u)(f:ka y=true):BU x u=Bw y x:=by
 cases y with
 |bC=>cases r;rfl
 |bl b=>cases r;rfl
 |int i=>obtain⟨t,rfl⟩:=r;rfl
 |str z=>obtain⟨t,rfl⟩:=r;rfl
 |_=>exact absurd (show false=true from f) Bool.false_ne_true
theorem qp{x:V}:∀{xs:ax} {us:aI},Vals xs us→xs.all ka=true→us.any (BU x)=xs.any fun y=>Bw y x
 |_,_,.nil,_=>rfl
 |y::xs,u::us,.cons r t,f=>by
  rw[List.all_cons,Bool.and_eq_true] at f;rw[List.any_cons,List.any_cons,Je r f.1,qp t f.2]
theorem nc{A:Around}{s:Shared}{x:V}{v:Value}(rx:RelV x v)(fx:ka x=true):∀{xs:ax} {us:aI},Vals xs us→xs.all ka=true→∀u∈us,SeqAt.EqAt A s u v (BU x u)
 |_,_,.nil,_=>fun u hu=>by cases hu
 |y::xs,u::us,.cons r t,f=>fun u' hu=>by
  rw[List.all_cons,Bool.and_eq_true] at f;rcases List.mem_cons.mp hu with rfl|hu
  ·rw[Je r f.1];exact Hu r rx f.1 fx
  ·exact nc rx fx t f.2 u' hu
def EC(x:V)(xs:ax):Bool:=xs.any fun y=>Bw y x
def rIn(K:Frag)(neg:Bool):R2:=fun x y H Q=>∃p xs,y= .ref p∧(bD K H p xs∨mr K H p xs)∧ka x=true∧xs.all ka=true∧Q (.bl (if neg then !EC x xs else EC x xs)) H
theorem wq:mh X (compareOp .In) (rIn X.K false):=by
 intro pins s σ H x y v u Q I rx ry h;obtain⟨p,xs,rfl,hq,fx,fs,q⟩:=h;cases ry;rcases hq with hq|hq
 ·obtain⟨its,r,pl,hz⟩:=I.list hq;refine SeqAt.in_listAt (BU x) pl.isList (fun w hw=>nc rx fx r fs w (by simpa using hw)) ⟨.bl _,H,I,rfl,?_⟩;rw[show its.toArray.any (BU x)=its.any (BU x) by simp,qp r fs];exact q
 ·obtain⟨its,r,pl,hz⟩:=I.tuple hq;refine SeqAt.in_tupleAt (BU x) pl (fun w hw=>nc rx fx r fs w (by simpa using hw)) ⟨.bl _,H,I,rfl,?_⟩;rw[show its.toArray.any (BU x)=its.any (BU x) by simp,qp r fs];exact q
theorem xX:mh X (compareOp .NotIn) (rIn X.K true):=by
 intro pins s σ H x y v u Q I rx ry h;obtain⟨p,xs,rfl,hq,fx,fs,q⟩:=h;cases ry;rcases hq with hq|hq
 ·obtain⟨its,r,pl,hz⟩:=I.list hq;refine SeqAt.notIn_listAt (BU x) pl.isList (fun w hw=>nc rx fx r fs w (by simpa using hw)) ⟨.bl _,H,I,rfl,?_⟩;rw[show its.toArray.any (BU x)=its.any (BU x) by simp,qp r fs];exact q
 ·obtain⟨its,r,pl,hz⟩:=I.tuple hq;refine SeqAt.notIn_tupleAt (BU x) pl (fun w hw=>nc rx fx r fs w (by simpa using hw)) ⟨.bl _,H,I,rfl,?_⟩;rw[show its.toArray.any (BU x)=its.any (BU x) by simp,qp r fs];exact q
theorem bp:eZ X (.builtin "len") (fun xs H Q=>∃p ys,xs=[.ref p]∧(bD X.K H p ys∨mr X.K H p ys)∧Q (.int ys.length) H):=by
 intro pins s σ H xs us Q I r h;obtain⟨p,ys,rfl,hq,q⟩:=h;obtain⟨u,rfl,rx⟩:=wT r;cases rx;have hn:=rK;rcases hq with hq|hq
 ·obtain⟨its,r',pl,hz⟩:=I.list hq;have hlen:=r'.length;exact Calls.call_len_list pl.isList (by simp only[List.size_toArray]<;>lia) ⟨.int ys.length,H,I.tok _,⟨s.toks+1,by rw[List.size_toArray,hlen]⟩,q⟩
 ·obtain⟨its,r',pl,hz⟩:=I.tuple hq;have hlen:=r'.length;exact len_tuple pl (by simp only[List.size_toArray]<;>lia) ⟨.int ys.length,H,I.tok _,⟨s.toks+1,by rw[List.size_toArray,hlen]⟩,q⟩
theorem qh:eZ X (.builtin "len") (fun xs H Q=>∃z,xs=[.str z]∧z.length≤sizeLine∧Q (.int z.length) H):=by
 intro pins s σ H xs us Q I r h;obtain⟨z,rfl,hz,q⟩:=h;obtain⟨u,rfl,t,rfl⟩:=wT r;have hn:=rK;exact len_str (by lia) ⟨.int z.length,H,I.tok _,⟨_,rfl⟩,q⟩
theorem eZ.or{f:Value}{r r' :ax→Hp→VK→Prop}(h:eZ X f r)(h' :eZ X f r'):eZ X f (fun xs H Q=>r xs H Q∨r' xs H Q):=by
 intro pins s σ H xs us Q I rs q;rcases q with q|q
 ·exact h pins s σ H xs us Q I rs q
 ·exact h' pins s σ H xs us Q I rs q
theorem yr:eZ X (.type "list") (fun xs H Q=>∃p ys,xs=[.ref p]∧(bD X.K H p ys∨mr X.K H p ys)∧∀l,H l=none→Q (.ref l) (upd H l (.lst ys))):=by
 intro pins s σ H xs us Q I r h;obtain⟨p,ys,rfl,hq,q⟩:=h;obtain⟨u,rfl,rx⟩:=wT r;cases rx
 have fin:∀(its:aI),Vals ys its→ys.length≤sizeLine→∀(h' :Heap) (c' :Nat),(∀b o',s.heap.get? b=some o'→h'.get? b=some o')→
  h'.get? s.heap.objs.size=some {cls:= .type "list",dict:=none,data:= .seq its.toArray c',slots:= #[]}→EP X pins σ Q (.ref s.heap.objs.size) {s with heap:=h'}:=fun its r' hz h' c' kp e=>
  ⟨.ref s.heap.objs.size,_,I.laid (t' :=s.toks) kp (Nat.le_refl _) (show bw X.prog X.w _ h' _ (.lst ys) from⟨hz,its,c',r',e⟩),rfl,q _ (I.bE.fresh (Nat.le_refl _))⟩
 rcases hq with hq|hq
 ·obtain⟨its,r',pl,hz⟩:=I.list hq;have hlen:=r'.length;obtain⟨o,ho,hc,n,hd⟩:=pl.isList;exact call_list_seq p (.inl rfl) ho hc hd (fun h' c' kp e=>fin its r' hz h' c' kp e) (by simp only[List.size_toArray]<;>lia)
 ·obtain⟨its,r',pl,hz⟩:=I.tuple hq;have hlen:=r'.length;obtain⟨o,ho,hc,n,hd⟩:=pl;exact call_list_seq p (.inr rfl) ho hc hd (fun h' c' kp e=>fin its r' hz h' c' kp e) (by simp only[List.size_toArray]<;>lia)
theorem eV:eZ X (.type "tuple") (fun xs H Q=>∃p ys,xs=[.ref p]∧((bD X.K H p ys∧∀l,H l=none→Q (.ref l) (upd H l (.tup ys)))∨(mr X.K H p ys∧Q (.ref p) H))):=by
 intro pins s σ H xs us Q I r h;obtain⟨p,ys,rfl,h⟩:=h;obtain⟨u,rfl,rx⟩:=wT r;cases rx;rcases h with⟨hq,q⟩|⟨hq,q⟩
 ·obtain⟨its,r',pl,hz⟩:=I.list hq;have hlen:=r'.length;refine call_tuple_list pl.isList (fun h' kp=> ?_) (by simp only[List.size_toArray]<;>lia);have I1:Inv X pins σ H {s with heap:=h'}:=I.kept (t' :=s.toks) kp
  have I2:Inv X pins σ (upd H h'.objs.size (.tup ys)) {s with heap:=h'.push {cls:= .type "tuple",data:= .seq its.toArray}}:=
   I1.laid (t' :=s.toks) (fun b o e=>Heap.get?_push_of_some _ e) (Nat.le_refl _) (show bw X.prog X.w _ _ _ (.tup ys) from⟨hz,its,r',IsTup.new _ _⟩)
  exact⟨.ref h'.objs.size,_,I2,rfl,q _ (I1.bE.fresh (Nat.le_refl _))⟩
 ·obtain⟨its,r',pl,hz⟩:=I.tuple hq;exact call_tuple_same pl ⟨.ref p,H,I,rfl,q⟩
def tyV(K:Frag)(T:String)(x:V)(H:Hp):Prop:=match x with
 | .str _=>T="str"
 | .int _=>T="int"
 | .ref p=>(T="list" ∧∃xs,bD K H p xs)∨(T="tuple" ∧∃o,K.lookup p=some o∧o.cls= .type "tuple" ∧o.dict=none)∨
  (T="dict" ∧((∃kvs,H p=some (.dK kvs))∨∃kvs,H p=some (.dT kvs)))∨(T="set" ∧∃S n,H p=some (.set S n))
 |_=>False
theorem GS{pins:aP}{σ:St}{H:Hp}{s:Shared}{T:String}{x:V}{v:Value}(I:Inv X pins σ H s)(r:RelV x v)(ty:tyV X.K T x H):
 s.TypeIs v T∧∀a,v= .ref a→∃ob,s.heap.get? a=some ob∧ob.dict=none:=by
 cases x with
 |str z=>
  obtain⟨t,rfl⟩:=r;cases(show T="str" from ty);exact⟨typeIs_str s z t,fun _ e=>nomatch e⟩
 |int i=>
  obtain⟨t,rfl⟩:=r;cases(show T="int" from ty);exact⟨typeIs_int s i t,fun _ e=>nomatch e⟩
 |ref p=>
  cases r;rcases ty with⟨rfl,xs,hq⟩|⟨rfl,o,hk,hc,hd⟩|⟨rfl,hk⟩|⟨rfl,S,n,hk⟩
  ·obtain⟨its,_,pl,_⟩:=I.list hq;refine⟨pl.isList.typeIs,fun a e=> ?_⟩;cases e;obtain⟨o,n,e,c,hd,_⟩:=pl;exact⟨o,e,hd⟩
  ·refine⟨⟨o,I.qI p o hk,hc⟩,fun a e=> ?_⟩;cases e;exact⟨o,I.qI _ o hk,hd⟩
  ·have z:∃o,s.heap.get? p=some o∧o.ExactDict:=by
    rcases hk with⟨kvs,hk⟩|⟨kvs,hk⟩
    ·obtain⟨_,_,_,_,o,_,_,e,ex,_⟩:=I.bE p _ hk;exact⟨o,e,ex⟩
    ·obtain⟨_,_,_,_,o,_,_,e,ex,_⟩:=I.bE p _ hk;exact⟨o,e,ex⟩
   obtain⟨o,e,ex⟩:=z;refine⟨⟨o,e,ex.1⟩,fun a e2=> ?_⟩;cases e2;exact⟨o,e,ex.2.1⟩
  ·obtain⟨o,_,_,_,e,ex,_⟩:=I.bE p _ hk;refine⟨⟨o,e,ex.1⟩,fun a e2=> ?_⟩;cases e2;exact⟨o,e,ex.2.1⟩
 |_=>exact False.elim ty
def ahO(K:Frag)(T:String)(r:V→ax→Hp→VK→Prop)(to:TE):TE:=fun σ H Q=>to σ H fun x H1=>tyV K T x H1∧r x [] H1 Q
def tBM(K:Frag)(T:String)(r:V→ax→Hp→VK→Prop)(to:TE)(t:TA):TE:=fun σ H Q=>to σ H fun x H1=>tyV K T x H1∧t σ H1 fun xs H2=>r x xs H2 Q
variable{o e:Expr}{es:b8}{to:TE}{t:TA}{name:Str}{apos iJ:Pos}{T id:String}{r:V→ax→Hp→VK→Prop}
theorem oT(pa:PlainAttrs T)(slot:Slot T name id)(Y6:typeOf (.builtin id)=pure (.type "method_descriptor"))(hm:PY X id r)(ho:PE X o to)
 (G6:attributeBase o name X.env (eval o X.env)=eval o X.env:=by rfl) (Jg:(apos.endLine==iJ.line)=true:=by rfl):PE X (.Call (.Attribute o name apos) [] [] iJ) (ahO X.K T r to):=by
 intro pins s σ H Q I h;refine wpAny_Call_method0_late G6 Jg (bW (ho pins s σ H _ I h) fun v s1 ⟨x,H1,I1,r1,ty,q1⟩=> ?_);obtain⟨h1,h2⟩:=GS I1 r1 ty;exact⟨T,id,pa,slot,Y6,h1,h2,Calls.callWith_builtin rfl (PySem.evalArgs_none (hm pins s1 σ H1 x [] v [] Q I1 r1 .nil q1))⟩
theorem iq(pa:PlainAttrs T)(slot:Slot T name id)(Y6:typeOf (.builtin id)=pure (.type "method_descriptor"))(hm:PY X id r)(ho:PE X o to)(ha:PA X (e::es) t)
 (G6:attributeBase o name X.env (eval o X.env)=eval o X.env:=by rfl)
 (agj:((backTo iJ (starEach (e::es) X.env)).all (fun x=> !x.1)&&(backToKw iJ (keywordEach [] X.env)).all (fun x=>x.1.isSome)
  &&decide ((e::es).length+([]:List Keyword).length+(if([]:List Keyword).isEmpty then 0 else 1)<30))=true:=by rfl)
 (Jg:(apos.endLine==iJ.line)=true:=by rfl) (hs:starEach (e::es) X.env=(false,eval e X.env)::starEach es X.env:=by rfl) (Sb:(backTo iJ (starEach es X.env)).any (·.1)=false:=by rfl):
 PE X (.Call (.Attribute o name apos) (e::es) [] iJ) (tBM X.K T r to t):=by
 intro pins s σ H Q I h;refine wpAny_Call_method_late G6 agj Jg rfl (bW (ho pins s σ H _ I h) fun v s1 ⟨x,H1,I1,r1,ty,q1⟩=> ?_);obtain⟨h1,h2⟩:=GS I1 r1 ty;refine⟨T,id,pa,slot,Y6,h1,h2,?_⟩;have hA:=ha iJ pins s1 σ H1 _ I1 q1;rw[hs] at hA ⊢;refine Calls.callWith_builtin (by show(false||(backTo iJ (starEach es X.env)).any (·.1))=false;rw[Sb]<;>rfl) (Calls.evalArgs_plain ?_);exact bW hA fun us s2 ⟨vs,H2,I2,r2,q2⟩=>hm pins s2 σ H2 x vs v us Q I2 r1 r2 q2
end
def SU(X:Cx)(id:String)(r:V→ax→Hp→VK→Prop):Prop:=
 ∀(pins:aP) (s:Shared) (σ:St) (H:Hp) (x:V) (xs:ax) (v:Value) (us:aI) (Q:VK),Inv X pins σ H s→RelV x v→Vals xs us→r x xs H Q→
  wpAny (model X.prog X.w) X.A (call (.builtin id) (v::us)) (EP X pins σ Q) X.xe s
theorem Vals.one:∀{x:V} {us:aI},Vals [x] us→∃u,us=[u]∧RelV x u
 |_,_,.cons r .nil=>⟨_,rfl,r⟩
theorem Vals.two:∀{x y:V} {us:aI},Vals [x,y] us→∃u v,us=[u,v]∧RelV x u∧RelV y v
 |_,_,_,.cons r (.cons q .nil)=>⟨_,_,rfl,r,q⟩
theorem Vals.zero:∀{us:aI},Vals [] us→us=[]
 |_,.nil=>rfl
theorem Vals.dropLast{xs:ax}{us:aI}(h:Vals xs us):Vals xs.dropLast us.dropLast:=by
 induction h with
 |nil=>exact .nil
 |cons r t ih=>
  cases t with
  |nil=>exact .nil
  |cons q t' =>exact .cons r ih
theorem Vals.eraseIdx:∀{xs:ax} {us:aI} (i:Nat),Vals xs us→Vals (xs.eraseIdx i) (us.eraseIdx i)
 |_,_,_,.nil=> .nil
 |_,_,0,.cons _ t=>t
 |_,_,i+1,.cons r t=> .cons r (Vals.eraseIdx i t)
theorem Vals.reverse{xs:ax}{us:aI}(h:Vals xs us):Vals xs.reverse us.reverse:=by
 induction h with
 |nil=>exact .nil
 |cons r t ih=>rw[List.reverse_cons,List.reverse_cons];exact Vals.append ih (.cons r .nil)
theorem Vals.rep{xs:ax}{us:aI}(h:Vals xs us):∀k:Nat,Vals (List.replicate k xs).flatten (List.replicate k us).flatten
 |0=> .nil
 |k+1=>by
  rw[List.replicate_succ,List.replicate_succ,List.flatten_cons,List.flatten_cons];exact Vals.append h (Vals.rep h k)
theorem BC{α:Type}(l:List α):l.eraseIdx (l.length - 1)=l.dropLast:=by
 induction l with
 |nil=>rfl
 |cons a r ih=>
  cases r with
  |nil=>rfl
  |cons b r=>
   have e:(a::b::r).length - 1=((b::r).length - 1)+1:=by
    have h1:(a::b::r).length=r.length+2:=rfl;have h2:(b::r).length=r.length+1:=rfl
    lia
   rw[e,List.eraseIdx_cons_succ,ih]
   all_goals rfl
theorem XV(its:aI):∀(k:Nat) (acc:aI),
 List.foldl (fun x1 x2=>x1++x2) acc.toArray (List.replicate k its.toArray)=(acc++(List.replicate k its).flatten).toArray
 |0,acc=>by simp
 |k+1,acc=>by
  have e:acc.toArray++its.toArray=(acc++its).toArray:=by simp
  have e2:(acc++its)++(List.replicate k its).flatten=acc++(List.replicate (k+1) its).flatten:=by
   rw[List.replicate_succ,List.flatten_cons,List.append_assoc]
  rw[←e2,←XV its k (acc++its),←e,List.replicate_succ,List.foldl_cons]
section
variable{X:Cx}{pins:aP}{σ:St}{H:Hp}{s:Shared}{l b:Addr}{xs ys zs:ax}
theorem Inv.Mi{its its' :aI}{n:Nat}{f:Array Value→Array Value}{t' :Nat}(I:Inv X pins σ H s)(hH:H l=some (.lst xs))
 (e:s.heap.get? l=some {cls:= .type "list",data:= .seq its.toArray n}) (hf:f its.toArray=its'.toArray) (hv:Vals ys its') (hz:ys.length≤sizeLine):
 Inv X pins σ (upd H l (.lst ys)) {s with heap:=s.heap.update l (Obj.mapSeq f),toks:=t'}:=by
 have q:=PySem.IsL.update e f;rw[hf] at q;refine I.write (x:=l) (e:=l) (by rw[hH];exact trivial) (.inl rfl) (fun b' u hb hu=>(Heap.get?_update_other s.heap (Obj.mapSeq f) (Ne.symm hb)).trans hu) ⟨_,q⟩ ?_;exact⟨hz,its',_,hv,q⟩
theorem Inv.Xk{its:aI}{t' :Nat}(I:Inv X pins σ H s)(hv:Vals ys its)(hz:ys.length≤sizeLine):
 Inv X pins σ (upd H s.heap.objs.size (.lst ys)) {s with heap:=s.heap.push {cls:= .type "list",data:= .seq its.toArray},toks:=t'}:=
 I.laid (fun _ _ q=>Heap.get?_push_of_some _ q) (Nat.le_refl _) ⟨hz,its,0,hv,Heap.get?_push_size _ rfl⟩
theorem Inv.fresh(I:Inv X pins σ H s):H s.heap.objs.size=none:=I.bE.fresh (Nat.le_refl _)
theorem Inv.Cc(I:Inv X pins σ H s)(hH:H l=some (.lst xs)):xs.length≤sizeLine∧∃(its:aI) (n:Nat),Vals xs its∧xs.length=its.length∧s.heap.get? l=some {cls:= .type "list",data:= .seq its.toArray n}:=by
 obtain⟨z,its,n,r,e⟩:=I.bE l _ hH;exact⟨z,its,n,r,r.length,e⟩
theorem zN{n:Nat}(h:n≤sizeLine):Builtin.List.listTooLong n=false:=by
 unfold Builtin.List.listTooLong;exact decide_eq_false (by lia)
end
section
variable{X:Cx}
def LM:V→ax→Hp→VK→Prop:=fun x vs H Q=>∃l xs y,x= .ref l∧vs=[y]∧H l=some (.lst xs)∧xs.length<sizeLine∧Q .bC (upd H l (.lst (xs++[y])))
theorem cv:SU X "list.append" LM:=by
 intro pins s σ H x vs v us Q I rx rv h;obtain⟨l,xs,y,rfl,rfl,hH,hz,q⟩:=h;cases rx;obtain⟨u,rfl,ru⟩:=rv.one;obtain⟨z,its,n,r,hl,e⟩:=I.Cc hH;refine call_meets F.slot_list_append ⟨_,e,rfl⟩ F.entry_list_append (F.args_list_append_2 _ _) (PySem.list_append l its.toArray n u (by rw[List.size_toArray];lia)) ⟨e,?_⟩;refine⟨.bC,_,I.Mi (its' :=its++[u]) hH e (by simp) (r.append (.cons ru .nil)) ?_,rfl,q⟩;rw[List.length_append,List.length_singleton]
 lia
def KH:V→ax→Hp→VK→Prop:=fun x vs H Q=>∃l b xs zs,x= .ref l∧vs=[.ref b]∧H l=some (.lst xs)∧H b=some (.lst zs)∧xs.length+zs.length≤sizeLine∧Q .bC (upd H l (.lst (xs++zs)))
theorem sd:SU X "list.extend" KH:=by
 intro pins s σ H x vs v us Q I rx rv h;obtain⟨l,b,xs,zs,rfl,rfl,hH,hB,hz,q⟩:=h;cases rx;obtain⟨u,rfl,ru⟩:=rv.one;cases ru;obtain⟨z,its,n,r,hl,e⟩:=I.Cc hH;obtain⟨z2,BX,n2,r2,vi,e2⟩:=I.Cc hB;have hsz:its.toArray.size+BX.toArray.size≤sizeLine:=by rw[List.size_toArray,List.size_toArray];lia
 have Jk:¬(!its.toArray.isEmpty&&Builtin.List.listTooLong (its.toArray.size+BX.toArray.size))=true:=by
  rw[zN hsz,Bool.and_false];exact Bool.false_ne_true
 refine call_meets F.slot_list_extend ⟨_,e,rfl⟩ F.entry_list_extend (F.args_list_extend_2 _ _)
  (AutoSeq1.list_extend_list_list_0 l its.toArray n b BX.toArray n2 Jk (by rw[List.size_toArray];lia) (by lia)) ⟨e,e2,?_⟩
 refine⟨.bC,_,I.Mi (its' :=its++BX) hH e (by simp) (r.append r2) ?_,rfl,q⟩;rw[List.length_append]
 lia
def agb:V→ax→Hp→VK→Prop:=fun x vs H Q=>∃l xs y,x= .ref l∧vs=[]∧H l=some (.lst xs)∧xs[xs.length - 1]? =some y∧Q y (upd H l (.lst xs.dropLast))
theorem ahe:SU X "list.pop" agb:=by
 intro pins s σ H x vs v us Q I rx rv h;obtain⟨l,xs,y,rfl,rfl,hH,hy,q⟩:=h;cases rx;have Ro:=rv.zero;subst Ro;obtain⟨z,its,n,r,hl,e⟩:=I.Cc hH;obtain⟨u,hu,ru⟩:=r.get hy
 have hy' :its.toArray[its.toArray.size - 1]? =some u:=by
  show its.toArray[its.length - 1]? =some u;rw[←Array.getElem?_toList,←hl];exact hu
 refine call_meets F.slot_list_pop ⟨_,e,rfl⟩ F.entry_list_pop (F.args_list_pop_1 _) (MeetsSeq.list_pop_last l its.toArray n u hy' (by rw[List.size_toArray];lia)) ⟨e,?_⟩;refine⟨y,_,I.Mi (its' :=its.dropLast) hH e ?_ r.dropLast ?_,ru,q⟩
 ·show its.toArray.eraseIdxIfInBounds (its.toArray.size - 1)=its.dropLast.toArray;rw[List.size_toArray,List.eraseIdxIfInBounds_toArray,BC]
 ·rw[List.length_dropLast]
  lia
def Hi:V→ax→Hp→VK→Prop:=fun x vs H Q=>∃l xs,x= .ref l∧vs=[]∧H l=some (.lst xs)∧Q .bC (upd H l (.lst xs.reverse))
theorem Bd:SU X "list.reverse" Hi:=by
 intro pins s σ H x vs v us Q I rx rv h;obtain⟨l,xs,rfl,rfl,hH,q⟩:=h;cases rx;have Ro:=rv.zero;subst Ro;obtain⟨z,its,n,r,hl,e⟩:=I.Cc hH;refine call_meets F.slot_list_reverse ⟨_,e,rfl⟩ F.entry_list_reverse (F.args_list_reverse_1 _) (AutoSeq1.list_reverse_list_0 l its.toArray n (by rw[List.size_toArray];lia)) ⟨e,?_⟩;refine⟨.bC,_,I.Mi (its' :=its.reverse) hH e (by simp) r.reverse ?_,rfl,q⟩;rw[List.length_reverse]
 lia
def agS:R2:=fun x y H Q=>∃l k xs,x= .ref l∧y= .int k∧H l=some (.lst xs)∧ -(2 ^ 63)≤k∧k<2 ^ 63∧xs.length*k.toNat≤sizeLine∧
 ∀p,H p=none→Q (.ref p) (upd H p (.lst (List.replicate k.toNat xs).flatten))
theorem jah{α:Type}(xs:List α)(k:Nat):(List.replicate k xs).flatten.length=k*xs.length:=by
 induction k with
 |zero=>simp
 |succ k ih=>rw[List.replicate_succ,List.flatten_cons,List.length_append,ih,Nat.succ_mul,Nat.add_comm]
theorem Gd:mh X (binaryOp .Mult) agS:=by
 intro pins s σ H x y v u Q I rx ry h;obtain⟨l,k,xs,rfl,rfl,hH,h1,h2,hz,q⟩:=h;cases rx;obtain⟨t,rfl⟩:=ry;obtain⟨z,its,n,r,hl,e⟩:=I.Cc hH;have hlen:its.toArray.size*k.toNat≤sizeLine:=by rw[List.size_toArray,←hl];exact hz
 have agG:¬its.toArray.size*k.toNat>(2 ^ 63 - 1) / 8:=by
  have:(sizeLine:Nat)≤(2 ^ 63 - 1) / 8:=by decide
  lia
 have afG:¬(!Builtin.List.listFitsIndex k)=true:=by
  rw[fitsIndex_both h1 h2];exact Bool.false_ne_true
 have Jk:¬Builtin.List.listTooLong (its.toArray.size*k.toNat)=true:=by
  rw[zN hlen];exact Bool.false_ne_true
 have G5:List.foldl (fun x1 x2=>x1++x2) #[] (List.replicate (if its.toArray.isEmpty=true then 0 else k.toNat) its.toArray)=(List.replicate k.toNat its).flatten.toArray:=by
  have f0:∀m:Nat,List.foldl (fun x1 x2=>x1++x2) #[] (List.replicate m its.toArray)=(List.replicate m its).flatten.toArray:=fun m=>by
   have:=XV its m [];rw[List.nil_append] at this;exact this
  rw[f0]
  cases its with
  |nil=>simp
  |cons a r' =>rw[if_neg (by simp)]
 refine wpAny_binaryOp_repeat_ref (T:="list") (U:="int") (by decide) ⟨_,e,rfl⟩ (fun s' =>typeIs_int s' k t) noFill_list_mul F.fills_int_mul F.slot_int_rmul repeat_list F.slot_int_index.lookup
  (call_meets F.slot_int_rmul (typeIs_int s k t) F.entry_int_rmul (F.args_int_rmul_2 _ _) (int___rmul___int_list k t l its.toArray n)
   ⟨e,rfl,⟨_,e,rfl⟩,call_meets F.slot_list_mul ⟨_,e,rfl⟩ F.entry_list_mul (F.args_list_mul_2 _ _) (AutoListH.list___mul___list_int_3 l its.toArray n k t afG agG Jk) ⟨e,?_⟩⟩)
 rw[G5];exact⟨.ref _,_,I.Xk (t' :=s.toks) (r.rep k.toNat) (by rw[jah,Nat.mul_comm];exact hz),rfl,q _ I.fresh⟩
end
section
variable{prog:Program}{w:World}{A:Around}{E:Value→Shared→Prop}{s:Shared}
set_option maxRecDepth 100000 in
end
section
variable{X:Cx}
end
section
variable{κ:Type}[DecidableEq κ]
def bN(kvs:List (κ×V))(k:κ):Option V:=(kvs.find? fun kv=>decide (kv.1=k)).map (·.2)
def wp(kvs:List (κ×V))(k:κ)(v:V):List (κ×V):=
 if(kvs.any fun kv=>decide (kv.1=k))=true then kvs.map (fun kv=>if kv.1=k then(kv.1,v) else kv) else kvs++[(k,v)]
def N3(kvs:List (κ×V))(k:κ):List (κ×V):=kvs.filter fun kv=>decide (kv.1≠k)
theorem cT{p:κ×V}{r:List (κ×V)}{k:κ}(e:p.1=k):bN (p::r) k=some p.2:=by simp[bN,List.find?_cons,e]
theorem cC{p:κ×V}{r:List (κ×V)}{k:κ}(e:¬p.1=k):bN (p::r) k=bN r k:=by simp[bN,List.find?_cons,e]
theorem kn(k:κ):∀kvs:List (κ×V),(kvs.any fun kv=>decide (kv.1=k))=(bN kvs k).isSome
 |[]=>rfl
 |p::r=>by
  rw[List.any_cons];by_cases e:p.1=k
  ·simp only[cT e,decide_eq_true e,Bool.true_or,Option.isSome_some]
  ·rw[cC e,decide_eq_false e,Bool.false_or];exact kn k r
theorem AJ(k j:κ)(y:V):∀kvs:List (κ×V),bN (kvs.map fun kv=>if kv.1=k then(kv.1,y) else kv) j=(bN kvs j).map fun x=>if j=k then y else x
 |[]=>rfl
 |p::r=>by
  have ih:=AJ k j y r;rw[List.map_cons];by_cases h:p.1=k
  ·rw[if_pos h];by_cases e:p.1=j
   ·rw[cT (p:=(p.1,y)) e,cT e,Option.map_some,if_pos (e.symm.trans h)]
   ·rw[cC (p:=(p.1,y)) e,cC e,ih]
  ·rw[if_neg h];by_cases e:p.1=j
   ·rw[cT (p:=p) e,cT e,Option.map_some,if_neg (fun z=>h (e.trans z))]
   ·rw[cC (p:=p) e,cC e,ih]
theorem wI(k j:κ)(y:V):∀kvs:List (κ×V),bN kvs k=none→bN (kvs++[(k,y)]) j=if j=k then some y else bN kvs j
 |[],_=>by
  by_cases e:k=j
  ·rw[if_pos e.symm];exact cT (p:=(k,y)) e
  ·rw[if_neg (fun z=>e z.symm)];exact cC (p:=(k,y)) e
 |p::r,hn=>by
  rw[List.cons_append];have hk:¬p.1=k:=fun z=>by rw[cT z] at hn;cases hn
  rw[cC hk] at hn;have ih:=wI k j y r hn;by_cases e:p.1=j
  ·rw[cT e,cT e,if_neg (fun z=>hk (e.trans z))]
  ·rw[cC e,cC e,ih]
theorem m4(kvs:List (κ×V))(k j:κ)(y:V):bN (wp kvs k y) j=if j=k then some y else bN kvs j:=by
 unfold wp;by_cases a:(kvs.any fun kv=>decide (kv.1=k))=true
 ·rw[if_pos a,AJ];rw[kn] at a;by_cases e:j=k
  ·obtain⟨x,hx⟩:=Option.isSome_iff_exists.mp a;rw[if_pos e,e,hx,Option.map_some,if_pos rfl]
  ·rw[if_neg e]
   cases bN kvs j with
   |none=>rfl
   |some x=>rw[Option.map_some,if_neg e]
 ·rw[if_neg a];refine wI k j y kvs ?_;rw[kn] at a
  cases q:bN kvs k with
  |none=>rfl
  |some x=>rw[q] at a;exact(a rfl).elim
theorem fI(kvs:List (κ×V))(k:κ)(v:V):(wp kvs k v).length≤kvs.length+1:=by
 unfold wp
 split
 ·rw[List.length_map];lia
 ·rw[List.length_append,List.length_cons,List.length_nil];lia
theorem ql{kvs:List (κ×V)}{k:κ}(v:V)(h:bN kvs k=none):wp kvs k v=kvs++[(k,v)]:=by
 unfold wp;rw[kn,h];exact if_neg (by decide)
theorem mn.qK{o:Option V}{u:aN}(r:mn o u):o.isSome=u.isSome:=by
 cases o with
 |none=>cases u with
  |none=>rfl
  |some _=>exact(show False from r).elim
 |some _=>cases u with
  |none=>exact(show False from r).elim
  |some _=>rfl
theorem mn.getD{o:Option V}{u:aN}{d:V}{d' :Value}(r:mn o u)(rd:RelV d d'):RelV (o.getD d) (u.getD d'):=by
 cases o with
 |none=>cases u with
  |none=>exact rd
  |some _=>exact(show False from r).elim
 |some _=>cases u with
  |none=>exact(show False from r).elim
  |some _=>exact r
theorem KV.val{kvs:List (κ×V)}{vs:List (κ×Value)}(r:KV kvs vs)(k:κ):mn (bN kvs k) (valueAt vs k):=by
 unfold KV at r
 induction r with
 |nil=>exact True.intro
 | @cons p q ps qs h t ih=>
  obtain⟨h1,h2⟩:=h;by_cases e:p.1=k
  ·have e' :q.1=k:=h1.symm.trans e;have b:valueAt (q::qs) k=some q.2:=by simp[valueAt,List.find?_cons,e']
   rw[cT e,b];exact h2
  ·have e' :¬q.1=k:=fun z=>e (h1.trans z);have b:valueAt (q::qs) k=valueAt qs k:=by simp[valueAt,List.find?_cons,e']
   rw[cC e,b];exact ih
theorem KV.any{kvs:List (κ×V)}{vs:List (κ×Value)}(r:KV kvs vs)(k:κ):(kvs.any fun kv=>decide (kv.1=k))=vs.any fun kv=>decide (kv.1=k):=by
 unfold KV at r
 induction r with
 |nil=>rfl
 |cons h t ih=>rw[List.any_cons,List.any_cons,ih,h.1]
theorem KV.R9{kvs:List (κ×V)}{vs:List (κ×Value)}(r:KV kvs vs)(k:κ){y:V}{u:Value}(ry:RelV y u):
 KV (kvs.map fun kv=>if kv.1=k then(kv.1,y) else kv) (vs.map fun kv=>if kv.1=k then(kv.1,u) else kv):=by
 unfold KV at r ⊢
 induction r with
 |nil=>exact .nil
 | @cons p q ps qs h t ih=>
  rw[List.map_cons,List.map_cons];refine .cons ?_ ih;obtain⟨h1,h2⟩:=h;by_cases e:p.1=k
  ·rw[if_pos e,if_pos (h1.symm.trans e)];exact⟨h1,ry⟩
  ·rw[if_neg e,if_neg (fun z=>e (h1.trans z))];exact⟨h1,h2⟩
theorem KV.put{kvs:List (κ×V)}{vs:List (κ×Value)}(r:KV kvs vs)(k:κ){y:V}{u:Value}(ry:RelV y u):KV (wp kvs k y) (stored vs k u):=by
 unfold wp stored;rw[r.any k];by_cases e:(vs.any fun kv=>decide (kv.1=k))=true
 ·rw[if_pos e,if_pos e];exact r.R9 k ry
 ·rw[if_neg e,if_neg e];exact Paired.snoc r ⟨rfl,ry⟩
theorem KV.drop{kvs:List (κ×V)}{vs:List (κ×Value)}(r:KV kvs vs)(k:κ):KV (N3 kvs k) (without vs k):=by
 unfold KV at r ⊢;unfold N3 without
 induction r with
 |nil=>exact .nil
 | @cons p q ps qs h t ih=>
  obtain⟨h1,h2⟩:=h;rw[List.filter_cons,List.filter_cons];by_cases e:p.1=k
  ·have a:¬decide (p.1≠k)=true:=by simp[e]
   have b:¬decide (q.1≠k)=true:=by simp[h1.symm.trans e]
   rw[if_neg a,if_neg b];exact ih
  ·have e' :¬q.1=k:=fun z=>e (h1.trans z);have a:decide (p.1≠k)=true:=by simp[e]
   have b:decide (q.1≠k)=true:=by simp[e']
   rw[if_pos a,if_pos b];exact .cons ⟨h1,h2⟩ ih
theorem KV.keys{kvs:List (κ×V)}{vs:List (κ×Value)}(r:KV kvs vs):kvs.map (·.1)=vs.map (·.1):=by
 unfold KV at r
 induction r with
 |nil=>rfl
 |cons h t ih=>rw[List.map_cons,List.map_cons,ih,h.1]
theorem KV.length{kvs:List (κ×V)}{vs:List (κ×Value)}(r:KV kvs vs):kvs.length=vs.length:=Paired.length r
end
theorem sj{P:Program}{w:World}{k:wn}{u:Value}(r:RelV (kV k) u):(bz P w).is k u=true:=by
 cases k with
 |inl i=>obtain⟨t,e⟩:=(show ∃t,u=Value.int i t from r);subst e;exact zt P w i t
 |inr x=>obtain⟨t,e⟩:=(show ∃t,u=Value.str x t from r);subst e;exact Ak P w x t
theorem wC{P:Program}{w:World}:∀{ks:List wn} {us:aI},Vals (ks.map kV) us→ItemsAre (bz P w) ks us
 |[],_,r=>by rw[List.map_nil] at r;cases r;exact .nil
 |k::ks,_,r=>by
  rw[List.map_cons] at r
  cases r with
  |cons h t=>exact .cons (sj h) (wC t)
abbrev KT(H:Hp):eA→List (List wn×Addr×Value)→Prop:=Paired fun p q=>p.1=q.1∧H q.2.1=some (.tup (p.1.map kV))∧RelV p.2 q.2.2
theorem KT.val{H:Hp}{kvs:eA}{xs:List (List wn×Addr×Value)}(r:KT H kvs xs)(k:List wn):mn (bN kvs k) ((atKey xs k).map (·.2)):=by
 induction r with
 |nil=>exact True.intro
 | @cons p q ps qs h t ih=>
  obtain⟨h1,_,h2⟩:=h;by_cases e:p.1=k
  ·have e' :q.1=k:=h1.symm.trans e;have b:atKey (q::qs) k=some q.2:=by simp[atKey,List.find?_cons,e']
   rw[cT e,b];exact h2
  ·have e' :¬q.1=k:=fun z=>e (h1.trans z);have b:atKey (q::qs) k=atKey qs k:=by simp[atKey,List.find?_cons,e']
   rw[cC e,b];exact ih
theorem KT.R9{H:Hp}{kvs:eA}{xs:List (List wn×Addr×Value)}(r:KT H kvs xs)(k:List wn){y:V}{u:Value}(ry:RelV y u):
 KT H (kvs.map fun kv=>if kv.1=k then(kv.1,y) else kv) (xs.map (putAt k u)):=by
 induction r with
 |nil=>exact .nil
 | @cons p q ps qs h t ih=>
  rw[List.map_cons,List.map_cons];refine .cons ?_ ih;obtain⟨h1,h2,h3⟩:=h;unfold putAt;by_cases e:p.1=k
  ·rw[if_pos e,if_pos (h1.symm.trans e)];exact⟨h1,h2,ry⟩
  ·rw[if_neg e,if_neg (fun z=>e (h1.trans z))];exact⟨h1,h2,h3⟩
theorem KT.put{H:Hp}{kvs:eA}{xs:List (List wn×Addr×Value)}(r:KT H kvs xs)(k:List wn){b:Addr}{y:V}{u:Value}(hb:H b=some (.tup (k.map kV)))(ry:RelV y u):
 KT H (wp kvs k y) (storedH xs k b u):=by
 have e:(kvs.any fun kv=>decide (kv.1=k))=(atKey xs k).isSome:=by
  rw[kn,(r.val k).qK,Option.isSome_map]
 unfold wp storedH;rw[e];by_cases q:(atKey xs k).isSome=true
 ·rw[if_pos q,if_pos q];exact r.R9 k ry
 ·rw[if_neg q,if_neg q];exact Paired.snoc r ⟨rfl,hb,ry⟩
theorem KT.keeps{H H' :Hp}{kvs:eA}{xs:List (List wn×Addr×Value)}(r:KT H kvs xs)(ht:∀b ys,H b=some (.tup ys)→H' b=some (.tup ys)):KT H' kvs xs:=
 Paired.Rw r fun _ _ z=>⟨z.1,ht _ _ z.2.1,z.2.2⟩
section
variable{P:Program}{w:World}{H:Hp}{h:Heap}{a:Addr}
theorem Nm{u:HO}(ok:n0 P w H h)(e:Rd H a u):bw P w H h a u:=e.ok ok
theorem wu{kvs:bG}(ok:n0 P w H h)(e:Rd H a (.dK kvs)):kvs.length≤sizeLine∧(a==sysModules)=false∧∃vs,KV kvs vs∧h.DictOf (bz P w) a vs:=
 show bw P w H h a (.dK kvs) from Nm ok e
theorem sH{kvs:bG}(ok:n0 P w H h)(e:H a=some (.dK kvs)):kvs.length≤sizeLine∧(a==sysModules)=false∧∃vs,KV kvs vs∧h.DictOf (bz P w) a vs:=wu ok (.inl e)
theorem qN{ks:List wn}(ok:n0 P w H h)(e:H a=some (.tup (ks.map kV))):(tupleKind (bz P w)).is h ks a:=by
 obtain⟨_,its,r,o,h1,h2,n,h3⟩:=(show bw P w H h a (.tup (ks.map kV)) from ok a _ e);exact⟨o,its.toArray,n,h1,h2,h3,by simpa using wC r⟩
theorem wN{kvs:eA}(ok:n0 P w H h)(e:Rd H a (.dT kvs)):kvs.length≤sizeLine∧(a==sysModules)=false∧
 ∃xs,KT H kvs xs∧h.DictOfH (tupleKind (bz P w)) a xs:=by
 obtain⟨z,y,xs,r,o,es,ep,h1,h2,h3,h4,h5⟩:=(show bw P w H h a (.dT kvs) from Nm ok e);refine⟨z,y,xs,r,o,es,ep,h1,h2,h3,h4,fun x hx=> ?_,h5⟩
 have all:∀{l:eA} {m:List (List wn×Addr×Value)},KT H l m→∀x∈m,(tupleKind (bz P w)).is h x.1 x.2.1:=by
  intro l m q
  induction q with
  |nil=>intro x hx;exact nomatch hx
  | @cons p q ps qs hq t ih=>
   intro x hx;rcases List.mem_cons.mp hx with e|hx
   ·subst e;exact qN ok (by rw[←hq.1];exact hq.2.1)
   ·exact ih x hx
 exact all r x hx
theorem P5{kvs:eA}(ok:n0 P w H h)(e:H a=some (.dT kvs)):kvs.length≤sizeLine∧(a==sysModules)=false∧
 ∃xs,KT H kvs xs∧h.DictOfH (tupleKind (bz P w)) a xs:=wN ok (.inl e)
end
def eK(H:Hp)(a:Addr)(y:V)(r:Option V):Prop:=
 (∃kvs k,Rd H a (.dK kvs)∧y=kV k∧r=bN kvs k)∨∃kvs k b,Rd H a (.dT kvs)∧y= .ref b∧H b=some (.tup (k.map kV))∧r=bN kvs k
def vz(H:Hp)(a:Addr)(y v:V)(H' :Hp):Prop:=
 (∃kvs k,H a=some (.dK kvs)∧y=kV k∧kvs.length<sizeLine∧H' =upd H a (.dK (wp kvs k v)))∨
 ∃kvs k b,H a=some (.dT kvs)∧y= .ref b∧H b=some (.tup (k.map kV))∧kvs.length<sizeLine∧H' =upd H a (.dT (wp kvs k v))
theorem eK.k{H:Hp}{a:Addr}{kvs:bG}{k:wn}(e:H a=some (.dK kvs)):eK H a (kV k) (bN kvs k):= .inl ⟨kvs,k,.inl e,rfl,rfl⟩
theorem eK.t{H:Hp}{a b:Addr}{kvs:eA}{k:List wn}(e:H a=some (.dT kvs))(eb:H b=some (.tup (k.map kV))):eK H a (.ref b) (bN kvs k):= .inr ⟨kvs,k,b,.inl e,rfl,eb,rfl⟩
theorem vz.k{H:Hp}{a:Addr}{kvs:bG}{k:wn}{v:V}(e:H a=some (.dK kvs))(hl:kvs.length<sizeLine):vz H a (kV k) v (upd H a (.dK (wp kvs k v))):= .inl ⟨kvs,k,e,rfl,hl,rfl⟩
theorem vz.t{H:Hp}{a b:Addr}{kvs:eA}{k:List wn}{v:V}(e:H a=some (.dT kvs))(eb:H b=some (.tup (k.map kV)))(hl:kvs.length<sizeLine):
 vz H a (.ref b) v (upd H a (.dT (wp kvs k v))):= .inr ⟨kvs,k,b,e,rfl,eb,hl,rfl⟩
section
variable{X:Cx}{pins:aP}{σ:St}{H:Hp}{s:Shared}{a:Addr}{y v:V}{u r:Value}{o:Option V}{A:Around}{E:Value→Shared→Prop}
theorem Inv.big(I:Inv X pins σ H s):sysModules<s.heap.objs.size:=by
 have h:mainGlobals<s.heap.objs.size:=(I.mod.glob.keeps I.bk).lt;exact Nat.lt_trans (by decide) h
theorem EK{Q:Value→Shared→Prop}(hu:A.units+1<cLine)(I:Inv X pins σ H s)(g:eK H a y (some v))(ry:RelV y u)(h:∀w' s',Inv X pins σ H s'→RelV v w'→Q w' s'):
 wpAny (model X.prog X.w) A (getItem (.ref a) u) Q E s:=by
 rcases g with⟨kvs,k,e,ey,l⟩|⟨kvs,k,b,e,ey,eb,l⟩
 ·subst ey;obtain⟨z,hd,vs,rel,dd⟩:=wu I.bE e;obtain⟨w',hw,ED⟩:=mn.some_of (v:=v) (o:=valueAt vs k) (by rw[l];exact rel.val k);exact wpAny_getItem_of (sj ry) dd.mapOf hw (h w' _ (I.tok _) ED)
 ·subst ey;cases(show u=Value.ref b from ry);obtain⟨z,hd,xs,rel,dd⟩:=wN I.bE e;obtain⟨w',hw,ED⟩:=mn.some_of (v:=v) (o:=(atKey xs k).map (·.2)) (by rw[l];exact rel.val k);obtain⟨p,hp,A3⟩:=Option.map_eq_some_iff.mp hw;refine wpAny_getItem_heap (tupleKind_room_in1 hu) (qN I.bE eb) dd hp ?_;rw[A3];exact h w' _ (I.tok _) ED
theorem afa{Q:Value→Shared→Prop}(hu:A.units+1<cLine)(I:Inv X pins σ H s)(g:eK H a y o)(ry:RelV y u)(h:∀s',Inv X pins σ H s'→Q (.bool o.isSome) s'):
 wpAny (model X.prog X.w) A (compareOp .In u (.ref a)) Q E s:=by
 rcases g with⟨kvs,k,e,ey,l⟩|⟨kvs,k,b,e,ey,eb,l⟩
 ·subst ey;obtain⟨z,hd,vs,rel,dd⟩:=wu I.bE e;refine wpAny_in_of (sj ry) hd dd.mapOf ?_;rw[←(rel.val k).qK,←l];exact h _ (I.tok _)
 ·subst ey;cases(show u=Value.ref b from ry);obtain⟨z,hd,xs,rel,dd⟩:=wN I.bE e;refine wpAny_in_heap (tupleKind_room_in1 hu) (qN I.bE eb) hd dd ?_;have q:=(rel.val k).qK;rw[Option.isSome_map] at q;rw[←q,←l];exact h _ (I.tok _)
theorem pQ{h' :Heap}{t' :Nat}{ob:HO}(I:Inv X pins σ H s)(mu:Wi (H a))(hs:Heap.SameBut a s.heap h')(he:∃q,h'.get? a=some q)(new:bw X.prog X.w (upd H a ob) h' a ob):
 Inv X pins σ (upd H a ob) {s with heap:=h',toks:=t'}:=
 I.write (x:=a) (e:=a) mu (.inl rfl) (fun b q hb z=>(hs.2 b hb).trans z) he new
theorem uW{P:Program}{w:World}{H' :Hp}{h' :Heap}{kvs:bG}{vs:List (wn×Value)}(z:kvs.length≤sizeLine)(hd:(a==sysModules)=false)(rel:KV kvs vs)(dd:h'.DictOf (bz P w) a vs):
 bw P w H' h' a (.dK kvs):=⟨z,hd,vs,rel,dd⟩
theorem Fg{H' :Hp}{Q:Unit→Shared→Prop}(hu:A.units+1<cLine)(I:Inv X pins σ H s)(g:vz H a y v H')(ry:RelV y u)(rv:RelV v r)(h:∀s',Inv X pins σ H' s'→Q () s'):
 wpAny (model X.prog X.w) A (setItem (.ref a) u r) Q E s:=by
 rcases g with⟨kvs,k,e,ey,l,eH⟩|⟨kvs,k,b,e,ey,eb,l,eH⟩
 ·subst ey eH;obtain⟨z,hd,vs,rel,dd⟩:=sH I.bE e;have hz:vs.length≤sizeLine:=by rw[←rel.length];exact z
  have hl:(wp kvs k v).length≤sizeLine:=by have:=fI kvs k v;lia
  refine wpAny_setItem_pairs (hsz:=hz) (sj ry) dd fun h' Fy hs=>h _ ?_;have he:∃q,h'.get? a=some q:=let⟨q,_,_,hq,_⟩:=Fy;⟨q,hq⟩
  exact pQ I (by rw[e];exact True.intro) hs he (uW hl hd (rel.put k rv) Fy)
 ·subst ey eH;cases(show u=Value.ref b from ry);obtain⟨z,hd,xs,rel,dd⟩:=P5 I.bE e;have hz:xs.length≤sizeLine:=by rw[←Paired.length rel];exact z
  have hl:(wp kvs k v).length≤sizeLine:=by have:=fI kvs k v;lia
  refine wpAny_setItem_heap (hsz:=hz) (tupleKind_room_in1 hu) (qN I.bE eb) dd fun h' Fy hs=>h _ ?_;obtain⟨q,es,ep,hq,h2,h3,h4,_,h5⟩:=Fy;refine pQ I (by rw[e];exact True.intro) hs ⟨q,hq⟩ ⟨hl,hd,_,(rel.put k eb rv).keeps fun c ys ec=> ?_,q,es,ep,hq,h2,h3,h4,h5⟩;rw[ah (aG ec e (fun z=>nomatch z))];exact ec
end
section
variable{X:Cx}{pins:aP}{σ:St}{H:Hp}{s:Shared}{a:Addr}{kvs:bG}{k:wn}{u:Value}{A:Around}{E:Value→Shared→Prop}
end
def Wv(i:Expr):Prop:=∀ov iv,subscripted i false ov iv=operate [ov,iv] (getItem ov iv)
theorem Lw{prog:Program}{w:World}{A:Around}{E:Value→Shared→Prop}{s:Shared}{env:Env}{value slice:Expr}{pos:Pos}{T id:String}{Q:Value→Shared→Prop}
 (hl:typeLookup (.type T) "__getitem__"=pure (some (.builtin id))) (hs:Wv slice)
 (h:wpAny (model prog w) A (eval value env) (fun o bR=>wpAny (model prog w) A (eval slice env) (fun i r8=>r8.TypeIs o T∧wpAny (model prog w) A (getItem o i) Q E r8) E bR) E s):
 wpAny (model prog w) A (eval (.Subscript value slice pos) env) Q E s:=by
 refine Subscript_ (wpAny_mono h (fun o bR uV=>wpAny_mono uV (fun i r8 Gn=> ?_) fun _ _ x=>x) fun _ _ x=>x);obtain⟨hT,Gn⟩:=Gn;unfold subscriptTail;refine wpAny_bind ?_;rw[getitemInPython_of_ne hT.not_modules];refine wpAny_bind (wpAny_specialOf hT hl ?_)
 have fin:wpAny (model prog w) A (subscripted slice false o i) (fun r AD=>wpAny (model prog w) A (letTemporaryGo value o r>>= fun _=>pure r) Q E AD) E r8:=by
  rw[hs o i];exact wpAny_operating (wpAny_mono Gn (fun r AD Lc=>wpAny_bind (wpAny_letTemporaryGo (wpAny_pure Lc))) fun _ _ x=>x)
 first
  |exact wpAny_pure (wpAny_bind fin)
  |exact wpAny_bind (wpAny_pure (wpAny_bind fin))
  |exact wpAny_bind fin
theorem zX{X:Cx}{pins:aP}{σ:St}{H:Hp}{s:Shared}{a:Addr}{y:V}{o:Option V}(I:Inv X pins σ H s)(g:eK H a y o):s.TypeIs (.ref a) "dict":=by
 rcases g with⟨kvs,k,e,_,_⟩|⟨kvs,k,b,e,_,_,_⟩
 ·obtain⟨_,_,vs,_,dd⟩:=wu I.bE e;exact dd.typeIs
 ·obtain⟨_,_,xs,_,dd⟩:=wN I.bE e;exact dd.typeIs
def VN(td ty:TE):TE:=fun σ H Q=>td σ H fun x H1=>ty σ H1 fun y H2=>∃a v,x= .ref a∧eK H2 a y (some v)∧Q v H2
def ZE(ty td:TE):TE:=fun σ H Q=>ty σ H fun y H1=>td σ H1 fun x H2=>∃a o,x= .ref a∧eK H2 a y o∧Q (.bl o.isSome) H2
def UK(td ty tv:TE):TS:=fun D σ H=>tv σ H fun v H1=>td σ H1 fun x H2=>ty σ H2 fun y H3=>∃a H4,x= .ref a∧vz H3 a y v H4∧D.nx σ H4
section
variable{X:Cx}{o i e value:Expr}{pos pos' Zj:Pos}{td ty tv:TE}
theorem aX(hu:X.A.units+1<cLine)(ho:PE X o td)(hi:PE X i ty)(hs:Wv i):PE X (.Subscript o i pos) (VN td ty):=by
 intro pins s σ H Q I h;refine Lw PySem.F.slot_dict_getitem.lookup hs (bW (ho pins s σ H _ I h) fun u s1 ⟨x,H1,I1,rx,q1⟩=>bW (hi pins s1 σ H1 _ I1 q1) fun iv s2 ⟨y,H2,I2,ry,a,v,ex,g,q2⟩=> ?_);subst ex;obtain rfl:u=Value.ref a:=rx;exact⟨zX I2 g,EK hu I2 g ry fun w' s3 I3 ED =>⟨v,H2,I3,ED,q2⟩⟩
theorem Q_(hu:X.A.units+1<cLine)(hi:PE X i ty)(ho:PE X o td):PC X .In i o (ZE ty td):=by
 intro pins s σ H Q I h;refine bW (hi pins s σ H _ I h) fun iv s1 ⟨y,H1,I1,ry,q1⟩=>bW (ho pins s1 σ H1 _ I1 q1) fun u s2 ⟨x,H2,I2,rx,a,ov,ex,g,q2⟩=> ?_;subst ex;obtain rfl:u=Value.ref a:=rx;exact afa hu I2 g ry fun s3 I3=>⟨.bl ov.isSome,H2,I3,rfl,q2⟩
theorem tT(hu:X.A.units+1<cLine)(ho:PE X o td)(hi:PE X i ty)(hv:PE X value tv)(hs:swapsWith value (some (.Subscript o i pos')) pos.line X.env=pure false):
 PS X (.Assign [.Subscript o i pos'] value pos) (UK td ty tv):=by
 intro pins s σ H D I h;refine wpAny_Assign_Subscript (bW (hv pins s σ H _ I h) fun r s1 ⟨v,H1,I1,rv,q1⟩=>bW (ho pins s1 σ H1 _ I1 q1) fun u s2 ⟨x,H2,I2,rx,q2⟩=>bW (hi pins s2 σ H2 _ I2 q2) fun iv s3 ⟨y,H3,I3,ry,a,H4,ex,g,q3⟩=> ?_) hs;subst ex;obtain rfl:u=Value.ref a:=rx;exact Fg hu I3 g ry rv fun s4 I4=>⟨σ,H4,I4,q3⟩
end
theorem pW{P:Program}{w:World}{H:Hp}(h:Heap)(hb:sysModules<h.objs.size):bw P w H (h.push {cls:= .type "dict",data:= .dict #[]}) h.objs.size (.dK []):=
 ⟨Nat.zero_le _,beq_eq_false_iff_ne.mpr (Ne.symm (Nat.ne_of_lt hb)),[],.nil,Heap.DictOf.new h⟩
theorem Jd{P:Program}{w:World}{H:Hp}(h:Heap)(hb:sysModules<h.objs.size):bw P w H (h.push {cls:= .type "dict",data:= .dict #[]}) h.objs.size (.dT []):=
 ⟨Nat.zero_le _,beq_eq_false_iff_ne.mpr (Ne.symm (Nat.ne_of_lt hb)),[],.nil,_,#[],0,Heap.get?_push_size _ rfl,⟨rfl,rfl,rfl⟩,rfl,rfl,List.nodup_nil⟩
def QI:TE:=fun _ H Q=>∀p,H p=none→Q (.ref p) (upd H p (.dK []))
def R0:TE:=fun _ H Q=>∀p,H p=none→Q (.ref p) (upd H p (.dT []))
section
variable{X:Cx}{pos:Pos}
theorem j8:PE X (.Dict [] [] pos) QI:=fun pins s σ H Q I h=>
 wpAny_Dict_empty ⟨.ref s.heap.objs.size,_,I.laid (a:=s.heap.objs.size) (o:= .dK []) (t' :=s.toks) (fun _ _ q=>Heap.get?_push_of_some _ q) (Nat.le_refl _) (pW s.heap I.big),rfl,h _ (I.bE.fresh (Nat.le_refl _))⟩
theorem Jq:PE X (.Dict [] [] pos) R0:=fun pins s σ H Q I h=>
 wpAny_Dict_empty ⟨.ref s.heap.objs.size,_,I.laid (a:=s.heap.objs.size) (o:= .dT []) (t' :=s.toks) (fun _ _ q=>Heap.get?_push_of_some _ q) (Nat.le_refl _) (Jd s.heap I.big),rfl,h _ (I.bE.fresh (Nat.le_refl _))⟩
end
def Bp:List (TE×TE)→St→Hp→(List (V×V)→Hp→Prop)→Prop
 |[],_,H,Q=>Q [] H
 |(tk,tv)::r,σ,H,Q=>tk σ H fun x H1=>tv σ H1 fun y H2=>Bp r σ H2 fun ps H3=>Q ((x,y)::ps) H3
abbrev VV:List (V×V)→List (Value×Value)→Prop:=Paired fun p q=>RelV p.1 q.1∧RelV p.2 q.2
def Tx(X:Cx)(pos:Pos)(keys:List (Option Expr))(values:b8)(Av:List (TE×TE)):Prop:=
 ∀(pins:aP) (s:Shared) (σ:St) (H:Hp) (Q:List (V×V)→Hp→Prop),Inv X pins σ H s→Bp Av σ H Q→
  wpAny (model X.prog X.w) X.A (evalPairs (pairTrees keys values X.env pos)) (fun vs s' =>∃ps H',Inv X pins σ H' s'∧VV ps vs∧Q ps H') X.xe s
theorem L5{X:Cx}{pos:Pos}:Tx X pos [] [] []:=fun pins s σ H Q I h=>pairTrees_nil_walk ⟨[],H,I,.nil,h⟩
theorem JK{X:Cx}{pos:Pos}{k v:Expr}{ks:List (Option Expr)}{vs:b8}{tk tv:TE}{Av:List (TE×TE)}(hk:PE X k tk)(hv:PE X v tv)(hr:Tx X pos ks vs Av):
 Tx X pos (some k::ks) (v::vs) ((tk,tv)::Av):=fun pins s σ H Q I h=>
 pairTrees_cons_walk (bW (hk pins s σ H _ I h) fun u s1 ⟨x,H1,I1,rx,q1⟩=>bW (hv pins s1 σ H1 _ I1 q1) fun w2 s2 ⟨y,H2,I2,ry,q2⟩=>
  bW (hr pins s2 σ H2 _ I2 q2) fun ws s3 ⟨ps,H3,I3,rel,q3⟩=>⟨(x,y)::ps,H3,I3,.cons ⟨rx,ry⟩ rel,q3⟩)
def fw(kvs more:bG):bG:=more.foldl (fun acc kv=>wp acc kv.1 kv.2) kvs
theorem KV.merge:∀{more:bG} {rs:List (wn×Value)} {kvs:bG} {vs:List (wn×Value)},KV more rs→KV kvs vs→KV (fw kvs more) (merged vs rs):=by
 intro more rs kvs vs r;unfold KV at r
 induction r generalizing kvs vs with
 |nil=>intro q;exact q
 | @cons p q ps qs h t ih=>
  intro r0
  have e:KV (wp kvs p.1 p.2) (stored vs q.1 q.2):=by
   have:=r0.put p.1 h.2;rw[←h.1];exact this
  exact ih e
theorem fc:∀(more kvs:bG),(fw kvs more).length≤kvs.length+more.length
 |[],kvs=>by show kvs.length≤kvs.length+0;lia
 |p::r,kvs=>by
  have h1:=fc r (wp kvs p.1 p.2);have h2:=fI kvs p.1 p.2;show(fw (wp kvs p.1 p.2) r).length≤_;rw[List.length_cons];lia
theorem uh{P:Program}{w:World}:∀{kvs:bG} {ws:List (Value×Value)},VV (kvs.map fun kv=>(kV kv.1,kv.2)) ws→∃rs,Carries (bz P w) ws rs∧KV kvs rs
 |[],_,r=>by rw[List.map_nil] at r;cases r;exact⟨[],True.intro,.nil⟩
 |p::kvs,_,r=>by
  rw[List.map_cons] at r
  cases r with
  | @cons a b as bs h t=>
   obtain⟨rs,c,q⟩:=uh (P:=P) (w:=w) t;obtain⟨b1,b2⟩:=b;exact⟨(p.1,b2)::rs,⟨sj h.1,rfl,c⟩,.cons ⟨rfl,h.2⟩ q⟩
def Pr(Av:List (TE×TE)):TE:=fun σ H Q=>∀p,H p=none→Bp Av σ (upd H p (.dK [])) fun ps H2=>H2 p=some (.dK [])∧∃kvs:bG,ps=kvs.map (fun kv=>(kV kv.1,kv.2))∧kvs.length≤15∧Q (.ref p) (upd H2 p (.dK (fw [] kvs)))
theorem L7{X:Cx}{pos:Pos}{keys:List (Option Expr)}{values:b8}{Av:List (TE×TE)}(h:Tx X pos keys values Av)(xo:keys.all (·.isSome)=true)(hl:keys.length=values.length)(h0:keys≠[])
 (h15:keys.length≤15):PE X (.Dict keys values pos) (Pr Av):=by
 intro pins s σ H Q I q;have hn:=I.bE.fresh (Nat.le_refl s.heap.objs.size);have I1:=I.laid (a:=s.heap.objs.size) (o:= .dK []) (h' :=s.heap.push {cls:= .type "dict",data:= .dict #[]}) (t' :=s.toks) (fun _ _ q=>Heap.get?_push_of_some _ q) (Nat.le_refl _) (pW s.heap I.big);refine wpAny_Dict_walk (knd:=bz X.prog X.w) xo hl h0 h15 (bW (h pins _ σ _ _ I1 (q _ hn)) fun ws s2 ⟨ps,H2,I2,rel,e,kvs,ep,lk,q2⟩=> ?_);subst ep;obtain⟨rs,c,rk⟩:=uh (P:=X.prog) (w:=X.w) rel;obtain⟨z,hd,vs0,r0,dd⟩:=sH I2.bE e;cases r0;refine⟨rs,c,dd,fun h' Fy hs=>⟨.ref s.heap.objs.size,_,?_,rfl,q2⟩⟩
 have hz:(fw [] kvs).length≤sizeLine:=by
  have h1:=fc kvs [];rw[List.length_nil] at h1;rw[sizeLine_eq];lia
 have he:∃q,h'.get? s.heap.objs.size=some q:=let⟨q,_,_,hq,_⟩:=Fy;⟨q,hq⟩
 exact pQ I2 (by rw[e];exact True.intro) hs he (uW hz hd (rk.merge .nil) Fy)
structure M2(X:Cx)(o:Expr)(m:Str)(apos:Pos)(e f:Expr)(iJ:Pos):Prop where
 base:attributeBase o m X.env (eval o X.env)=eval o X.env
 few:((backTo iJ (starEach [e,f] X.env)).all (fun x=> !x.1)&&(backToKw iJ (keywordEach [] X.env)).all (fun x=>x.1.isSome)
  &&decide (([e,f]:b8).length+([]:List Keyword).length+(if([]:List Keyword).isEmpty then 0 else 1)<30))=true
 line:(apos.endLine==iJ.line)=true
 trees:backTo iJ (starEach [e,f] X.env)=[(false,eval e X.env),(false,eval f X.env)]
def IsD(H:Hp)(a:Addr):Prop:=(∃kvs,Rd H a (.dK kvs))∨∃kvs,Rd H a (.dT kvs)
theorem IY{X:Cx}{pins:aP}{σ:St}{H:Hp}{s:Shared}{a:Addr}(I:Inv X pins σ H s)(d:IsD H a):
 s.TypeIs (.ref a) "dict" ∧(∀b,Value.ref a= .ref b→∃ob,s.heap.get? b=some ob∧ob.dict=none)∧(a==sysModules)=false:=by
 rcases d with⟨kvs,e⟩|⟨kvs,e⟩
 ·obtain⟨_,hd,vs,_,dd⟩:=wu I.bE e;refine⟨dd.typeIs,fun b q=> ?_,hd⟩;cases q;obtain⟨ob,_,_,h1,h2,_⟩:=dd;exact⟨ob,h1,h2.2.1⟩
 ·obtain⟨_,hd,xs,_,dd⟩:=wN I.bE e;refine⟨dd.typeIs,fun b q=> ?_,hd⟩;cases q;obtain⟨ob,_,_,h1,h2,_⟩:=dd;exact⟨ob,h1,h2.2.1⟩
section
variable{X:Cx}{pins:aP}{σ:St}{H:Hp}{s:Shared}{a:Addr}{y d:V}{u r:Value}{o:Option V}{A:Around}{E:Value→Shared→Prop}
theorem QH{Q:Value→Shared→Prop}(hu:A.units+1<cLine)(I:Inv X pins σ H s)(g:eK H a y o)(ry:RelV y u)(rd:RelV d r)(h:∀w' s',Inv X pins σ H s'→RelV (o.getD d) w'→Q w' s'):
 wpAny (model X.prog X.w) A (call (.builtin "dict.get") [.ref a,u,r]) Q E s:=by
 rcases g with⟨kvs,k,e,ey,l⟩|⟨kvs,k,b,e,ey,eb,l⟩
 ·subst ey;obtain⟨z,hd,vs,rel,dd⟩:=wu I.bE e;refine call_meetsIn slot_dict_get dd.typeIs entry_dict_get (args_dict_get_3 _ _ _) (meets_dict_get_default (bz X.prog X.w) a (sj ry) hd r) ⟨_,dd.mapOf,h _ _ (I.tok _) ?_⟩;rw[l];exact(rel.val k).getD rd
 ·subst ey;cases(show u=Value.ref b from ry);obtain⟨z,hd,xs,rel,dd⟩:=wN I.bE e;refine call_meetsIn slot_dict_get dd.typeIs entry_dict_get (args_dict_get_3 _ _ _) (meetsH_dict_get_default (tupleKind (bz X.prog X.w)) a b hd r) ⟨tupleKind_room_in1 hu,k,xs,qN I.bE eb,dd,h _ _ (I.tok _) ?_⟩;rw[l];exact(rel.val k).getD rd
end
def QU(td ty tx:TE):TE:=fun σ H Q=>td σ H fun x H1=>∃a,x= .ref a∧IsD H1 a∧ty σ H1 fun y H2=>tx σ H2 fun z H3=>∃o,eK H3 a y o∧Q (o.getD z) H3
section
variable{X:Cx}{o e f:Expr}{apos iJ:Pos}{td ty tx:TE}
theorem pK(hu:X.A.units+1<cLine)(ho:PE X o td)(he:PE X e ty)(hf:PE X f tx)(m:M2 X o "get" apos e f iJ):PE X (.Call (.Attribute o "get" apos) [e,f] [] iJ) (QU td ty tx):=by
 intro pins s σ H Q I h;refine wpAny_Call_method m.base m.few m.line plainAttrs_dict slot_dict_get PySem.F.type_dict_get (bW (ho pins s σ H _ I h) fun u s1 ⟨x,H1,I1,rx,a,ex,d,q1⟩=> ?_);subst ex;obtain rfl:u=Value.ref a:=rx;obtain⟨t1,t2,_⟩:=IY I1 d;refine⟨t1,t2,?_⟩;rw[m.trees]
 refine Calls.callWith_builtin rfl (Calls.evalArgs_plain (Calls.spliced_cons (bW (he pins s1 σ H1 _ I1 q1) fun iv s2 ⟨y,H2,I2,ry,q2⟩=>
  Calls.spliced_cons (bW (hf pins s2 σ H2 _ I2 q2) fun fv s3 ⟨z,H3,I3,rz,ov,g,q3⟩=>Calls.spliced_nil ?_))))
 exact QH hu I3 g ry rz fun w' s4 I4 ED =>⟨_,H3,I4,ED,q3⟩
end
section
variable{X:Cx}{pins:aP}{σ:St}{H:Hp}{s:Shared}{a:Addr}{kvs:bG}{A:Around}{E:Value→Shared→Prop}
end
section
variable{X:Cx}{pins:aP}{σ:St}{H:Hp}{s:Shared}{a:Addr}{y:V}{u:Value}{A:Around}{E:Value→Shared→Prop}
end
end L2
namespace Att
open PySem PySem.W PySem.Calls PyProof.Rows
theorem tw{P:Params}{h:Heap}:∀(ns:List Int) (vs:aI),WellAll P h vs (ns.map WData.int)→IntsAre vs ns:=by
 intro ns
 induction ns with
 |nil=>
  intro vs w;rw[List.map_nil] at w;cases w;exact .nil
 |cons n ns ih=>
  intro vs w;rw[List.map_cons] at w
  cases w with
  |cons a b=>
   cases a;exact .cons _ _ (ih _ b)
theorem EM{l:OpenLaw}{n:Nat}(hn:l.most=some n){P:Params}{h:Heap}{args:List WData}{vals:aI}
 (Lv:l.row.toRowW.claim.pre args=true) (Qo:WellAll P h vals args):
 ∃a vs ns,vals=[Value.ref a]∧args=[WData.list (ns.map WData.int)]∧h.get? a=some {cls:= .type "list",data:= .seq vs.toArray}∧IntsAre vs ns∧ns.length≤n:=by
 have hsh:WShape.hasAll [] args [.list .int]=true:=(pre_splitW Lv).1;have hc:l.pre.holds [] {args:=args}=true:=(pre_splitW Lv).2;obtain⟨d,r,rfl,h1,h2⟩:=hasAllW_cons hsh;obtain rfl:=hasAllW_nil h2;obtain⟨xs,rfl,h3⟩:=hasW_list h1;obtain⟨ns,rfl⟩:=items_int h3
 have hlen:ns.length≤n:=by
  unfold OpenLaw.pre at hc
  have h4:(WTm.not (.lt (.lit (.int (n:Int))) (.len (.arg 0)))).holds [] {args:=[.list (ns.map .int)]}=true:=by
   have h4:=(holds_andW hc).1;rw[hn] at h4;exact h4
  have h5:=condW_of h4 (w_not (w_lt w_lit (w_len_list (w_arg rfl))));rw[List.length_map] at h5;refine Nat.le_of_not_lt fun q=> ?_;have q' :(n:Int)<((ns.length:Nat):Int):=by lia
  first
   |(rw[decide_eq_true q'] at h5;exact absurd h5 (by decide))
   |(simp at h5;lia)
 cases Qo with
 |cons w1 w2=>
  cases w2
  cases w1 with
  |list ho xo=>exact⟨_,_,ns,rfl,rfl,ho,tw ns _ xo,hlen⟩
theorem El(l:OpenLaw)(args:List WData):l.row.toRowW.claim.post args (.bool true) args=true:=
 postW_of (r:=l.row.toRowW) (X:=(true==true))
  (show WShape.has [] (.bool true) .bool=true by first|rfl|decide|simp[WShape.has,WShape.arms,WShape.armsAll])
  (show(WTm.eq .res (.lit (.bool true))).value [] {args:=args,res:=some (.bool true),after:=args}=some (.bool (true==true)) from w_eq_bool (w_res rfl) w_lit) rfl
theorem Ap{l:OpenLaw}{n:Nat}{q:Program}{loose:aO}{XP:(Str→aN)→Heap→Prop}{YP:World→Heap→Prop}{d:DefRec}
 (hn:l.most=some n) (V9:d.params.defaults=[])
 (call:∀(w:World) (gF bR:Shared) (mg mb:Str→aN) (fa:Addr) (o:Obj) (pm cd doc:Value) (a:Addr) (vs:aI) (ns:List Int),
  Ground q loose [] XP w gF mg mb bR.heap→YP w bR.heap→
  bR.heap.get? fa=some o→o.data= .func (docDef d.name d.params d.body d.scope pm cd doc)→bR.heap.CodeRec cd d.name→mg d.name=some (.ref fa)→
  bR.heap.get? a=some {cls:= .type "list",data:= .seq vs.toArray}→IntsAre vs ns→ns.length≤n→bR.gens= #[]→
  codeAny (model l.prog w) callerA (.call (.ref fa) ⟨[.ref a],[]⟩) (fun r s' =>r= .ok (.ret (.bool true))∧OldK bR.heap s'.heap∧s'.os=bR.os∧AllBare s'.gens) bR):
 WalkO q loose XP YP l.row.toRowW d [] (fun f vs=>PySem.call f vs):=by
 intro w gF bR mg mb G Y fa o pm cd doc dV kV ho hd JM hD U4 hg args vals as Lv Kz hrd Qo T4;obtain rfl:dV= .none:=Dflts.none hD V9;obtain rfl:kV= .none:=Dflts.noKw hD;obtain⟨a,vs,ns,rfl,rfl,RD,hints,hlen⟩:=EM hn Lv Qo;refine enter_call (codeAny_mono (call w gF bR mg mb fa o pm cd doc a vs ns G Y ho (fd_plain hd) JM U4 RD hints hlen hg) fun r s' hq=> ?_);obtain⟨rfl,h2,h3,h4⟩:=hq;exact⟨.inl ⟨.bool true,.bool true,[],rfl,fun _=>rfl,.bool true,El l _,fun _=>⟨List.Pairwise.nil,fun _ hm=>(nomatch hm)⟩⟩,h2,h3,h4⟩
section
variable{prog:Program}{w:World}{A:Around}{E:Value→Shared→Prop}{s:Shared}{K:Frag}
def jaq(h:Heap)(L d:Addr):aP:=(List.range h.objs.size).filterMap fun a=>if a=L∨a=d then none else(h.get? a).map fun o=>(a,o)
end
end Att
namespace L2
open PySem PySem.Spec PyProof.Rows
theorem wy:∀{vs:aI} {ns:List Int},IntsAre vs ns→Vals (ns.map V.int) vs
 |_,_,.nil=> .nil
 |_,_,.cons n t h=> .cons ⟨t,rfl⟩ (wy h)
def vd(H:Hp):Prop:=∀b,H b=none∨∃o xs,H b=some (.fB o (.lst xs))
theorem Ho{P:Program}{w:World}{K:Frag}{mg mb:Str→aN}{CX:A5}{k:Nat}{fa a:Addr}{fd:FuncData}{x:Str}{sp:Sp}{bR:Shared}{vs:aI}{ns:List Int}
 (KX:K.In bR.heap) (AY:bR.heap.Ns mainGlobals mg) (hb:bR.heap.Ns builtinsNs mb) (hbb:∀x:Str,x≠ "__name__" →mb x=bootBuiltins x) (ad2:bR.heap.NoLimit) (hg:bR.gens= #[])
 (ha:bR.heap.get? a=some {cls:= .type "list",data:= .seq vs.toArray}) (hi:IntsAre vs ns) (hl:ns.length≤sizeLine) (hr:fh k callerA)
 (F:∀base:Heap,K.In base→base.Ns mainGlobals mg→bu P w K mg base CX k fa fd [x] sp) (U_:∀(s:Shared) (u:Value),BindsTo s fd ⟨[u],[]⟩ [(x,u)])
 (N8:∀H:Hp,vd H→bD K H a (ns.map V.int)→sp [.ref a] H (fun v _=>v= .bl true) fun _ _ _=>False)
 (hCX:∀H e s',CX [] H bR (fun _ _ _=>False) e s'→False):
 codeAny (model P w) callerA (.call (.ref fa) ⟨[.ref a],[]⟩) (fun r s' =>r= .ok (.ret (.bool true))∧OldK bR.heap s'.heap∧s'.os=bR.os∧AllBare s'.gens) bR:=by
 have rv:=wy hi;have aaw:=hi.length
 have core:∀H:Hp,vd H→bD K H a (ns.map V.int)→n0 P w H bR.heap→(∀b,H b≠none→b=a)→(H a≠none→K.lookup a=none)→
  codeAny (model P w) callerA (.call (.ref fa) ⟨[.ref a],[]⟩) (fun r s' =>r= .ok (.ret (.bool true))∧OldK bR.heap s'.heap∧s'.os=bR.os∧AllBare s'.gens) bR:=by
  intro H hO hS bE hA hK;have Dl:∀{b:Addr} {o:Obj},bR.heap.get? b=some o→H b=none→(xC bR.heap H).get? b=some o:=fun e n=>GG e n
  have UR:∀{b:Addr} {o:Obj} {es:Array DictEntry} {ep:Nat},bR.heap.get? b=some o→o.data= .dict es ep→H b=none:=fun{b o es ep} e d=>by
   cases q:H b with
   |none=>rfl
   |some u=>
    have e' :b=a:=hA b (by rw[q];simp);subst e';rw[ha] at e;cases e
    have d' :Data.seq vs.toArray _=Data.dict es ep:=d;cases d'
  have Ym:∀{b:Addr} {m:Str→aN},bR.heap.Ns b m→(xC bR.heap H).Ns b m:=fun{b m} ⟨o,es,ep,e,d,r⟩=>⟨o,es,ep,Dl e (UR e d),d,r⟩
  have hKb:K.In (xC bR.heap H):=fun b o e=>Dl (KX b o e) (by
   cases q:H b with
   |none=>rfl
   |some u=>
    have e' :b=a:=hA b (by rw[q];simp);subst e';rw[hK (by rw[q];simp)] at e;cases e)
  have hM:Mod K mg (xC bR.heap H):=⟨hKb,Ym AY,⟨mb,Ym hb,hbb⟩,let⟨mc,h1,h2⟩:=ad2;⟨mc,Ym h1,h2⟩⟩;have e0:uH P w K mg (xC bR.heap H) callerA [] bR H:=⟨rfl,hM,fun b o e=>Li e,Nat.le_of_eq (E9 _ _),trivial,fun b hb=>absurd (show b∈([]:aY) from hb) (by simp),bE,.of_eq hg⟩;refine codeAny_mono ((F _ hKb (Ym AY)).run callerA [] bR H ⟨[.ref a],[]⟩ [.ref a] [.ref a] _ _ hr e0 (U_ bR (.ref a)) (.cons rfl .nil) (N8 H hO hS)) fun r s' h=> ?_
  cases r with
  |error e=>exact(hCX H e s' h).elim
  |ok fl=>
   cases fl with
   |next=>exact False.elim h
   |brk=>exact False.elim h
   |cont=>exact False.elim h
   |ret u=>
    obtain⟨v,H',os,bare,un,aba,r',q⟩:=h;have q' :v= .bl true:=q;subst q';obtain rfl:u=Value.bool true:=r';refine⟨rfl,OldK.of_keep fun b o e=> ?_,os,bare⟩
    cases q:H b with
    |none=>exact un.keep b o e q (by intro z;exact absurd (show b∈([]:aY) from z) (by simp)) (by simp)
    |some u=>
     rcases hO b with z|⟨ob,xs,z⟩
     ·rw[q] at z;cases z
     ·have z2:=un.nN b ob _ z;obtain⟨e1,_⟩:=bE b _ z;obtain⟨e2,_⟩:=aba b _ z2;rw[e] at e1;cases e1
      exact e2
 cases hk:K.lookup a with
 |some o=>
  have e:=KX a o hk;rw[ha] at e;cases e;refine core (fun _=>none) (fun _=> .inl rfl) (.inr ⟨_,vs.toArray,_,hk,rfl,rfl,rfl,by rw[List.size_toArray,aaw];exact hl,by simpa using rv⟩) (fun b u z=>by have z' :(none:Option HO)=some u:=z;cases z') (fun b z=>absurd rfl z) fun z=>absurd rfl z
 |none=>
  refine core (fun b=>if b=a then some (.fB {cls:= .type "list",data:= .seq vs.toArray} (.lst (ns.map V.int))) else none) (fun b=> ?_) (.inl (.inr ⟨{cls:= .type "list",data:= .seq vs.toArray},if_pos rfl⟩)) (fun b u z=> ?_) (fun b z=> ?_) fun _=>hk
  ·by_cases hb:b=a
   ·exact .inr ⟨_,_,if_pos hb⟩
   ·exact .inl (if_neg hb)
  ·by_cases hb:b=a
   ·have z' :=(if_pos hb).symm.trans z;cases z';subst hb;exact⟨ha,by rw[List.length_map];exact hl,vs,_,rv,ha⟩
   ·have z' :=(if_neg hb).symm.trans z;cases z'
  ·by_cases hb:b=a
   ·exact hb
   ·exact absurd (if_neg hb) z
theorem LU{l:PySem.W.OpenLaw}{n k:Nat}{q:Program}{loose:aO}{XP:(Str→aN)→Heap→Prop}{YP:World→Heap→Prop}{d:DefRec}{K:Params→Frag}{CX:World→A5}{sp:World→Sp}{x:Str}
 (hn:l.most=some n) (SH:n≤sizeLine) (V9:d.params.defaults=[]) (hr:fh k callerA)
 (hY:∀(w:World) (h:Heap),YP w h→(K w.params).In h)
 (F:∀(w:World) (mg:Str→aN) (fa:Addr) (h:Heap),(K w.params).In h→h.Ns mainGlobals mg→mg d.name=some (.ref fa)→
  ∃fd:FuncData,(∀(s:Shared) (u:Value),BindsTo s fd ⟨[u],[]⟩ [(x,u)])∧
   ∀base:Heap,(K w.params).In base→base.Ns mainGlobals mg→bu l.prog w (K w.params) mg base (CX w) k fa fd [x] (sp w))
 (N8:∀(w:World) (H:Hp) (a:Addr) (ns:List Int),ns.length≤n→vd H→bD (K w.params) H a (ns.map V.int)→sp w [.ref a] H (fun v _=>v= .bl true) fun _ _ _=>False)
 (hCX:∀(w:World) (H:Hp) (s:Shared) (e:Value) (s' :Shared),CX w [] H s (fun _ _ _=>False) e s'→False):
 PySem.W.WalkO q loose XP YP l.row.toRowW d [] (fun f vs=>PySem.call f vs):=by
 refine Att.Ap hn V9 fun w gF bR mg mb fa o pm cd doc a vs ns G Y ho hd JM U4 RD hints hlen hg=> ?_;have KX:=hY w _ Y;obtain⟨fd,hb,hF⟩:=F w mg fa _ KX G.T.g U4;exact Ho KX G.T.g G.T.b G.T.builtins G.T.nolimit hg RD hints (Nat.le_trans hlen SH) hr hF hb (fun H hO hS=>N8 w H a ns hlen hO hS) fun H e s' =>hCX w H bR e s'
abbrev eF:A5:=fun _ _ _ _ _ _=>False
abbrev E0:XK:=fun _ _ _=>False
theorem aB{X:Cx}:xL eF X E0:=fun _ _ _ _ _ _ _ h=>h.elim
structure eP(K:Frag)(x qual:Str)(st:Stmt)(f:Addr)(fd:FuncData):Prop where
 ex:∃(oc:Value) (od:Option Addr) (kV doc pm:Value) (an:Option Addr) (cJ ct:Value) (Qn:Array (aN)),
  fd=fnOf x qual (kW st) (iR st) (av st) .none kV doc pm an cJ ct∧K.lookup f=some ⟨oc,od,.func fd,Qn⟩∧PySem.W.codeIn K cJ qual=true
 kp:PySem.W.keepIn K (.ref f)=true
section
variable{P:Program}{w:World}{K:Frag}{mg:Str→aN}{base:Heap}
theorem eP.ok{x qual:Str}{st:Stmt}{f:Addr}{fd:FuncData}{N ps:aO}{k:Nat}{sp:Sp}(F:eP K x qual st f fd)(S:aF N ps (av st))(len:∀vs H Q E,sp vs H Q E→vs.length=ps.length)
 (h8:∀(cJ:Value) (A:Around) (outer:List Env) (s:Shared) (H:Hp) (vs:ax) (Q:VK) (E:XK),fh k (A.deeper (envOfC qual (av st) s.heap.objs.size f cJ))→sp vs H Q E→
  ∃t,A2 (Bi eF P w K mg base N qual (av st) f cJ A outer s H E).KD (iR st) t∧t {nx:=fun _ H' =>Q .bC H',rt:=Q} (Wp N vs) H):bu P w K mg base eF (k+1) f fd ps sp:=by
 obtain⟨oc,od,kV,doc,pm,an,cJ,ct,Qn,rfl,lk,JM⟩:=F.ex;refine Wk lk JM S len fun A outer s H vs Q E hr N8=> ?_;obtain⟨t,h,q⟩:=h8 cJ A outer s H vs Q E hr N8;exact⟨t,h.KD,q⟩
theorem eP.binds{x qual:Str}{st:Stmt}{f:Addr}{fd:FuncData}{ps:aO}(F:eP K x qual st f fd)
 (h:∀(kV doc pm:Value) (an:Option Addr) (cJ ct:Value) (us:aI),us.length=ps.length→bindArgs (fnOf x qual (kW st) (iR st) (av st) .none kV doc pm an cJ ct) ⟨us,[]⟩=pure (ps.zip us)):Binds K fd ps []:=by
 obtain⟨oc,od,kV,doc,pm,an,cJ,ct,Qn,rfl,lk,JM⟩:=F.ex;exact .all (h kV doc pm an cJ ct)
theorem RI{x qual:Str}{st:Stmt}{f:Addr}{oc:Value}{od an:Option Addr}{Qn:Array (aN)}{kV doc pm cJ ct:Value}(l:K.lookup f=some ⟨oc,od,.func (fnOf x qual (kW st) (iR st) (av st) .none kV doc pm an cJ ct),Qn⟩)
 (c:PySem.W.codeIn K cJ qual=true) (k:PySem.W.keepIn K (.ref f)=true):eP K x qual st f (fnOf x qual (kW st) (iR st) (av st) .none kV doc pm an cJ ct):=⟨⟨oc,od,kV,doc,pm,an,cJ,ct,Qn,rfl,l,c⟩,k⟩
end
theorem dv{A:Around}{k:Nat}(hr:fh k A):A.units+1<cLine:=Nat.lt_of_le_of_lt (Nat.add_le_add_left (by decide:1≤64) _) hr.units
section
variable{X:Cx}
theorem pv(i:Nat){x:Str}{pos:Pos}(hN:X.N[i]? =some x:=by rfl)(hv:Vis X.env.scope x:=by first|exact Or.inl rfl|exact Or.inr (Or.inl rfl)|exact Or.inr (Or.inr rfl))(hd:(x==("__debug__" :Str))=false:=by decide)
 (JM:(x==("__classdict__" :Str))=false:=by decide):PE X (.Name x pos) (Wl i):=Sj hN hv hd JM
end
theorem dH{A B:Prop}(h:B):if false=true then A else B:=by
 rw[if_neg Bool.false_ne_true];exact h
theorem eT{A B:Prop}(h:A):if true=true then A else B:=by
 rw[if_pos rfl];exact h
theorem oH{c A B:Prop}[Decidable c](h1:c→A)(h2:¬c→B):if c then A else B:=by
 by_cases h:c
 ·rw[if_pos h];exact h1 h
 ·rw[if_neg h];exact h2 h
def aw(H H' :Hp):Prop:=∀b o,H b=some o→H' b=some o
theorem aw.refl(H:Hp):aw H H:=fun _ _ h=>h
theorem aw.trans{H H1 H2:Hp}(a:aw H H1)(b:aw H1 H2):aw H H2:=fun c o h=>b c o (a c o h)
theorem aw.free{H H' :Hp}(e:aw H H'){l:Addr}(h:H' l=Option.none):H l=Option.none:=by
 cases q:H l with
 |none=>rfl
 |some o=>
  rw[e l o q] at h;cases h
theorem aw.seq{K:Frag}{H H' :Hp}{a:Addr}{xs:ax}(e:aw H H')(h:bD K H a xs):bD K H' a xs:=by
 rcases h with(h|⟨o,h⟩)|h
 ·exact .inl (.inl (e _ _ h))
 ·exact .inl (.inr ⟨o,e _ _ h⟩)
 ·exact .inr h
section
variable{κ:Type}[DecidableEq κ]
theorem Jl{kvs:List (κ×V)}{k:κ}(h:bN kvs k=none):¬k∈kvs.map (·.1):=by
 intro m;obtain⟨p,hp,e⟩:=List.mem_map.mp m;have q:(kvs.any fun kv=>decide (kv.1=k))=true:=List.any_eq_true.mpr ⟨p,hp,decide_eq_true e⟩;rw[kn,h] at q;exact absurd q (by simp)
theorem DS:∀{l:List κ} {k:κ},l.Nodup→¬k∈l→(l++[k]).Nodup
 |[],k,_,_=>by simp
 |a::r,k,h,hk=>by
  obtain⟨h1,h2⟩:=List.nodup_cons.mp h;show(a::(r++[k])).Nodup;refine List.nodup_cons.mpr ⟨fun m=> ?_,DS h2 fun m=>hk (List.mem_cons.mpr (Or.inr m))⟩;rcases List.mem_append.mp m with q|q
  ·exact h1 q
  ·exact hk (List.mem_cons.mpr (Or.inl (List.mem_singleton.mp q).symm))
theorem Mw{kvs:List (κ×V)}{k:κ}(v:V)(hn:(kvs.map (·.1)).Nodup)(h:bN kvs k=none):((wp kvs k v).map (·.1)).Nodup:=by
 rw[ql v h,List.map_append];exact DS hn (Jl h)
end
def lu(env:Env):List (Str×NameKind)→List (Str×Addr)→List (Str×Addr)
 |[],acc=>acc
 |y::r,acc=>lu env r (if(y.2==NameKind.free)=true then(y.1,(env.cells.lookup y.1).getD 0)::acc else acc)
theorem ua{env:Env}:∀(ns:List (Str×NameKind)) (acc:List (Str×Addr)),(∀y∈ns,y.2= .free→∃c,env.cells.lookup y.1=some c)→
 (forIn ns acc fun(x:Str×NameKind) (cs:List (Str×Addr))=>if(x.2==NameKind.free)=true then(cellOf env x.1>>= fun a=>pure (ForInStep.yield ((x.1,a)::cs))) else(pure (ForInStep.yield cs):Sem (ForInStep (List (Str×Addr)))))=pure (lu env ns acc)
 |[],acc,_=>rfl
 |y::r,acc,h=>by
  rw[List.forIn_cons];have ih:=fun a=>ua r a fun z hz=>h z (List.mem_cons_of_mem _ hz);by_cases hk:(y.2==NameKind.free)=true
  ·obtain⟨c,hc⟩:=h y List.mem_cons_self (eq_of_beq hk);have e:cellOf env y.1=pure c:=by unfold cellOf;rw[hc]
   rw[if_pos hk,e];show(forIn r ((y.1,c)::acc) _:Sem (List (Str×Addr)))=_;rw[ih];show pure (lu env r ((y.1,c)::acc))=pure (lu env r (if(y.2==NameKind.free)=true then(y.1,(env.cells.lookup y.1).getD 0)::acc else acc));rw[if_pos hk,hc];rfl
  ·rw[if_neg hk];show(forIn r acc _:Sem (List (Str×Addr)))=_;rw[ih];show pure (lu env r acc)=pure (lu env r (if(y.2==NameKind.free)=true then(y.1,(env.cells.lookup y.1).getD 0)::acc else acc));rw[if_neg hk]
theorem tW{scope:Scope}{env:Env}(h:∀y∈scope.names,y.2= .free→∃c,env.cells.lookup y.1=some c):closureFor scope env=pure (lu env scope.names []):=by
 have q:=ua (env:=env) scope.names [] h;have e:closureFor scope env=((forIn scope.names ([]:List (Str×Addr)) fun(x:Str×NameKind) (cs:List (Str×Addr))=>if(x.2==NameKind.free)=true then(cellOf env x.1>>= fun a=>pure (ForInStep.yield ((x.1,a)::cs))) else(pure (ForInStep.yield cs):Sem (ForInStep (List (Str×Addr)))))>>= fun cs=>pure cs):=rfl;rw[e,q];rfl
theorem qQ{env:Env}:∀(ns:List (Str×NameKind)) (acc:List (Str×Addr)) {x:Str} {c:Addr},(∀y∈ns,y.2= .free→∃c,env.cells.lookup y.1=some c)→(lu env ns acc).lookup x=some c→env.cells.lookup x=some c∨acc.lookup x=some c
 |[],acc,x,c,_,h=> .inr h
 |y::r,acc,x,c,h,e=>by
  have e:(lu env r (if(y.2==NameKind.free)=true then(y.1,(env.cells.lookup y.1).getD 0)::acc else acc)).lookup x=some c:=e;rcases qQ r _ (fun z hz=>h z (List.mem_cons_of_mem _ hz)) e with q|q
  ·exact .inl q
  ·by_cases hk:(y.2==NameKind.free)=true
   ·rw[if_pos hk,List.lookup_cons] at q;obtain⟨d,hd⟩:=h y List.mem_cons_self (eq_of_beq hk)
    cases hx:x==y.1 with
    |true=>
     rw[hx] at q;dsimp only at q;rw[hd] at q;have hxy:x=y.1:=eq_of_beq hx;subst hxy;exact .inl (hd.trans q)
    |false=>
     rw[hx] at q;exact .inr q
   ·rw[if_neg hk] at q;exact .inr q
theorem rX{env:Env}:∀(ns:List (Str×NameKind)) (acc:List (Str×Addr)) {x:Str},((x,NameKind.free)∈ns∨∃c,acc.lookup x=some c)→∃c,(lu env ns acc).lookup x=some c
 |[],acc,x,h=>by
  rcases h with h|h
  ·cases h
  ·exact h
 |y::r,acc,x,h=>by
  show ∃c,(lu env r (if(y.2==NameKind.free)=true then(y.1,(env.cells.lookup y.1).getD 0)::acc else acc)).lookup x=some c;refine rX r _ ?_;rcases h with h|⟨c,hc⟩
  ·rcases List.mem_cons.mp h with e|h
   ·subst e;refine .inr ⟨(env.cells.lookup x).getD 0,?_⟩;rw[if_pos (by rfl),List.lookup_cons,beq_self_eq_true]
   ·exact .inl h
  ·by_cases hk:(y.2==NameKind.free)=true
   ·rw[if_pos hk]
    cases hx:x==y.1 with
    |true=>exact .inr ⟨_,by rw[List.lookup_cons,hx]⟩
    |false=>exact .inr ⟨c,by rw[List.lookup_cons,hx];exact hc⟩
   ·rw[if_neg hk];exact .inr ⟨c,hc⟩
theorem lW{env:Env}{x:Str}{k:NameKind}:∀(ns:List (Str×NameKind)),(ns.map fun(n,k)=>if(k==NameKind.free&&env.scope.kind== .function&&env.kindOf n==some .cell) then(n,NameKind.cell) else(n,k)).lookup x=some k→
 ns.lookup x=some k∨(ns.lookup x=some .free∧k= .cell)
 |[],h=>by cases h
 |(n,j)::r,h=>by
  have ih:=lW (env:=env) (x:=x) (k:=k) r;rw[List.map_cons] at h;dsimp only at h;by_cases hc:(j==NameKind.free&&env.scope.kind== .function&&env.kindOf n==some .cell)=true
  ·rw[if_pos hc,List.lookup_cons] at h;rw[List.lookup_cons]
   cases hx:x==n with
   |true=>
    rw[hx] at h
    have hj:(j==NameKind.free)=true:=by
     rw[Bool.and_eq_true,Bool.and_eq_true] at hc;exact hc.1.1
    have hj:=eq_of_beq hj;subst hj;exact .inr ⟨rfl,(Option.some.inj h).symm⟩
   |false=>
    rw[hx] at h;exact ih h
  ·rw[if_neg hc,List.lookup_cons] at h;rw[List.lookup_cons]
   cases hx:x==n with
   |true=>
    rw[hx] at h;exact .inl h
   |false=>
    rw[hx] at h;exact ih h
theorem qf{env:Env}{x:Str}:∀(ns:List (Str×NameKind)),ns.lookup x=some .free→
 (ns.map fun(n,k)=>if(k==NameKind.free&&env.scope.kind== .function&&env.kindOf n==some .cell) then(n,NameKind.cell) else(n,k)).lookup x=some .cell∨
 (ns.map fun(n,k)=>if(k==NameKind.free&&env.scope.kind== .function&&env.kindOf n==some .cell) then(n,NameKind.cell) else(n,k)).lookup x=some .free
 |[],h=>by cases h
 |(n,j)::r,h=>by
  have ih:=qf (env:=env) (x:=x) r;rw[List.map_cons];dsimp only;rw[List.lookup_cons] at h;by_cases hc:(j==NameKind.free&&env.scope.kind== .function&&env.kindOf n==some .cell)=true
  ·rw[if_pos hc,List.lookup_cons]
   cases hx:x==n with
   |true=>exact .inl rfl
   |false=>
    rw[hx] at h;exact ih h
  ·rw[if_neg hc,List.lookup_cons]
   cases hx:x==n with
   |true=>
    rw[hx] at h;exact .inr h
   |false=>
    rw[hx] at h;exact ih h
def i4(X:Cx)(N:aO)(scope:Scope)(cl:List (Str×Addr))(C:Addr)(s:Shared)(H:Hp)(fp:aY):Cx where
 prog:=X.prog
 w:=X.w
 K:=X.K
 mg:=X.mg
 base:=X.base
 A:=X.A
 N:=N
 gF:=s
 H₀:=H
 env:=compEnvC scope cl C X.env
 outer:=X.stack
 stack:=X.stack
 ex:=fp
 fn:=fun _=>false
 calm:=X.calm
 pn:=[]
 xe:=fun _ _=>False
def rO(k:Nat)(js:List Nat)(σ:St):St:=List.replicate k none++js.map fun j=>σ.getD j none
structure o_(X:Cx)(N:aO)(scope:Scope)(k:Nat)(js:List Nat):Prop where
 kind:scope.kind= .function
 cell:∀y∈scope.names,y.2≠.cell
 loc:∀y∈scope.names,y.2= .local→scope.names.lookup y.1=some .local
 free:∀y∈scope.names,y.2= .free→X.env.kindOf y.1=some .cell∨X.env.kindOf y.1=some .free
 len:N.length=k+js.length
 names:∀(i j:Nat),js[i]? =some j→X.N[j]? =N[k+i]?
 js:∀(i:Nat) (x:Str),N[k+i]? =some x→scope.names.lookup x=some .free
section
variable{X:Cx}{pins:aP}{σ:St}{H:Hp}{s:Shared}{N:aO}{scope:Scope}{k:Nat}{js:List Nat}
theorem o_.cells(S:o_ X N scope k js)(ok:X.Ok):∀y∈scope.names,y.2= .free→∃c,X.env.cells.lookup y.1=some c:=fun y hy hf=>ok.has _ (S.free y hy hf)
theorem GA{fp:aY}{h1:Heap}{t1:Nat}(I:Inv X pins σ H s)(S:o_ X N scope k js)(f:∀b∈fp,rN X pins H b)(fo:∀b∈fp,∃o,s.heap.get? b=some o)
 (hn:h1.Ns s.heap.objs.size fun _=>none) (hk:∀b o,s.heap.get? b=some o→h1.get? b=some o):
 Inv (i4 X N scope (lu X.env scope.names []) s.heap.objs.size s H fp) [] (rO k js σ) H {s with heap:=h1,toks:=t1}:=by
 have cs:=S.cells I.ok
 have NW:∀{x:Str} {c:Addr},(lu X.env scope.names []).lookup x=some c→X.env.cells.lookup x=some c:=fun{x c} e=>by
  rcases qQ scope.names [] cs e with q|q
  ·exact q
  ·cases q
 refine⟨⟨I.ok.mod,S.kind,I.ok.glob,I.ok.blt,Nat.le_refl _,fun x y c e1 e2=>I.ok.inj x y c (NW e1) (NW e2),fun x hx=> ?_,fun x c hf _=>(nomatch hf),I.ok.hd,I.ok.frames,.inl rfl,fun b hb=>⟨?_,fun x c e=> ?_⟩,I.bs,
  Nat.le_trans I.ok.Gu I.sz,fun b o e hb=> ?_,fun b hb z=> ?_,I.stack,I.DY⟩,rfl,I.bare,Un.kept hk,⟨_,hn,fun i x v e1 e2 e3=> ?_⟩,fun x c e=> ?_,I.bE.fresh (Nat.le_refl _),fun x c e=>I.l_ x c (NW e),fun p hp=> ?_,I.bE.kept hk,?_⟩
 ·have hx:(relabel scope X.env).names.lookup x=some .cell∨(relabel scope X.env).names.lookup x=some .free:=hx
  have fr:scope.names.lookup x=some .free:=by
   rcases hx with q|q
   ·rcases lW scope.names q with z|z
    ·exact absurd rfl (S.cell _ (PySem.mem_of_lookup z))
    ·exact z.1
   ·rcases lW scope.names q with z|z
    ·exact z
    ·exact z.1
  exact rX scope.names [] (.inl (PySem.mem_of_lookup fr))
 ·obtain⟨o,ho⟩:=fo b hb;exact Nat.ne_of_lt (Heap.lt_size ho)
 ·exact(f b hb).2.2.2.2.1 x c (NW e)
 ·rcases(f b hb).2.2.2.1 with z|z
  ·exact I.ok.F0 b o e z
  ·exact absurd (Nat.lt_of_lt_of_le (Nat.lt_of_lt_of_le (Heap.lt_size e) I.ok.Gu) z) (Nat.lt_irrefl _)
 ·rcases List.mem_cons.mp (I.yo b z) with q|q
  ·exact(f b hb).2.1 q
  ·exact(f b hb).2.2.1 q
 ·have e1:N[i]? =some x:=e1
  have hi:k≤i:=by
   by_cases hi:i<k
   ·unfold rO at e2;rw[List.getElem?_append_left (by rw[List.length_replicate];exact hi),List.getElem?_replicate,if_pos hi] at e2;cases e2
   ·omega
  obtain⟨d,rfl⟩:∃d,i=k+d:=⟨i - k,by omega⟩;unfold rO at e2;rw[List.getElem?_append_right (by rw[List.length_replicate];omega),List.length_replicate,List.getElem?_map] at e2;have ed:k+d - k=d:=by omega
  rw[ed] at e2
  cases ej:js[d]? with
  |none=>rw[ej] at e2;cases e2
  |some j=>
   rw[ej] at e2;have e2:σ.getD j none=some v:=Option.some.inj e2
   have e2' :σ[j]? =some (some v):=by
    rw[List.getD_eq_getElem?_getD] at e2
    cases q:σ[j]? with
    |none=>rw[q] at e2;cases e2
    |some z=>rw[q] at e2;rw[show z=some v from e2]
   have en:X.N[j]? =some x:=(S.names d j ej).trans e1;have fr:=S.js d x e1;have kx:=S.free _ (PySem.mem_of_lookup fr) rfl;obtain⟨m,_,hl⟩:=I.loc;obtain⟨u,r,l⟩:=hl j x v en e2' (by rcases kx with q|q;exact .inr (.inl q);exact .inr (.inr q));refine⟨u,r,.inr ⟨?_,?_⟩⟩
   ·exact qf (env:=X.env) scope.names fr
   ·rcases l with⟨l,_⟩|⟨_,c,ec,ic⟩
    ·rcases kx with q|q
     ·dsimp only at q;rw[q] at l;cases l
     ·dsimp only at q;rw[q] at l;cases l
    ·obtain⟨c',e'⟩:=rX (env:=X.env) scope.names [] (.inl (PySem.mem_of_lookup fr));have e'' :=NW e';rw[ec] at e'';cases e'';exact⟨c,e',ic.keeps hk⟩
 ·obtain⟨v,q⟩:=I.cell x c (NW e);exact⟨v,q.keeps hk⟩
 ·have hp:p∈([]:aP):=hp;cases hp
 ·show(rO k js σ).length=N.length;unfold rO;rw[List.length_append,List.length_replicate,List.length_map,S.len]
end
def dU(σ dC :St):Prop:=∀(i:Nat) v,σ[i]? =some (some v)→dC[i]? =some (some v)
theorem dU.refl(σ:St):dU σ σ:=fun _ _ h=>h
theorem dU.own{σ dC :St}{k i:Nat}{js:List Nat}{v:Option V}(h:dU (rO k js σ) dC)(hi:i<k):dU (rO k js σ) (dC.set i v):=fun j u e=>by
 have hj:j≠i:=fun z=>by
  subst z;unfold rO at e;rw[List.getElem?_append_left (by rw[List.length_replicate];exact hi),List.getElem?_replicate,if_pos hi] at e;cases e
 rw[List.getElem?_set_ne (Ne.symm hj)];exact h j u e
def jf(J:It)(k:Nat)(js:List Nat)(g:TG)(tt:TT)(te:TE)(σ:St)(H1:Hp)(Q:VK):Prop:=∀p,H1 p=none→∃W:Nat→Nat→ax→Hp→Prop,(∃m,W 0 m [] (upd H1 p (.lst [])))∧
 ∀i m ys H,W i m ys H→H p=some (.lst ys)∧((J.stop i H∧Q (.ref p) H)∨(J.go i H∧ys.length<sizeLine∧∀x H',J.tJ i H x H'→g x (rO k js σ) H' fun me H2=>dU (rO k js σ) me∧tt me H2 fun b H3=>
  if b=true then te me H3 fun y H4=>H4 p=some (.lst ys)∧∃m',m' <m∧W (i+1) m' (ys++[y]) (upd H4 p (.lst (ys++[y]))) else ∃m',m' <m∧W (i+1) m' ys H3))
def OC(wi:TI)(k:Nat)(js:List Nat)(g:TG)(tt:TT)(te:TE):TE:=fun σ H Q=>wi σ H fun J H1=>jf J k js g tt te σ H1 Q
def K9:TT:=fun _ H Q=>Q true H
def HH(Y:Cx)(ifs:b8)(t:TT):Prop:=
 ∀(pins:aP) (s:Shared) (σ:St) (H:Hp) (Q:Bool→Hp→Prop),Inv Y pins σ H s→t σ H Q→
  wpAny (model Y.prog Y.w) Y.A (forIn ifs true fun c r=>if r=true then do let ok←isTrue c Y.env (eval c Y.env);pure (ForInStep.yield ok) else pure (ForInStep.yield r)) (TP Y pins σ Q) Y.xe s
theorem qF{Y:Cx}:HH Y [] K9:=fun _ _ _ H _ I h=>wpAny_tests_nil ⟨H,I,h⟩
theorem xm{Y:Cx}{c:Expr}{t:TT}(h:PT Y c t):HH Y [c] t:=fun pins s σ H Q I hq=>wpAny_tests_one (h pins s σ H Q I hq)
section
variable{prog:Program}{w:World}{A:Around}{R:Result→Shared→Prop}{s:Shared}
theorem ym{elt target iter:Expr}{ifs:b8}{scope:Scope}{pos:Pos}{it acc:Value}{env:Env}(I:Nat→Shared→Prop)
 (turn:∀n s,I n s→wpAny (model prog w) A (pyNext it) (fun r bR=>match r with
  |none=>R (.ok .next) bR
  |some v=>wpAny (model prog w) A (letOwnedTupleGo target it v) (fun _ gF=>wpAny (model prog w) A (assign target env v) (fun _ r8=>
   wpAny (model prog w) A (forIn ifs true fun c r=>if r=true then do let ok←isTrue c env (eval c env);pure (ForInStep.yield ok) else pure (ForInStep.yield r)) (fun ok AD=>
    if ok=true then wpAny (model prog w) A (eval elt env) (fun x Mz=>
     wpAny (model prog w) A (call (.builtin "list.append") [acc,x]) (fun _ Tt=>∃m,m<n∧I m Tt) (fun _ _=>False) Mz) (fun _ _=>False) AD
    else ∃m,m<n∧I m AD) (fun _ _=>False) r8) (fun _ _=>False) gF) (fun _ _=>False) bR) (fun _ _=>False) s)
 (n:Nat) (h:I n s):
 codeAny (model prog w) A (.compLoop (.ListComp elt [⟨target,iter,ifs,0⟩] scope pos) 0 it acc env) R s:=by
 refine codeAny_loop rfl I (fun n s hI=> ?_) n h;show wpAny _ A ((compTurn (.ListComp elt [⟨target,iter,ifs,0⟩] scope pos) 0 it acc env).onRaise (fun x=>do noteFrame x env;theTreesLotGoes x)) _ _ s;refine wpAny_noted ?_;rw[compTurn_list];refine wpAny_bind (wpAny_standAt (wpAny_bind (wpAny_mono (turn n s hI) (fun r bR uV=> ?_) fun _ _ h' =>h'.elim)))
 cases r with
 |none=>exact wpAny_pure uV
 |some v=>
  refine wpAny_bind (wpAny_mono uV (fun _ gF h₀=> ?_) fun _ _ h' =>h'.elim);refine wpAny_bind (wpAny_mono h₀ (fun _ r8 Gn=>wpAny_bind (wpAny_mono Gn (fun ok AD Lc=> ?_) fun _ _ h' =>h'.elim)) fun _ _ h' =>h'.elim)
  cases ok with
  |false=>exact wpAny_pure ⟨rfl,Lc⟩
  |true=>
   exact wpAny_bind (wpAny_bind (wpAny_mono Lc (fun x Mz ZG=>wpAny_bind (wpAny_mono ZG (fun _ Tt ZX=>wpAny_pure (wpAny_pure ⟨rfl,ZX⟩)) fun _ _ h' =>h'.elim)) fun _ _ h' =>h'.elim))
end
section
variable{X:Cx}{tg iter elt:Expr}{ifs:b8}{scope:Scope}{pos:Pos}{N:aO}{k:Nat}{js:List Nat}{wi:TI}{g:TG}{tt:TT}{te:TE}
theorem wg{pins:aP}{s2:Shared}{σ:St}{H2:Hp}{it:Addr}{fp:aY}{tn:Nat→Heap→Prop}{J:It}{Q:VK}{RR:Value→Addr→Result→Shared→Prop}{E:Value→Shared→Prop}(hc:X.calm=true)(S:o_ X N scope k js)
 (hb:∀(cl:List (Str×Addr)) (C:Addr) (s:Shared) (H:Hp) (fp:aY),PG (i4 X N scope cl C s H fp) tg g∧HH (i4 X N scope cl C s H fp) ifs tt∧PE (i4 X N scope cl C s H fp) elt te)
 (I2:Inv X pins σ H2 s2) (T:Turn X.prog X.w X.K tg J fp it tn) (ML:tn 0 s2.heap) (f2:∀b∈fp,rN X pins H2 b)
 (h:∀p,H2 p=none→∃W:Nat→Nat→ax→Hp→Prop,(∃m,W 0 m [] (upd H2 p (.lst [])))∧
  ∀i m ys H,W i m ys H→H p=some (.lst ys)∧((J.stop i H∧Q (.ref p) H)∨(J.go i H∧ys.length<sizeLine∧∀x H',J.tJ i H x H'→g x (rO k js σ) H' fun me H2=>dU (rO k js σ) me∧tt me H2 fun b H3=>
   if b=true then te me H3 fun y H4=>H4 p=some (.lst ys)∧∃m',m' <m∧W (i+1) m' (ys++[y]) (upd H4 p (.lst (ys++[y]))) else ∃m',m' <m∧W (i+1) m' ys H3)))
 (hR:∀(p C:Addr) (s' :Shared) (H' :Hp) (m:Str→aN),Inv X pins σ H' s'→Q (.ref p) H'→s'.heap.Ns C m→H' C=none→C≠X.env.locals→X.gF.heap.objs.size≤C→(∀x c,X.env.cells.lookup x=some c→c≠C)→(∀q∈X.pn++pins,q.1≠C)→RR (.ref p) C (.ok .next) s'):
 wpAny (model X.prog X.w) X.A (newList []) (fun acc AD=>wpAny (model X.prog X.w) X.A (newFunctionEnv scope X.env.globals (lu X.env scope.names []) [] X.env.qual none .none (some X.env)) (fun Ue Mz=>
  codeAny (model X.prog X.w) X.A (.compStart (.ListComp elt [⟨tg,iter,ifs,0⟩] scope pos) 0 (.ref it) acc {Ue with scope:=relabel scope X.env}) (RR acc Ue.locals) Mz) E AD) E s2:=by
 have hf:H2 s2.heap.objs.size=none:=I2.bE.fresh (Nat.le_refl _);obtain⟨W,⟨m0,w0⟩,turn⟩:=h s2.heap.objs.size hf;have I3:Inv X pins σ (upd H2 s2.heap.objs.size (.lst [])) {s2 with heap:=s2.heap.push {cls:= .type "list",dict:=none,data:= .seq ([]:aI).toArray},toks:=s2.toks}:=I2.Xk (ys:=[]) .nil (Nat.zero_le _);refine wpAny_newObj_type (wpAny_newFunctionEnv S.cell (by intro y hy;simp at hy) (fun uV Bl BJ=> ?_) S.kind);dsimp only at Bl BJ ⊢;generalize hp:s2.heap.objs.size=p at*
 generalize SE:s2.heap.push {cls:= .type "list",dict:=none,data:= .seq ([]:aI).toArray}=g3 at Bl BJ I3 ⊢;have SW:∀b o,s2.heap.get? b=some o→g3.get? b=some o:=fun b o e=>SE▸Heap.get?_push_of_some _ e;have SR:∀b o,g3.get? b=some o→uV.get? b=some o:=fun b o e=>BJ.extBut b o (Nat.ne_of_lt (Heap.lt_size e)) (Heap.get?_push_of_some _ e)
 have Zz:∀b∈fp,b≠p:=fun b hb z=>by
  obtain⟨o,ho,_⟩:=T.obj _ _ ML b hb;have:=Heap.lt_size ho;rw[hp,z] at this;exact Nat.lt_irrefl _ this
 have f3:∀b∈fp,rN X pins (upd H2 p (.lst [])) b:=fun b hb=>⟨by rw[ah (Zz b hb)];exact(f2 b hb).1,(f2 b hb).2⟩
 have fo3:∀b∈fp,∃o,g3.get? b=some o:=fun b hb=>by
  obtain⟨o,ho,_⟩:=T.obj _ _ ML b hb;exact⟨o,SW b o ho⟩
 have J0:=GA (s:={s2 with heap:=g3,toks:=s2.toks}) (h1:=uV) (t1:=s2.toks+([]:List (Str×Value)).length) I3 S f3 fo3 Bl SR;have st4:tn 0 uV:=T.keep _ _ _ ML fun b hb o e=>SR b o (SW b o e);obtain⟨hG,hT,hE⟩:=hb (lu X.env scope.names []) g3.objs.size {s2 with heap:=g3,toks:=s2.toks} (upd H2 p (.lst [])) fp
 generalize hY:i4 X N scope (lu X.env scope.names []) g3.objs.size {s2 with heap:=g3,toks:=s2.toks} (upd H2 p (.lst [])) fp=Y at*
 have yp:Y.prog=X.prog:=by rw[←hY];rfl
 have yw:Y.w=X.w:=by rw[←hY];rfl
 have yK:Y.K=X.K:=by rw[←hY];rfl
 have yA:Y.A=X.A:=by rw[←hY];rfl
 have yc:Y.calm=true:=by rw[←hY];exact hc
 have yx:Y.xe=fun _ _=>False:=by rw[←hY];rfl
 have ye:Y.env=compEnvC scope (lu X.env scope.names []) g3.objs.size X.env:=by rw[←hY];rfl
 have ypn:Y.pn=[]:=by rw[←hY];rfl
 have yex:Y.ex=fp:=by rw[←hY];rfl
 have yfs:Y.fs=Fq X.stack:=by rw[←hY];rfl
 have NW:∀{x:Str} {c:Addr},(lu X.env scope.names []).lookup x=some c→X.env.cells.lookup x=some c:=fun{x c} e=>by
  rcases qQ scope.names [] (S.cells I2.ok) e with q|q
  ·exact q
  ·cases q
 have BO:∀{H' :Hp},(∀b∈fp,H' b=none)→∀b∈fp,rN Y [] H' b:=fun hn b hb=>by
  refine⟨hn b hb,?_,?_,?_,fun x c e=> ?_,fun q hq=> ?_⟩
  ·rw[ye];obtain⟨o,ho⟩:=fo3 b hb;exact Nat.ne_of_lt (Heap.lt_size ho)
  ·rw[yfs];intro z;rcases List.mem_cons.mp (I2.yo b z) with q|q
   ·exact(f2 b hb).2.1 q
   ·exact(f2 b hb).2.2.1 q
  ·rw[yex];exact .inl hb
  ·rw[ye] at e;exact(f2 b hb).2.2.2.2.1 x c (NW e)
  ·rw[ypn] at hq;cases hq
 have adn:∀{dC :St} {H' :Hp} {s' :Shared},Inv Y [] dC H' s'→Q (.ref p) H'→RR (.ref p) g3.objs.size (.ok .next) s' :=fun{dC H' s'} I' q=>by
  have u:=I'.base;have ho:=I'.os;rw[yfs,yex] at u;subst hY;have IX:Inv X pins σ H' s' :=I3.Uh (ch:=fp) ho u I'.bE I'.bare fun b hb=>⟨(f2 b hb).2.2.2.1,(f2 b hb).2.1,(f2 b hb).2.2.2.2.1,(f2 b hb).2.2.2.2.2⟩;obtain⟨m,hn,_⟩:=I'.loc;refine hR p g3.objs.size s' H' m IX q hn I'.free (fun z=> ?_) (Nat.le_trans I3.sz (Nat.le_refl _)) (fun x c e z=> ?_) fun r hr z=> ?_
  ·exact absurd (z▸I3.lt) (Nat.lt_irrefl _)
  ·obtain⟨v,o,ho,_⟩:=I3.cell x c e;exact absurd (z▸Heap.lt_size ho) (Nat.lt_irrefl _)
  ·obtain⟨ho,_⟩:=I3.pin r hr;exact absurd (z▸Heap.lt_size ho) (Nat.lt_irrefl _)
 have loop:codeAny (model X.prog X.w) X.A (.compLoop (.ListComp elt [⟨tg,iter,ifs,0⟩] scope pos) 0 (.ref it) (.ref p) (compEnvC scope (lu X.env scope.names []) g3.objs.size X.env)) (RR (.ref p) g3.objs.size) {s2 with heap:=uV,toks:=s2.toks+([]:List (Str×Value)).length}:=by
  refine ym (fun n s' =>∃i ys H',Inv Y [] (rO k js σ) H' s'∧tn i s'.heap∧(∀b∈fp,H' b=none)∧W i n ys H') ?_ m0 ⟨0,[],_,J0,st4,fun b hb=>(f3 b hb).1,w0⟩
  rintro n s5 ⟨i,ys,H5,I5,SV,X7,w5⟩
  obtain⟨YL,w5⟩:=turn i n ys H5 w5;rw[←yp,←yw,←yA,←ye];have T' :Turn Y.prog Y.w Y.K tg J fp it tn:=by rw[yp,yw,yK];exact T
  rcases w5 with⟨stop,q⟩|⟨go,hz,step⟩
  ·refine bW (T'.done Y rfl rfl rfl yc i [] s5 _ H5 _ I5 (BO X7) SV stop) fun r s6 ⟨hr,I6⟩=> ?_;subst hr;exact adn I6 q
  ·refine bW (T'.item Y rfl rfl rfl yc i [] s5 _ H5 _ I5 (BO X7) SV go) fun r s6 ⟨u,hr,h6⟩=> ?_;subst hr;refine bW h6 fun _ s7 ⟨x,H7,I7,r7,y7,st7,fr7⟩=> ?_;have I7' :=I7.pinned (BO fr7) (T.obj _ _ st7)
   have fin:∀{SA:St} {H8:Hp} {s8:Shared},dU (rO k js σ) SA→Inv Y ([]++uE fp s7.heap) SA H8 s8→Inv Y [] (rO k js σ) H8 s8∧tn (i+1) s8.heap∧∀b∈fp,H8 b=none:=fun{SA H8 s8} sb I8=>by
    refine⟨?_,T.keep _ _ _ st7 fun b hb o e=>(I8.pin (b,o) (List.mem_append_right _ (List.mem_append_right _ (kH hb e)))).1,fun b hb=> ?_⟩
    ·exact(I8.p9 (pins:=[])).weak (by rw[I5.len,I8.len]) sb
    ·obtain⟨o,e,d⟩:=T.obj _ _ st7 b hb;exact(I8.pin (b,o) (List.mem_append_right _ (List.mem_append_right _ (kH hb e)))).2.1
   have wE:∀{α:Type} {t:Sem α} {P:α→Shared→Prop} {s' :Shared},wpAny (model Y.prog Y.w) Y.A t P Y.xe s'→wpAny (model Y.prog Y.w) Y.A t P (fun _ _=>False) s' :=fun{α t P s'} h=>by rw[yx] at h;exact h
   refine bW (wE (hG _ s7 _ H7 x u _ I7' r7 (step x H7 y7))) fun _ s8 ⟨SA,H8,I8,sb,q8⟩=> ?_;refine bW (wE (hT _ s8 SA H8 _ I8 q8)) fun b s9 ⟨H9,I9,q9⟩=> ?_
   cases b with
   |false=>
    have q9:∃m',m' <n∧W (i+1) m' ys H9:=q9;obtain⟨m',hm,w9⟩:=q9;obtain⟨a1,a2,a3⟩:=fin sb I9;exact⟨m',hm,i+1,ys,H9,a1,a2,a3,w9⟩
   |true=>
    refine bW (wE (hE _ s9 SA H9 _ I9 q9)) fun y Fe ⟨v,Si,I10,r10,e10,m',hm,w10⟩=> ?_;refine bW (wE (cv _ Fe SA Si (.ref p) [v] (.ref p) [y] (fun _ Qp=>∃m',m' <n∧W (i+1) m' (ys++[v]) Qp) I10 rfl (.cons r10 .nil) ⟨p,ys,v,rfl,rfl,e10,hz,m',hm,w10⟩)) fun z Tr ⟨_,Qp,I11,_,m2,hm2,w11⟩=> ?_;obtain⟨a1,a2,a3⟩:=fin sb I11;exact⟨m2,hm2,i+1,ys++[v],Qp,a1,a2,a3,w11⟩
 refine codeAny_compStart_list loop ?_;exact T.self _ _ _ _ _ st4 loop
theorem b9(hc:X.calm=true)(S:o_ X N scope k js)(hi:PI X tg iter wi)
 (hb:∀(cl:List (Str×Addr)) (C:Addr) (s:Shared) (H:Hp) (fp:aY),PG (i4 X N scope cl C s H fp) tg g∧HH (i4 X N scope cl C s H fp) ifs tt∧PE (i4 X N scope cl C s H fp) elt te)
 (hs:∀x,foldedSetIterable iter X.env x=pure x:=by intro _;rfl):PE X (.ListComp elt [⟨tg,iter,ifs,0⟩] scope pos) (OC wi k js g tt te):=by
 intro pins s σ H Q I h;rw[eval_ListComp];refine wpAny_comprehension_free (use:=none) rfl hs (tW (S.cells I.ok)) S.kind S.loc (bW (hi pins s σ H _ I h) fun v s1 h1=>bW h1 fun Yy s2 h2=> ?_);obtain⟨it,fp,tn,J,H2,e,I2,T,ML,f2,q⟩:=h2;subst e;refine wg (RR:=fun acc C=>compPost (model X.prog X.w) X.A X.xe none (EP X pins σ Q) acc C) hc S hb I2 T ML f2 q ?_;intro p C s' H' m IX q' hn hC hL h0 sP Lf;refine⟨m,hn,fun h' sb=>⟨.ref p,H',?_,rfl,q'⟩⟩;exact IX.turned (t' :=s'.toks) (fun b o hb e=>(sb.2 b hb).trans e) hC (Ne.symm hL).symm (.inr h0) sP Lf
theorem xx{i:Nat}{x:Str}{pos' iJ:Pos}(hN:X.N.Nodup)(NF :X.N[i]? =some x)(hx:Loc X.env.scope x)(hc:X.calm=true)(S:o_ X N scope k js)(hi:PI X tg iter wi)
 (hb:∀(cl:List (Str×Addr)) (C:Addr) (s:Shared) (H:Hp) (fp:aY),PG (i4 X N scope cl C s H fp) tg g∧HH (i4 X N scope cl C s H fp) ifs tt∧PE (i4 X N scope cl C s H fp) elt te)
 (hsw:swapsWith (.ListComp elt [⟨tg,iter,ifs,0⟩] scope iJ) (some (.Name x pos')) pos.line X.env=pure true:=by rfl)
 (hs:∀x,foldedSetIterable iter X.env x=pure x:=by intro _;rfl) (hf:X.fn x=true∨X.env.scope.names.lookup x=some .local:=by first|exact .inl rfl|exact .inr rfl|assumption):
 PS X (.Assign [.Name x pos'] (.ListComp elt [⟨tg,iter,ifs,0⟩] scope iJ) pos) (Ld (OC wi k js g tt te) (CZ i)):=by
 intro pins s σ H D I h;rw[exec_Assign_Name_used _ _ _ _ hsw];refine wpAny_bind (wpAny_standAt (wpAny_bind ?_));show wpAny _ X.A (do let _←comprehension (.ListComp elt [⟨tg,iter,ifs,0⟩] scope iJ) scope X.env _ (newList []) false (eval iter X.env) (some (assign (.Name x pos') X.env))) _ _ s
 refine wpAny_bind (wpAny_mono (wpAny_comprehension_free (use:=some (assign (.Name x pos') X.env)) (Q:=fun _ s' =>SP X pins D .next s') rfl hs (tW (S.cells I.ok)) S.kind S.loc (bW (hi pins s σ H _ I h) fun v s1 h1=>bW h1 fun Yy s2 h2=> ?_))
  (fun _ s' hq=>wpAny_pure (wpAny_pure hq)) fun _ _ e=>e)
 obtain⟨it,fp,tn,J,H2,e,I2,T,ML,f2,q⟩:=h2;subst e;refine wg (Q:=fun v H' =>D.nx (σ.set i (some v)) H') (RR:=fun acc C=>compPost (model X.prog X.w) X.A X.xe (some (assign (.Name x pos') X.env)) (fun _ s' =>SP X pins D .next s') acc C) hc S hb I2 T ML f2 q ?_;intro p C s' H' m IX q' hn hC hL h0 sP Lf;show wpAny _ X.A (assign (.Name x pos') X.env (.ref p)) _ _ s';refine wpAny_assign_Name (v_ (v:= .ref p) IX hN NF hx rfl (fun RK I'' ⟨a,sb,ha⟩=> ?_) hf)
 have hCa:C≠a:=by
  rcases ha with z|z
  ·rw[z];exact hL
  ·exact fun e=>sP x a z e.symm
 refine⟨m,hn.sameBut sb hCa,fun h' sb' =>⟨σ.set i (some (.ref p)),H',?_,q'⟩⟩;exact I''.turned (t' :=RK.toks) (fun b o hb e=>(sb'.2 b hb).trans e) hC hL (.inr h0) sP Lf
end
def cOk(osc:Scope)(ON N:aO)(scope:Scope)(k:Nat)(js:List Nat):Bool:=
 (scope.kind== .function)&&scope.names.all (fun y=> !(y.2== .cell))&&scope.names.all (fun y=> !(y.2== .local)||scope.names.lookup y.1==some .local)&&
 scope.names.all (fun y=> !(y.2== .free)||(osc.names.lookup y.1==some .cell||osc.names.lookup y.1==some .free))&&(N.length==k+js.length)&&
 (List.range js.length).all (fun i=>ON[js.getD i 0]? ==N[k+i]?)&&(N.drop k).all fun x=>scope.names.lookup x==some .free
theorem bq{X:Cx}{N:aO}{scope:Scope}{k:Nat}{js:List Nat}(h:cOk X.env.scope X.N N scope k js=true):o_ X N scope k js:=by
 unfold cOk at h;simp only[Bool.and_eq_true] at h;obtain⟨⟨⟨⟨⟨⟨h1,h2⟩,h3⟩,h4⟩,h5⟩,h6⟩,h7⟩:=h;have h5:=eq_of_beq h5;rw[List.all_eq_true] at h2 h3 h4 h6 h7;refine⟨eq_of_beq h1,fun y hy e=> ?_,fun y hy e=> ?_,fun y hy e=> ?_,h5,fun i j e=> ?_,fun i x e=> ?_⟩
 ·have q:=h2 y hy;rw[e] at q;exact absurd q (by decide)
 ·have q:=h3 y hy;rw[e] at q;exact eq_of_beq (by simpa using q)
 ·have q:=h4 y hy;rw[e] at q;have q:(X.env.scope.names.lookup y.1==some .cell||X.env.scope.names.lookup y.1==some .free)=true:=by simpa using q
  rw[Bool.or_eq_true] at q;rcases q with q|q
  ·exact .inl (eq_of_beq q)
  ·exact .inr (eq_of_beq q)
 ·have hi:i<js.length:=(List.getElem?_eq_some_iff.mp e).1;have q:=eq_of_beq (h6 i (List.mem_range.mpr hi));rw[List.getD_eq_getElem?_getD,e] at q;exact q
 ·refine eq_of_beq (h7 x ?_);rw[List.mem_iff_getElem?];exact⟨i,by rw[List.getElem?_drop];exact e⟩
section
variable{X:Cx}
theorem dw:eZ X (.builtin "isinstance") (fun xs H Q=>∃x T t b,xs=[x,.ty T]∧qw X.K H x t∧kitOne X.K t (.type T)=some b∧Q (.bl b) H):=by
 intro pins s σ H xs us Q I r h;obtain⟨x,T,t,b,rfl,ty,e,q⟩:=h;obtain⟨u,c,rfl,ru,rc⟩:=jad r;cases rc;exact Fc I ru ty e fun tk=>⟨.bl b,H,I.tok tk,rfl,q⟩
def ahF:V→Option Int→Option Int→Hp→VK→Prop:=fun x lo hi H Q=>∃z,x= .str z∧z.length≤sizeLine∧Q (.str (Txt.slice z lo hi)) H
theorem xD:R4 X ahF:=by
 intro pins s σ H x v vl vu lo hi sl Q I rx hs pl pu h;obtain⟨z,rfl,hz,q⟩:=h;obtain⟨t,rfl⟩:=rx;refine⟨"str",_,F.slot_str_getitem.lookup,typeIs_str _ _ _,?_⟩
 have fin:∀{l u:Option (Int×Tok)},l.map (·.1)=lo→u.map (·.1)=hi→s.heap.IsSlice sl l u none→wpAny (model X.prog X.w) X.A (getItem (.str z t) (.ref sl)) (EP X pins σ Q) X.xe s:=fun{l u} el eu mq=>by
  refine wpAny_getItem_str_slice (st:=none) mq rfl ?_;have e:sliceMade z t l u none=sliceMade z t l u none:=rfl;subst el eu;exact post_val_or_str ⟨Nat.le_trans (Txt.slice_le z _ _) hz,fun t' k=>⟨.str (Txt.slice z _ _),H,I.tok k,⟨t',rfl⟩,q⟩⟩
 obtain⟨o,ho,hc,hd⟩:=hs
 cases pl with
 |none=>
  cases pu with
  |none=>exact fin (l:=none) (u:=none) rfl rfl ⟨o,ho,hc,hd⟩
  |int j uj=>exact fin (l:=none) (u:=some (j,uj)) rfl rfl ⟨o,ho,hc,hd⟩
 |int i ui=>
  cases pu with
  |none=>exact fin (l:=some (i,ui)) (u:=none) rfl rfl ⟨o,ho,hc,hd⟩
  |int j uj=>exact fin (l:=some (i,ui)) (u:=some (j,uj)) rfl rfl ⟨o,ho,hc,hd⟩
end
def S6(x:Str):It:=⟨fun i _=>i<x.length,fun i H v H' =>H' =H∧∃c,x.cps[i]? =some c∧v= .str ⟨#[c]⟩,fun i _=>x.length≤i⟩
theorem AU{P:Program}{w:World}{K:Frag}{tg:Expr}{x:Str}{I:Addr}{St:Nat→Heap→Prop}(W:∀A:Around,A.handled=none→Walks P w A I [I] [I] x.cps.size (SignAt x) St)
 (hob:∀i h,St i h→∃o,h.get? I=some o∧∀v,o.data≠.cell v) (ht:∀v,letOwnedTupleGo tg (.ref I) v=pure ())
 (WS:∀(A:Around) (i:Nat) (s:Shared) (Q:Value→Shared→Prop) (E:Value→Shared→Prop),St i s.heap→Q (.ref I) s→wpAny (model P w) A (pyIter (.ref I)) Q E s):Turn P w K tg (S6 x) [I] I (fun i h=>i≤x.length∧St i h) where
 mem:=by simp
 obj:=fun i h st b hb=>by
  have e:b=I:=by simpa using hb
  subst e;exact hob i h st.2
 keep:=fun i h h' st k=>⟨st.1,(W {handled:=none} rfl).frame i h h' st.2 k⟩
 item:=by
  intro X hP hw hK hc i pins s σ H E J hf st hg;subst hP hw hK;obtain⟨f0,f1,f2,f3,f4,f5⟩:=hf I (by simp);refine(W X.A (J.ok.hd hc)).item i s _ _ hg st.2 fun v h' tk hv Gk k=> ?_;have J1:Inv X pins σ H {s with heap:=h',toks:=tk}:=J.turned (fun b o hb e=>k b o (by simpa using hb) e) f0 f1 f3 f4 f5;obtain⟨c,u,PN,rfl⟩:=hv;exact⟨_,rfl,wpAny_of_eq (ht _) ⟨.str ⟨#[c]⟩,H,J1,⟨u,rfl⟩,⟨rfl,c,PN,rfl⟩,⟨hg,Gk⟩,fun b hb=>(hf b hb).1⟩⟩
 done:=by
  intro X hP hw hK hc i pins s σ H E J hf st hg;subst hP hw hK;obtain⟨f0,f1,f2,f3,f4,f5⟩:=hf I (by simp);have e:i=x.cps.size:=Nat.le_antisymm st.1 hg;subst e;exact(W X.A (J.ok.hd hc)).done s _ _ st.2 fun h' tk k=>⟨rfl,J.turned (fun b o hb e=>k b o (by simpa using hb) e) f0 f1 f3 f4 f5⟩
 self:=fun A _ s Q E st h=>WS A _ s Q E st.2 h
section
variable{X:Cx}{tg:Expr}
def abX(tl:TE):TI:=fun σ H R=>tl σ H fun x H1=>∃z,x= .str z∧R (S6 z) H1
theorem Rc{l:Expr}{tl:TE}(hl:PE X l tl)(hc:X.calm=true)(ht:∀it v,letOwnedTupleGo tg it v=pure ():=by intro _ _;rfl):PI X tg l (abX tl):=by
 intro pins s σ H R I h;refine bW (hl pins s σ H _ I h) fun v s1 ⟨x,H1,I1,r,z,e,q⟩=> ?_;subst e;obtain⟨t,rfl⟩:=r;cases ha:z.cps.all (· <128)
 ·refine wpAny_pyIter_wide ha ?_
  exact⟨_,[_],_,S6 z,H1,rfl,I1.kept (t' :=s1.toks) fun b u e=>Heap.get?_push_of_some _ e,AU (fun A' hA=>Walks.strWide hA _ z t) (fun i h st=>by
   obtain⟨o,ho,_,hd⟩:=st;exact⟨o,ho,fun v z=>by rw[hd] at z;cases z⟩) (ht _) (fun A _ s Q E st h=>wpAny_pyIter_striter_wide st h),⟨Nat.zero_le _,_,Heap.get?_push_size _ rfl,rfl,rfl⟩,fun b hb=>by
   have e:b=s1.heap.objs.size:=by simpa using hb
   subst e;exact I1.uP (Nat.le_refl _) (I1.bE.fresh (Nat.le_refl _)),q⟩
 ·refine wpAny_pyIter_ascii ha ?_
  exact⟨_,[_],_,S6 z,H1,rfl,I1.kept (t' :=s1.toks) fun b u e=>Heap.get?_push_of_some _ e,AU (fun A' hA=>Walks.strAscii hA _ z t) (fun i h st=>by
   obtain⟨o,ho,_,hd⟩:=st;exact⟨o,ho,fun v z=>by rw[hd] at z;cases z⟩) (ht _) (fun A _ s Q E st h=>wpAny_pyIter_striter_ascii st h),⟨Nat.zero_le _,_,Heap.get?_push_size _ rfl,rfl,rfl⟩,fun b hb=>by
   have e:b=s1.heap.objs.size:=by simpa using hb
   subst e;exact I1.uP (Nat.le_refl _) (I1.bE.fresh (Nat.le_refl _)),q⟩
end
section
variable{X:Cx}
theorem y6:∀{bs:List Bool} {us:aI},Vals (bs.map V.bl) us→us=bs.map Value.bool
 |[],_,.nil=>rfl
 |b::bs,_,.cons r t=>by
  cases r;rw[y6 (bs:=bs) t];rfl
theorem jae{bs:List Bool}{f:Nat→Bool}(h:∀i b,bs[i]? =some b→f i=b):(List.range bs.length).all f=bs.all id:=by
 rw[Bool.eq_iff_iff,List.all_eq_true,List.all_eq_true];constructor
 ·intro q b hb;obtain⟨i,hi⟩:=List.mem_iff_getElem?.mp hb;have hl:i<bs.length:=(List.getElem?_eq_some_iff.mp hi).1;rw[←h i b hi];exact q i (List.mem_range.mpr hl)
 ·intro q i hi;have hl:=List.mem_range.mp hi;rw[h i bs[i] (by simp[hl])];exact q _ (List.getElem_mem hl)
theorem zV(hc:X.calm=true):eZ X (.builtin "all") (fun xs H Q=>∃(a:Addr) (bs:List Bool),xs=[.ref a]∧H a=some (.lst (bs.map V.bl))∧Q (.bl (bs.all id)) H):=by
 intro pins s σ H xs us Q I r h;obtain⟨a,bs,rfl,ha,q⟩:=h;obtain⟨u,rfl,ru⟩:=wT r;cases ru;obtain⟨its,r,pl,hz⟩:=I.list (bD.of ha);have e:=y6 r;have gB:=I.bE.lt ha;have I1:Inv X pins σ H {s with heap:=s.heap.push {cls:= .type "list_iterator",data:= .fields #[.ref a,.int 0 0]}}:=I.kept (t' :=s.toks) fun b u e=>Heap.get?_push_of_some _ e;refine call_all_walk (wpAny_pyIter_list pl.isList ⟨_,_,_,_,_,_,fun i=>bs.getD i true,rfl,Walks.list (A:=X.A.in1) (I.ok.hd hc) _ a (Nat.ne_of_lt gB) its.toArray,⟨⟨_,Heap.get?_push_size _ rfl,rfl,rfl⟩,pl.isList.push _⟩,?_,fun h' tk k=> ?_⟩)
 ·intro i v s' Q' E' hv hQ;rw[e] at hv;have hv:(bs.map Value.bool)[i]? =some v:=by simpa using hv
  rw[List.getElem?_map] at hv
  cases eb:bs[i]? with
  |none=>rw[eb] at hv;cases hv
  |some b=>
   rw[eb] at hv;cases hv;refine wpAny_truthy_bool ?_;have e2:bs.getD i true=b:=by rw[List.getD_eq_getElem?_getD,eb];rfl
   rw[←e2];exact hQ
 ·refine⟨.bl (bs.all id),H,I1.turned (fun b o hb e=>k b o (by simpa using hb) e) (I.bE.fresh (Nat.le_refl _)) (fun z=> ?_) (.inr I.sz) (fun x c e z=> ?_) (fun p hp z=> ?_),?_,q⟩
  ·exact absurd (z▸I.lt) (Nat.lt_irrefl _)
  ·obtain⟨v,o,ho,_⟩:=I.cell x c e;exact absurd (z▸Heap.lt_size ho) (Nat.lt_irrefl _)
  ·obtain⟨ho,_⟩:=I.pin p hp;exact absurd (z▸Heap.lt_size ho) (Nat.lt_irrefl _)
  ·show Value.bool _=Value.bool _;have e3:its.toArray.size=bs.length:=by rw[e];simp
   rw[e3,jae fun i b hb=>by rw[List.getD_eq_getElem?_getD,hb];rfl]
def vy:ax→ax→Bool
 |[],[]=>true
 |x::xs,y::ys=>Bw x y&&vy xs ys
 |_,_=>false
theorem uJ:∀(xs ys:ax),xs.length=ys.length→(List.range xs.length).all (fun j=>Bw (xs.getD j .bC) (ys.getD j .bC))=vy xs ys
 |[],[],_=>rfl
 |x::xs,y::ys,h=>by
  rw[List.length_cons,List.range_succ_eq_map,List.all_cons,List.all_map];have h' :xs.length=ys.length:=by simpa using h
  rw[←(show(Bw x y&&vy xs ys)=vy (x::xs) (y::ys) from rfl),←uJ xs ys h'];rfl
 |[],_::_,h=>by simp at h
 |_::_,[],h=>by simp at h
def aan(neg:Bool):R2:=fun x y H Q=>∃a b xs ys,x= .ref a∧y= .ref b∧H a=some (.lst xs)∧H b=some (.lst ys)∧
 ((xs.length≠ys.length∧Q (.bl neg) H)∨(xs.length=ys.length∧xs.all ka=true∧ys.all ka=true∧Q (.bl (if neg then !vy xs ys else vy xs ys)) H))
theorem As{xs:ax}{us:aI}{j:Nat}(r:Vals xs us)(f:xs.all ka=true)(hj:j<us.length):∃x,xs[j]? =some x∧RelV x us[j]∧ka x=true:=by
 have hl:=r.length;have hx:xs[j]? =some xs[j]:=by simp[hl,hj]
 obtain⟨u,hu,ru⟩:=r.get hx;have e:us[j]? =some us[j]:=by simp[hj]
 rw[e] at hu;cases hu;exact⟨_,hx,ru,List.all_eq_true.mp f _ (List.getElem_mem _)⟩
theorem pe(hu:X.A.units<cLine):mh X (compareOp .Eq) (aan false):=by
 intro pins s σ H x y v u Q I rx ry h;obtain⟨a,b,xs,ys,rfl,rfl,ha,hb,h⟩:=h;cases rx;cases ry;obtain⟨its,r,pl,hz⟩:=I.list (bD.of ha);obtain⟨BX,r2,pl2,hz2⟩:=I.list (bD.of hb);have hl:=r.length;have vi:=r2.length;rcases h with⟨tL,q⟩|⟨he,f1,f2,q⟩
 ·exact SeqAt.eq_list_lengthsAt pl.isList pl2.isList (by simp;lia) hu ⟨.bl false,H,I,rfl,q⟩
 ·refine SeqAt.eq_listAt (e:=fun j=>Bw (xs.getD j .bC) (ys.getD j .bC)) pl.isList pl2.isList (by simp;lia) hu (fun j h1 h2=> ?_) ⟨.bl (vy xs ys),H,I,?_,q⟩
  ·have h1:j<its.length:=by simpa using h1
   have h2:j<BX.length:=by simpa using h2
   obtain⟨x,e1,rx,fx⟩:=As r f1 h1;obtain⟨y,e2,ry,fy⟩:=As r2 f2 h2;have g1:xs.getD j .bC=x:=by rw[List.getD_eq_getElem?_getD,e1];rfl
   have g2:ys.getD j .bC=y:=by rw[List.getD_eq_getElem?_getD,e2];rfl
   show SeqAt.EqAt _ _ its.toArray[j] BX.toArray[j] (Bw (xs.getD j .bC) (ys.getD j .bC));rw[g1,g2];exact Hu rx ry fx fy
  ·show Value.bool _=Value.bool _;rw[←uJ xs ys he,List.size_toArray,hl]
end
theorem aw.upd{H:Hp}{p:Addr}{o:HO}(h:H p=none):aw H (upd H p o):=fun b u e=>by
 rw[ah (ak e h)];exact e
structure va(J:It)(H:Hp)(xs:ax):Prop where
 go:∀i H',aw H H'→i<xs.length→J.go i H'
 tJ:∀i H' x gi,aw H H'→J.tJ i H' x gi→gi =H'∧(i<xs.length→xs[i]? =some x)
 stop:∀i H',aw H H'→xs.length≤i→J.stop i H'
theorem D2(z:Str)(H:Hp):va (S6 z) H (z.cps.toList.map fun c=>V.str ⟨#[c]⟩) where
 go:=fun i H' _ h=>by
  show i<z.cps.size;simpa using h
 tJ:=fun i H' x gi _ h=>by
  obtain⟨e,c,hc,rfl⟩:=h;refine⟨e,fun _=> ?_⟩;rw[List.getElem?_map,Array.getElem?_toList,hc];rfl
 stop:=fun i H' _ h=>by
  show z.cps.size≤i;simpa using h
theorem gJ{K:Frag}{a:Addr}{xs:ax}{H:Hp}(h:bD K H a xs):va (QY K a) H xs where
 go:=fun i H' s hi=>⟨xs,xs[i],s.seq h,by simp[hi]⟩
 tJ:=fun i H' x gi s q=>⟨q.1,fun _=>q.2 xs (s.seq h)⟩
 stop:=fun i H' s hi=>⟨xs,s.seq h,hi⟩
theorem sk(lo:Int)(n:Nat)(H:Hp):va (OX lo n) H ((List.range n).map fun(i:Nat)=>V.int (lo+(i:Int))) where
 go:=fun i H' _ h=>by
  show i<n;simpa using h
 tJ:=fun i H' x gi _ q=>by
  obtain⟨e,rfl⟩:=q;refine⟨e,fun h=> ?_⟩;have h:i<n:=by simpa using h
  simp[List.getElem?_map,List.getElem?_range h]
 stop:=fun i H' _ h=>by
  show n≤i;simpa using h
theorem wc{J:It}{xs:ax}{k:Nat}{js:List Nat}{g:TG}{tt:TT}{te:TE}{σ:St}{H:Hp}{Q:VK}(pb:V→Bool)(fe:V→V)(F:va J H xs)(hlen:xs.length≤sizeLine)
 (h8:∀(i:Nat) (x:V) (H' :Hp) (C1:V→Hp→Prop) (C0:Hp→Prop),xs[i]? =some x→aw H H'→(pb x=true→C1 (fe x) H')→(pb x=false→C0 H')→
  g x (rO k js σ) H' fun me H2=>dU (rO k js σ) me∧tt me H2 fun b H3=>if b=true then te me H3 C1 else C0 H3)
 (hq:∀p,H p=none→Q (.ref p) (upd H p (.lst ((xs.filter pb).map fe)))):
 jf J k js g tt te σ H Q:=by
 intro p hp;refine⟨fun i m ys H' =>m=xs.length - i∧i≤xs.length∧ys=((xs.take i).filter pb).map fe∧H' =upd H p (.lst ys),⟨xs.length,rfl,Nat.zero_le _,rfl,rfl⟩,?_⟩
 rintro i m ys H' ⟨rfl,hi,rfl,rfl⟩
 refine⟨af,?_⟩;have hs:aw H (upd H p (.lst (((xs.take i).filter pb).map fe))):=aw.upd hp;by_cases gB:i<xs.length
 ·refine .inr ⟨F.go i _ hs gB,?_,fun x gi hy=> ?_⟩
  ·rw[List.length_map];have h1:((xs.take i).filter pb).length≤(xs.take i).length:=List.length_filter_le _ _;rw[List.length_take] at h1
   lia
  ·obtain⟨rfl,hx⟩:=F.tJ i _ x gi hs hy;have hx:=hx gB;have et:(xs.take (i+1)).filter pb=(xs.take i).filter pb++(if pb x=true then[x] else[]):=PySem.take_succ_filter pb xs i x hx;refine h8 i x _ _ _ hx hs (fun hb=>⟨af,xs.length - (i+1),by lia,rfl,gB,?_,?_⟩) (fun hb=>⟨xs.length - (i+1),by lia,rfl,gB,?_,rfl⟩)
   ·rw[et,if_pos hb,List.map_append];rfl
   ·rw[yy]
   ·rw[et,hb];simp
 ·have e:i=xs.length:=by lia
  subst e;refine .inl ⟨F.stop _ _ hs (Nat.le_refl _),?_⟩;rw[List.take_length];exact hq p hp
theorem lr{X:Cx}{Sy:List Stmt}{t:TS}(R:TS)(h:A2 X Sy t)(hR:∀D σ H,R D σ H→t D σ H):A2 X Sy R:=fun pins s σ H D I hq=>h pins s σ H D I (hR D σ H hq)
def Itv(K:Frag)(a:Addr)(n:Nat):It:=
 ⟨fun i H=>i<n∧∃xs,bD K H a xs∧xs.length=n,fun i H x H' =>H' =H∧∀xs,bD K H a xs→xs[n - 1 - i]? =some x,fun i _=>n≤i⟩
theorem HW{P:Program}{w:World}{K:Frag}{tg:Expr}(a it:Addr)(n:Nat):Turn P w K tg (Itv K a n) [it] it (fun i h=>i≤n∧h.IsRevIter it a ((n:Int) - 1 - (i:Int))) where
 mem:=by simp
 obj:=fun i h st b hb=>by
  have e:b=it:=by simpa using hb
  subst e;obtain⟨_,o,e,c,d⟩:=st;exact⟨o,e,fun v z=>by rw[d] at z;cases z⟩
 keep:=fun i h h' st k=>⟨st.1,st.2.at fun o e=>k it (by simp) o e⟩
 item:=by
  intro X hP hw hK hc i pins s σ H E I hf st hg;subst hP hw hK;obtain⟨hi,xs,hq,hlen⟩:=hg;obtain⟨its,rv,p,hz⟩:=I.list hq;have hl:=rv.length;have hx:xs[n - 1 - i]? =some xs[n - 1 - i]:=by simp[show n - 1 - i<xs.length by omega]
  obtain⟨u,hu,ru⟩:=rv.get hx;obtain⟨f0,f1,f2,f3,f4,f5⟩:=hf it (by simp);have e:(n:Int) - 1 - (i:Int)=((n - 1 - i:Nat):Int):=by omega
  have hit:=st.2;rw[e] at hit;refine wpAny_pyNext_rev_item hit p.isList (x:=u) (by simpa using hu) fun h' Gk sb=> ?_;have I1:Inv X pins σ H {s with heap:=h'}:=I.turned (t' :=s.toks) (fun b o hb e=>(sb.2 b hb).trans e) f0 f1 f3 f4 f5;have e2:((n - 1 - i:Nat):Int) - 1=(n:Int) - 1 - ((i+1:Nat):Int):=by omega
  rw[e2] at Gk;obtain⟨o,eo,c,d⟩:=id Gk;exact⟨u,rfl,yX (s:={s with heap:=h'}) eo c d (by decide) ⟨_,H,I1,ru,⟨rfl,fun ys hy=>by rw[I.uU hy hq];exact hx⟩,⟨hi,Gk⟩,fun b hb=>(hf b hb).1⟩⟩
 done:=by
  intro X hP hw hK hc i pins s σ H E I hf st hg;subst hP hw hK;obtain⟨f0,f1,f2,f3,f4,f5⟩:=hf it (by simp);have ei:i=n:=Nat.le_antisymm st.1 hg;subst ei;have hit:=st.2;have e:(i:Int) - 1 - (i:Int)= -1:=by omega
  rw[e] at hit;exact wpAny_pyNext_rev_end (I.ok.hd hc) hit fun h' eb=>⟨rfl,I.turned (t' :=s.toks) (fun b o hb e=>eb b o hb e) f0 f1 f3 f4 f5⟩
 self:=fun _ _ _ _ _ st h=>wpAny_pyIter_revIter st.2 h
def Ite(K:Frag)(a:Addr):It:=
 ⟨fun i H=>∃xs x,bD K H a xs∧xs[i]? =some x,fun i H v H' =>∃T x,v= .ref T∧H T=none∧H' =upd H T (.tup [.int i,x])∧∀xs,bD K H a xs→xs[i]? =some x,fun i H=>∃xs,bD K H a xs∧xs.length≤i⟩
theorem EG{P:Program}{w:World}{K:Frag}{elts:b8}{kt:Nat}{pt:Pos}(a e it:Addr)(hei:e≠it):Turn P w K (.Tuple elts kt pt) (Ite K a) [e,it] e (fun i h=>(∃old,IsEnum h e it i old)∧h.IsListIter it a i) where
 mem:=by simp
 obj:=fun i h st b hb=>by
  obtain⟨⟨old,he⟩,o,ho,c,d⟩:=st;have hb:b=e∨b=it:=by simpa using hb
  rcases hb with rfl|rfl
  ·exact⟨_,he,fun v z=>by cases z⟩
  ·exact⟨o,ho,fun v z=>by rw[d] at z;cases z⟩
 keep:=fun i h h' st k=>by
  obtain⟨⟨old,he⟩,hit⟩:=st;exact⟨⟨old,k e (by simp) _ he⟩,hit.at fun o x=>k it (by simp) o x⟩
 item:=by
  intro X hP hw hK hc i pins s σ H E I hf st hg;subst hP hw hK;obtain⟨xs,x,hq,hx⟩:=hg;obtain⟨its,rv,p,hz⟩:=I.list hq;obtain⟨u,hu,ru⟩:=rv.get hx;obtain⟨⟨old,he⟩,hit⟩:=st;obtain⟨f0,f1,f2,f3,f4,f5⟩:=hf e (by simp);obtain⟨g0,g1,g2,g3,g4,g5⟩:=hf it (by simp);have ab6:e<s.heap.objs.size:=Heap.lt_size he;have So:it<s.heap.objs.size:=by obtain⟨_,x,_⟩:=hit;exact Heap.lt_size x
  refine wpAny_pyNext_enum_item he hit p.isList (x:=u) (by simpa using hu) hei fun h' ho sL hT hsz hk=> ?_;refine⟨.ref s.heap.objs.size,rfl,?_⟩;refine wpAny_letOwnedTupleGo_enum ho fun KO QJ Eh => ?_;have EA:H s.heap.objs.size=none:=I.bE.fresh (Nat.le_refl _);have WD:s.heap.objs.size≠e:=Nat.ne_of_gt ab6;have kk:∀b o,b≠e→b≠it→s.heap.get? b=some o→KO.get? b=some o:=fun b o Ko hbi q=>(Eh.2 b Ko).trans (hk b o Ko hbi q);have Sg :KO.get? s.heap.objs.size=some {cls:= .type "tuple",data:= .seq #[.int i s.toks,u]}:=(Eh.2 _ WD).trans hT;have tL:∀b u,H b=some u→b≠e∧b≠it:=fun b u q=>⟨(fun z=>by rw[z,f0] at q;cases q),(fun z=>by rw[z,g0] at q;cases q)⟩
  have I2:Inv X pins σ (upd H s.heap.objs.size (.tup [.int i,x])) {s with heap:=KO,toks:=s.toks+1}:=by
   have new:bw X.prog X.w (upd H s.heap.objs.size (.tup [.int i,x])) KO s.heap.objs.size (.tup [.int i,x]):=⟨(show 2≤sizeLine by decide),[.int i s.toks,u],.cons ⟨_,rfl⟩ (.cons ru .nil),⟨_,Sg,rfl,_,rfl⟩⟩
   refine I.step (g' :=s.gens) (d' :=s.drawn) (ch:=[e,it]) (fun b hb=> ?_) (fun b o _ _ hc q _=>kk b o (fun z=>hc (by simp[z])) (fun z=>hc (by simp[z])) q) (fun b o _ _ hc q _=>⟨o.slots,kk b o (fun z=>hc (by simp[z])) (fun z=>hc (by simp[z])) q⟩)
    (fun b o _ q n=> ?_) (fun b o hc q=>⟨o,kk b o (fun z=>hc (by simp[z])) (fun z=>hc (by simp[z])) q⟩) (fun b ys q=> ?_) (fun b o ys q=> ?_) (fun b ps q=>⟨#[],?_⟩) (fun m hm=> ?_) (fun b u q=> ?_) I.bare
   ·have hb:b=e∨b=it:=by simpa using hb
    rcases hb with rfl|rfl
    ·exact⟨f3,f1,f4,f5⟩
    ·exact⟨g3,g1,g4,g5⟩
   ·rw[ah (Nat.ne_of_lt (Heap.lt_size q))];exact n
   ·rw[ah (ak q EA)];exact q
   ·rw[ah (ak q EA)];exact q
   ·rw[ah (ak q EA),q];simp
   ·obtain⟨o,es,ep,q,r⟩:=hm;exact⟨o,es,ep,kk _ o (Ne.symm f1) (Ne.symm g1) q,r⟩
   ·by_cases hb:b=s.heap.objs.size
    ·subst hb;rw[af] at q;cases q;exact new
    ·rw[ah hb] at q;refine(I.bE b u q).rZ (fun c v hc q' =>kk c v ?_ ?_ q') (fun c q' => ?_) fun c ys q' => ?_
     ·rcases hc with z|z
      ·rw[z];exact(tL b u q).1
      ·exact(tL c _ z).1
     ·rcases hc with z|z
      ·rw[z];exact(tL b u q).2
      ·exact(tL c _ z).2
     ·rw[ah (ak q' EA)];exact q'
     ·rw[ah (ak q' EA)];exact q'
  refine⟨.ref s.heap.objs.size,_,I2,rfl,⟨_,x,rfl,EA,rfl,fun ys hy=>by rw[I.uU hy hq];exact hx⟩,⟨⟨_,by simpa using QJ⟩,sL.at fun o q=>(Eh.2 it hei.symm).trans q⟩,fun b hb=> ?_⟩;have hb:b=e∨b=it:=by simpa using hb
  rcases hb with rfl|rfl
  ·rw[ah (Ne.symm WD)];exact f0
  ·rw[ah (Nat.ne_of_lt So)];exact g0
 done:=by
  intro X hP hw hK hc i pins s σ H E I hf st hg;subst hP hw hK;obtain⟨xs,hq,hx⟩:=hg;obtain⟨its,rv,p,hz⟩:=I.list hq;obtain⟨⟨old,he⟩,hit⟩:=st;obtain⟨g0,g1,g2,g3,g4,g5⟩:=hf it (by simp);have hl:=rv.length;exact wpAny_pyNext_enum_end (I.ok.hd hc) he hit p.isList (by simp;omega) fun h' eb=>⟨rfl,I.turned (t' :=s.toks) (fun b o hb e=>eb b o hb e) g0 g1 g3 g4 g5⟩
 self:=fun _ _ _ _ _ st h=>by
  obtain⟨⟨old,he⟩,_⟩:=st;exact wpAny_pyIter_enum he h
section
variable{X:Cx}{tg:Expr}
def ae2(K:Frag)(ta:TA):TI:=fun σ H R=>ta σ H fun vs H1=>∃a xs,vs=[.ref a]∧bD K H1 a xs∧R (Itv K a xs.length) H1
theorem zb{a:Expr}{ta:TA}{p pos:Pos}(hg:Gl X "reversed")(hm:X.mg "reversed"=none)(ha:PA X [a] ta)(hs:starEach [a] X.env=[(false,eval a X.env)]:=by rfl):PI X tg (.Call (.Name "reversed" p) [a] [] pos) (ae2 X.K ta):=by
 intro pins s σ H R I h;refine Call_ (m3 I hg hm Boot.«reversed» (PyProof.Rows.callWith_type1 (bW (ha pos pins s σ H _ I h) fun us s1 ⟨vs,H1,I1,r1,q1⟩=> ?_) hs rfl));obtain⟨l,xs,e,hq,q⟩:=q1;subst e;obtain⟨u,rfl,ru⟩:=wT r1;cases ru;obtain⟨its,rv,pl,hz⟩:=I1.list hq;have hl:=rv.length;refine call_reversed_list pl.isList ?_;have I2:Inv X pins σ H1 {s1 with heap:=s1.heap.push (revObj l ((its.toArray.size:Int) - 1))}:=I1.kept (t' :=s1.toks) fun b o e=>Heap.get?_push_of_some _ e
 have hit:(s1.heap.push (revObj l ((its.toArray.size:Int) - 1))).IsRevIter s1.heap.objs.size l ((xs.length:Int) - 1 - ((0:Nat):Int)):=by
  have e:((xs.length:Int) - 1 - ((0:Nat):Int))=((its.toArray.size:Int) - 1):=by rw[List.size_toArray,hl];simp
  rw[e];exact⟨_,Heap.get?_push_size _ rfl,rfl,rfl⟩
 refine wpAny_pyIter_revIter (s:={s1 with heap:=s1.heap.push (revObj l ((its.toArray.size:Int) - 1))}) hit ?_;refine⟨s1.heap.objs.size,[s1.heap.objs.size],_,_,H1,rfl,I2,HW l _ xs.length,⟨Nat.zero_le _,hit⟩,fun b hb=> ?_,q⟩;have e:b=s1.heap.objs.size:=by simpa using hb
 subst e;exact I1.uP (Nat.le_refl _) (I1.bE.fresh (Nat.le_refl _))
def T6(K:Frag)(ta:TA):TI:=fun σ H R=>ta σ H fun vs H1=>∃a xs,vs=[.ref a]∧H1 a=some (.lst xs)∧R (Ite K a) H1
theorem qx{a:Expr}{ta:TA}{p pos:Pos}{elts:b8}{kt:Nat}{pt:Pos}(hg:Gl X "enumerate")(hm:X.mg "enumerate"=none)(ha:PA X [a] ta)(hs:starEach [a] X.env=[(false,eval a X.env)]:=by rfl):
 PI X (.Tuple elts kt pt) (.Call (.Name "enumerate" p) [a] [] pos) (T6 X.K ta):=by
 intro pins s σ H R I h;refine Call_ (m3 I hg hm Boot.«enumerate» (PyProof.Rows.callWith_type1 (bW (ha pos pins s σ H _ I h) fun us s1 ⟨vs,H1,I1,r1,q1⟩=> ?_) hs rfl));obtain⟨l,xs,e,hq,q⟩:=q1;subst e;obtain⟨u,rfl,ru⟩:=wT r1;cases ru;obtain⟨its,n,rv,ho,hz⟩:=I1.lst hq;refine call_enumerate_1 ho fun h' he hit hsz hk=> ?_;have I2:Inv X pins σ H1 {s1 with heap:=h'}:=I1.kept (t' :=s1.toks) hk;refine wpAny_pyIter_enum (s:={s1 with heap:=h'}) he ?_;refine⟨s1.heap.objs.size+1,[s1.heap.objs.size+1,s1.heap.objs.size],_,_,H1,rfl,I2,EG l _ _ (Nat.succ_ne_self _),⟨⟨_,he⟩,hit⟩,fun b hb=> ?_,q⟩;have hb:b=s1.heap.objs.size+1∨b=s1.heap.objs.size:=by simpa using hb
 rcases hb with rfl|rfl
 ·exact I1.uP (Nat.le_succ _) (I1.bE.fresh (Nat.le_succ _))
 ·exact I1.uP (Nat.le_refl _) (I1.bE.fresh (Nat.le_refl _))
end
structure nD(J:It)(H:Hp)(n:Nat)(Y:Nat→V→Hp→Prop):Prop where
 go:∀i H',aw H H'→i<n→J.go i H'
 tJ:∀i H' x gi,aw H H'→i<n→J.tJ i H' x gi→aw H' gi∧Y i x gi
 stop:∀i H',aw H H'→n≤i→J.stop i H'
theorem va.g{J:It}{H:Hp}{xs:ax}(F:va J H xs):nD J H xs.length (fun i x _=>xs[i]? =some x) where
 go:=F.go
 tJ:=fun i H' x gi s hi h=>by
  obtain⟨e,q⟩:=F.tJ i H' x gi s h;exact⟨e▸aw.refl H',q hi⟩
 stop:=F.stop
theorem E4{K:Frag}{a:Addr}{xs:ax}{H:Hp}(h:bD K H a xs):va (Itv K a xs.length) H xs.reverse where
 go:=fun i H' s hi=>⟨by simpa using hi,xs,s.seq h,rfl⟩
 tJ:=fun i H' x gi s q=>⟨q.1,fun hi=>by
  have hi:i<xs.length:=by simpa using hi
  rw[List.getElem?_reverse hi];exact q.2 xs (s.seq h)⟩
 stop:=fun i H' s hi=>by
  show xs.length≤i;simpa using hi
theorem uY{K:Frag}{a:Addr}{xs:ax}{H:Hp}(h:bD K H a xs):nD (Ite K a) H xs.length (fun i x H' =>∃T y,x= .ref T∧H' T=some (.tup [.int i,y])∧xs[i]? =some y) where
 go:=fun i H' s hi=>⟨xs,xs[i],s.seq h,by simp[hi]⟩
 tJ:=fun i H' x gi s hi q=>by
  obtain⟨T,y,rfl,hT,rfl,hy⟩:=q;exact⟨aw.upd hT,T,y,rfl,af,hy xs (s.seq h)⟩
 stop:=fun i H' s hi=>⟨xs,s.seq h,hi⟩
theorem gU{J:It}{n k:Nat}{js:List Nat}{Y:Nat→V→Hp→Prop}{g:TG}{tt:TT}{te:TE}{σ:St}{H:Hp}{Q:VK}(pb:Nat→Bool)(fe:Nat→V)(F:nD J H n Y)(hlen:n≤sizeLine)
 (h8:∀(i:Nat) (x:V) (H' :Hp) (C1:V→Hp→Prop) (C0:Hp→Prop),i<n→aw H H'→Y i x H'→(pb i=true→∀gi,aw H' gi→C1 (fe i) gi)→(pb i=false→∀gi,aw H' gi→C0 gi)→
  g x (rO k js σ) H' fun me H2=>dU (rO k js σ) me∧tt me H2 fun b H3=>if b=true then te me H3 C1 else C0 H3)
 (hq:∀p H',H p=none→aw H H'→H' p=some (.lst (((List.range n).filter pb).map fe))→Q (.ref p) H'):
 jf J k js g tt te σ H Q:=by
 intro p hp;refine⟨fun i m ys H' =>m=n - i∧i≤n∧ys=((List.range i).filter pb).map fe∧H' p=some (.lst ys)∧aw H H',⟨n,rfl,Nat.zero_le _,rfl,af,aw.upd hp⟩,?_⟩
 rintro i m ys H' ⟨rfl,hi,rfl,hl,hs⟩
 refine⟨hl,?_⟩;by_cases gB:i<n
 ·refine .inr ⟨F.go i _ hs gB,?_,fun x gi hy=> ?_⟩
  ·rw[List.length_map];have h1:((List.range i).filter pb).length≤(List.range i).length:=List.length_filter_le _ _;rw[List.length_range] at h1;omega
  ·obtain⟨s1,y1⟩:=F.tJ i _ x gi hs gB hy
   have et:(List.range (i+1)).filter pb=(List.range i).filter pb++(if pb i=true then[i] else[]):=by
    rw[List.range_succ,List.filter_append];cases hb:pb i<;>simp[hb]
   refine h8 i x gi _ _ gB (hs.trans s1) y1 (fun hb H3 s3=>⟨s3 _ _ (s1 _ _ hl),n - (i+1),by omega,rfl,gB,?_,af,?_⟩) (fun hb H3 s3=>⟨n - (i+1),by omega,rfl,gB,?_,s3 _ _ (s1 _ _ hl),(hs.trans s1).trans s3⟩)
   ·rw[et,if_pos hb,List.map_append];rfl
   ·intro c o e;rw[ah (ak e hp)];exact s3 _ _ (s1 _ _ (hs _ _ e))
   ·rw[et,hb];simp
 ·have e:i=n:=by omega
  subst e;exact .inl ⟨F.stop _ _ hs (Nat.le_refl _),hq p H' hp hs hl⟩
mutual
inductive Dat (H:Hp):V→PyData→Prop
 |bC:Dat H .bC .none
 |bl (b:Bool):Dat H (.bl b) (.bool b)
 |int (i:Int):Dat H (.int i) (.int i)
 |str (x:Str):Dat H (.str x) (.str x)
 |lst {a:Addr} {xs:ax} {ds:List PyData} (e:H a=some (.lst xs)) (h:DatAll H xs ds):Dat H (.ref a) (.list ds)
 |tup {a:Addr} {xs:ax} {ds:List PyData} (e:H a=some (.tup xs)) (h:DatAll H xs ds):Dat H (.ref a) (.tuple ds)
inductive DatAll (H:Hp):ax→List PyData→Prop
 |nil:DatAll H [] []
 |cons {x:V} {xs:ax} {d:PyData} {ds:List PyData} (h:Dat H x d) (t:DatAll H xs ds):DatAll H (x::xs) (d::ds)
end
mutual
theorem Dat.reads{P:Program}{w:World}{H:Hp}{h:Heap}(ok:n0 P w H h):∀{v:V} {d:PyData} {u:Value},Dat H v d→RelV v u→(∃as,Reads h u d as)∧d.hasDict=false
 |_,_,_,.bC,r=>by cases r;exact⟨⟨_,.none⟩,by simp only[PyData.hasDict]⟩
 |_,_,_,.bl b,r=>by cases r;exact⟨⟨_,.bool b⟩,by simp only[PyData.hasDict]⟩
 |_,_,_,.int i,r=>by obtain⟨t,rfl⟩:=r;exact⟨⟨_,.int i t⟩,by simp only[PyData.hasDict]⟩
 |_,_,_,.str x,r=>by obtain⟨t,rfl⟩:=r;exact⟨⟨_,.str x t⟩,by simp only[PyData.hasDict]⟩
 |_,_,_,.lst e hd,r=>by
  cases r;obtain⟨z,its,n,rv,ho⟩:=(show bw P w H h _ (.lst _) from ok _ _ e);obtain⟨⟨as,q⟩,hh⟩:=DatAll.reads ok hd rv;exact⟨⟨_,.list ho rfl rfl (by simpa using q)⟩,by simp only[PyData.hasDict];exact hh⟩
 |_,_,_,.tup e hd,r=>by
  cases r;obtain⟨z,its,rv,o,ho,hc,n,Vw⟩:=(show bw P w H h _ (.tup _) from ok _ _ e);obtain⟨⟨as,q⟩,hh⟩:=DatAll.reads ok hd rv;exact⟨⟨_,.tuple ho hc Vw (by simpa using q)⟩,by simp only[PyData.hasDict];exact hh⟩
theorem DatAll.reads{P:Program}{w:World}{H:Hp}{h:Heap}(ok:n0 P w H h):∀{xs:ax} {ds:List PyData} {us:aI},DatAll H xs ds→Vals xs us→(∃as,ReadsAll h us ds as)∧PyData.hasDictAll ds=false
 |_,_,_,.nil,.nil=>⟨⟨_,.nil⟩,by simp only[PyData.hasDictAll]⟩
 |_,_,_,.cons hd t,.cons r rr=>by
  obtain⟨⟨as,q⟩,h1⟩:=Dat.reads ok hd r;obtain⟨⟨bs,q'⟩,h2⟩:=DatAll.reads ok t rr;exact⟨⟨_,.cons q q'⟩,by simp only[PyData.hasDictAll,h1,h2,Bool.or_self]⟩
end
mutual
theorem Dat.same{H H' :Hp}(s:aw H H'):∀{v:V} {d:PyData},Dat H v d→Dat H' v d
 |_,_,.bC=> .bC
 |_,_,.bl b=> .bl b
 |_,_,.int i=> .int i
 |_,_,.str x=> .str x
 |_,_,.lst e h=> .lst (s _ _ e) (DatAll.same s h)
 |_,_,.tup e h=> .tup (s _ _ e) (DatAll.same s h)
theorem DatAll.same{H H' :Hp}(s:aw H H'):∀{xs:ax} {ds:List PyData},DatAll H xs ds→DatAll H' xs ds
 |_,_,.nil=> .nil
 |_,_,.cons h t=> .cons (Dat.same s h) (DatAll.same s t)
end
section
variable{X:Cx}
theorem wd(hg:X.A.guards=some [])(hu:X.A.units+100<cLine):eZ X (.builtin "repr") (fun xs H Q=>∃v d,xs=[v]∧Dat H v d∧d.showable=true∧d.depth≤90∧d.shown.length≤sizeLine∧Q (.str d.shown) H):=by
 intro pins s σ H xs us Q I r h;obtain⟨v,d,rfl,hd,hs,hdp,hz,q⟩:=h;obtain⟨u,rfl,ru⟩:=wT r;have flat:∀{h' :Heap} {tk:Nat} (t:Tok),(∀b o,s.heap.get? b=some o→h'.get? b=some o)→EP X pins σ Q (.str d.shown t) {s with heap:=h',toks:=tk}:=fun{h' tk} t k=>⟨.str d.shown,H,I.kept k,⟨t,rfl⟩,q⟩;obtain⟨⟨as,rd⟩,nd⟩:=hd.reads I.bE ru
 cases hd with
 |bC=>cases ru;exact PySem.P.repr_of_none (flat _ fun _ _ e=>e)
 |bl b=>cases ru;exact PySem.P.repr_of_bool (by have:=flat (h' :=s.heap) (tk:=s.toks+1) s.toks fun _ _ e=>e;simpa only[PyData.shown] using this)
 |int i=>
  obtain⟨t,rfl⟩:=ru;have Iv :i.natAbs.log2<1920:=by simpa[PyData.showable] using hs
  exact PySem.P.repr_of_int Iv (by have:=flat (h' :=s.heap) (tk:=s.toks+1) s.toks fun _ _ e=>e;simpa only[PyData.shown] using this)
 |str x=>
  obtain⟨t,rfl⟩:=ru;refine PySem.P.repr_of_str (by have:=flat (h' :=s.heap) (tk:=s.toks+1) s.toks fun _ _ e=>e;simpa only[PyData.shown] using this) (by simpa only[PyData.shown] using hz)
 |lst e hx=>
  cases ru;exact repr_of_reads' rd hs (PyData.noDict_hsm nd) hg (by lia) (fun _ _ e=>e) (fun h' t tk k=>flat t k) hz
 |tup e hx=>
  cases ru;exact repr_of_reads' rd hs (PyData.noDict_hsm nd) hg (by lia) (fun _ _ e=>e) (fun h' t tk k=>flat t k) hz
end
section
variable{X:Cx}{e Qi:Expr}{te ts:TE}{pos p2:Pos}
def Rp(K:Frag)(te ts:TE):TE:=fun σ H Q=>te σ H fun x H1=>Dp ts σ H1 fun o H2=>∃a xs,x= .ref a∧o=some (-1)∧bD K H2 a xs∧∀p,H2 p=none→Q (.ref p) (upd H2 p (.lst xs.reverse))
theorem AE(he:PE X e te)(iP:PE X Qi ts):PE X (.Subscript e (.Slice none none (some Qi) p2) pos) (Rp X.K te ts):=by
 intro pins s σ H Q I h;refine Subscript_ (bW (he pins s σ H _ I h) fun v s1 ⟨x,H1,I1,r1,q1⟩=> ?_);refine wpAny_Slice ?_;rw[evalPart_none];refine wpAny_pure ?_;refine wpAny_pure ?_;refine bW (jy iP pins s1 σ H1 _ I1 q1) fun vs s2 ⟨o,H2,I2,ps,a,xs,hx,ho,hq,q⟩=> ?_;subst ho hx;cases r1;have I4:Inv X pins σ H2 {s2 with heap:=s2.heap.push {cls:= .type "slice",data:= .fields #[.none,.none,vs]}}:=I2.kept (t' :=s2.toks) fun b ob q=>Heap.get?_push_of_some _ q;obtain⟨its,r,ht,hz⟩:=I4.list hq;have hlen:=r.length;show wpAny (model X.prog X.w) X.A (subscriptTail e (.Slice none none (some Qi) p2) (.ref a) (.ref s2.heap.objs.size)) (EP X pins σ Q) X.xe {s2 with heap:=s2.heap.push {cls:= .type "slice",data:= .fields #[.none,.none,vs]}};refine tail_any (ops:=[.ref a,.ref s2.heap.objs.size]) ht.isList.typeIs slot_list_getitem.lookup ?_ (by with_unfolding_all rfl);refine wpAny_getItem_list_slice ht.isList (Heap.IsSliceOf.new ..) .none .none ps (by simp) ?_ (by rw[List.size_toArray]<;>lia);rw[PySem.W.krv_pick];refine⟨.ref _,_,I4.laid (t' :=s2.toks) (o:= .lst xs.reverse) (fun b ob q=>Heap.get?_push_of_some _ q) (Nat.le_refl _) ?_,rfl,q _ ?_⟩
 ·exact⟨by rw[List.length_reverse];exact hz,_,0,(by simpa using r.reverse),Heap.get?_push_size _ rfl⟩
 ·exact I4.bE.fresh (Nat.le_refl _)
end
theorem E8:typeLookup (.type "list_reverseiterator") "__len__"=pure none:=by rw[typeLookup_type,builtinLookup_eq_fast];kernel_rfl
theorem G3:typeLookup (.type "list_reverseiterator") "__length_hint__"=pure (some (.builtin "list_reverseiterator.__length_hint__")):=by rw[typeLookup_type,builtinLookup_eq_fast];kernel_rfl
section
variable{prog:Program}{w:World}{A:Around}{E:Value→Shared→Prop}{s:Shared}
theorem BZ{R:Result→Shared→Prop}(hh:A.handled=none){l J S:Addr}{items:Array Value}(hlJ:l≠J)(hSJ:S≠J)(Rz:S≠l)(res:Value)(c₀:Nat)(hS:s.heap.get? S=some {cls:= .type "list",data:= .seq #[] c₀})
 (hit:s.heap.IsRevIter J l ((items.size:Int) - 1)) (hl:s.heap.IsList l items)
 (hR:∀h' tk ve c',(∀b o,b≠S→b≠J→s.heap.get? b=some o→h'.get? b=some o)→h'.get? S=some {cls:= .type "list",dict:=none,data:= .seq ve c',slots:= #[]}→
  ItemsOf (fun i v=>items[items.size - 1 - i]? =some v) ve items.size→R (.ok (.ret res)) {s with heap:=h',toks:=tk}) (hn:items.size≤sizeLine):
 wpAny (model prog w) A.in1 (Builtin.List.listExtendWith (.ref S) (.ref J) res)
  (fun fin s' =>match fin with| .done f=>R (.ok f) s' | .again c' =>c'.quiet=true∧codeAny (model prog w) A c' R s') (fun e s' =>R (.error e) s') s:=by
 have W:=(Walks.listRev (prog:=prog) (w:=w) (A:=A.in1) hh J l hlJ items).toS;have iP:(0:Nat)≤items.size∧s.heap.IsRevIter J l ((items.size:Int) - 1 - ((0:Nat):Int))∧s.heap.IsList l items:=⟨Nat.zero_le _,by simpa using hit,hl⟩
 have hSf:S∉[J,l]:=fun hm=>by
  have hm:S=J∨S=l:=by simpa using hm
  rcases hm with h|h
  ·exact hSJ h
  ·exact Rz h
 unfold Builtin.List.listExtendWith;refine wpAny_bind (wpAny_typeOf (T:="list_reverseiterator") hit.typeIs ?_);have h1:Builtin.List.listSameRef (.ref S) (.ref J)=false:=by simp[Builtin.List.listSameRef,hSJ]
 rw[if_neg (by rw[h1];decide)];refine wpAny_bind (wpAny_pyIter_revIter hit ?_);refine wpAny_bind (wpAny_holding ?_);unfold Builtin.List.listLengthHint;refine wpAny_bind (wpAny_specialOf hit.typeIs E8 ?_);show wpAny _ A.in1 (specialOf (Value.ref J) (Str.ofString "__length_hint__")>>= _) _ _ _;refine wpAny_bind (wpAny_specialOf hit.typeIs G3 ?_)
 (generalize hid:("list_reverseiterator.__length_hint__" :String)=id0;(fail_if_success (clear hid id0));wp_delta;rw[show splitId id0=some ("list_reverseiterator","__length_hint__") from by subst hid;decide+kernel];subst hid)
 refine wpAny_bind (wpAny_isInstance (b:=true) hit.typeIs (by rw[isSubtype_type];kernel_rfl) ?_);refine wpAny_pure ?_;rw[if_neg (by decide)];refine wpAny_pure ⟨plainId_quiet F.plain_extend_loop _,codeAny_extend_loopS W hn _ hSf _ items.size 0 _ _ _ rfl (Nat.zero_le _) iP hS (ItemsOf.nil _) fun s' ve c' hm Q5 t9=> ?_⟩;rw[Moved.eq_with hm];refine hR s'.heap s'.toks ve c' (fun b ob hb hbJ e=>hm.heap b ob (fun R3=> ?_) e) Q5 t9;rcases List.mem_cons.mp R3 with e' |R3
 ·exact hb e'
 ·exact hbJ (List.mem_singleton.mp R3)
theorem vB{Q:Value→Shared→Prop}(hh:A.handled=none){l J:Addr}{items:Array Value}(hlJ:l≠J)(hit:s.heap.IsRevIter J l ((items.size:Int) - 1))(hl:s.heap.IsList l items)
 (hQ:∀h' tk ve c',(∀b o,b≠J→s.heap.get? b=some o→h'.get? b=some o)→h'.get? s.heap.objs.size=some {cls:= .type "list",dict:=none,data:= .seq ve c',slots:= #[]}→
  ItemsOf (fun i v=>items[items.size - 1 - i]? =some v) ve items.size→Q (.ref s.heap.objs.size) {s with heap:=h',toks:=tk}) (hn:items.size≤sizeLine):
 wpAny (model prog w) A (call (.type "list") [.ref J]) Q E s:=by
 have hJ:J<s.heap.objs.size:=by obtain⟨o,e,_⟩:=hit;exact Heap.lt_size e
 have hL:l<s.heap.objs.size:=by obtain⟨o,e,_⟩:=hl;exact Heap.lt_size e
 refine callType_codes (Q₁:=fun obj bR=>obj= .ref s.heap.objs.size∧bR={s with heap:=s.heap.push {cls:= .type "list",data:= .seq #[]}}) F.called_list (F.typeCall_list_1 _) F.entry_list_init
  (code_list_new _ ⟨rfl,rfl⟩) fun obj bR uV=> ?_
 obtain⟨rfl,rfl⟩:=uV;have hS:(s.heap.push {cls:= .type "list",data:= .seq #[]}).get? s.heap.objs.size=some {cls:= .type "list",data:= .seq #[]}:=Heap.get?_push_size _ rfl;refine⟨⟨_,hS,rfl⟩,F.args_list_init_2 _ _,?_⟩;show wpAny _ _ (do let old←Builtin.List.listItems (.ref s.heap.objs.size);Builtin.List.listUpdate (.ref s.heap.objs.size) (fun _=> #[]);letGo old.toList.reverse;Builtin.List.listExtendWith (.ref s.heap.objs.size) (.ref J) .none) _ _ _;refine wpAny_bind ?_;unfold Builtin.List.listItems;refine wpAny_bind (wpAny_seqItems hS rfl (wpAny_pure ?_));show wpAny _ _ (updateSeq s.heap.objs.size (fun _=> #[])>>= fun _=>letGo (#[]:Array Value).toList.reverse>>= fun _=>Builtin.List.listExtendWith (.ref s.heap.objs.size) (.ref J) .none) _ _ _;refine wpAny_bind (wpAny_updateSeq hS rfl ?_);have T1:=Heap.get?_update_self (Obj.mapSeq (fun _=>(#[]:Array Value))) hS rfl
 have oth:∀b o,b≠s.heap.objs.size→s.heap.get? b=some o→((s.heap.push {cls:= .type "list",data:= .seq #[]}).update s.heap.objs.size (Obj.mapSeq (fun _=>(#[]:Array Value)))).get? b=some o:=
  fun b o hb e=>(Heap.get?_update_other _ _ (Ne.symm hb)).trans (Heap.get?_push_of_some _ e)
 refine wpAny_bind (wpAny_letGo ?_);refine BZ (A:=A.in1) hh hlJ (Nat.ne_of_gt hJ) (Nat.ne_of_gt hL) .none _ T1 (hit.at fun o e=>oth _ o (Nat.ne_of_lt hJ) e) (hl.at fun o e=>oth _ o (Nat.ne_of_lt hL) e) (fun h' tk ve c' hk Q5 t9=> ?_) hn;exact⟨rfl,hQ h' tk ve c' (fun b o hbJ e=>hk b o (Nat.ne_of_lt (Heap.lt_size e)) hbJ (oth b o (Nat.ne_of_lt (Heap.lt_size e)) e)) Q5 t9⟩
end
section
variable{X:Cx}{e:Expr}{ta:TA}{p p' pos pos' :Pos}
def Hv(K:Frag)(ta:TA):TE:=fun σ H Q=>ta σ H fun vs H1=>∃a xs,vs=[.ref a]∧bD K H1 a xs∧∀l,H1 l=none→Q (.ref l) (upd H1 l (.lst xs.reverse))
theorem D4{items:aI}{acc:Array Value}(h:ItemsOf (fun i v=>items.toArray[items.toArray.size - 1 - i]? =some v) acc items.toArray.size):acc.toList=items.reverse:=by
 obtain⟨h1,h2⟩:=h;have hs:items.toArray.size=items.length:=List.size_toArray;apply List.ext_getElem?;intro i;by_cases hi:i<items.length
 ·rw[List.getElem?_reverse hi];have NF :i<acc.size:=by lia
  have e:acc[i]? =some acc[i]:=by simp[NF]
  have q:=h2 i acc[i] e;rw[hs] at q;rw[Array.getElem?_toList,e,←q];simp
 ·have e1:acc.toList[i]? =none:=List.getElem?_eq_none (by rw[Array.length_toList];lia);have e2:items.reverse[i]? =none:=List.getElem?_eq_none (by rw[List.length_reverse];lia);rw[e1,e2]
theorem BI(hc:X.calm=true)(hg:Gl X "list")(hm:X.mg "list"=none)(hg' :Gl X "reversed")(hm' :X.mg "reversed"=none)(ha:PA X [e] ta)(hs:starEach [e] X.env=[(false,eval e X.env)]:=by rfl)
 (Iv :starEach [Expr.Call (.Name "reversed" p') [e] [] pos'] X.env=[(false,eval (.Call (.Name "reversed" p') [e] [] pos') X.env)]:=by rfl):
 PE X (.Call (.Name "list" p) [.Call (.Name "reversed" p') [e] [] pos'] [] pos) (Hv X.K ta):=by
 intro pins s σ H Q I h;refine wpAny_Call_Name_kw (m3 I hg hm Boot.«list» ?_);refine PyProof.Rows.callWith_type1 ?_ Iv rfl;rw[Iv];show wpAny _ _ (spliced ((false,eval (.Call (.Name "reversed" p') [e] [] pos') X.env)::backTo pos [])) _ _ s;refine Calls.spliced_cons (Call_ (m3 I hg' hm' Boot.«reversed» (PyProof.Rows.callWith_type1 (bW (ha pos' pins s σ H _ I h) fun us s1 ⟨vs,H1,I1,r1,q1⟩=> ?_) hs rfl)));obtain⟨l,xs,ev,hq,q⟩:=q1;subst ev;obtain⟨u,rfl,ru⟩:=wT r1;cases ru;obtain⟨its,rv,pl,hz⟩:=I1.list hq;have hl:=rv.length;refine call_reversed_list pl.isList ?_;refine Calls.spliced_nil ?_;have xQ:l<s1.heap.objs.size:=by obtain⟨o,e,_⟩:=pl.isList;exact Heap.lt_size e
 have I2:Inv X pins σ H1 {s1 with heap:=s1.heap.push (revObj l ((its.toArray.size:Int) - 1))}:=I1.kept (t' :=s1.toks) fun b o e=>Heap.get?_push_of_some _ e;refine vB (s:={s1 with heap:=s1.heap.push (revObj l ((its.toArray.size:Int) - 1))}) (I1.ok.hd hc) (l:=l) (J:=s1.heap.objs.size) (items:=its.toArray) (Nat.ne_of_lt xQ) ⟨_,Heap.get?_push_size _ rfl,rfl,rfl⟩ (pl.isList.push _) (fun h' tk ve c' hk Q5 t9=> ?_) (by rw[List.size_toArray];lia);have f1:=I1.uP (H' :=H1) (Nat.le_refl s1.heap.objs.size) (I1.bE.fresh (Nat.le_refl _));have er:=D4 t9;have hsz:(s1.heap.push (revObj l ((its.toArray.size:Int) - 1))).objs.size=s1.heap.objs.size+1:=Heap.size_push ..;have E_:H1 (s1.heap.objs.size+1)=none:=I1.bE.fresh (Nat.le_succ _);have hS2:h'.get? (s1.heap.objs.size+1)=some {cls:= .type "list",dict:=none,data:= .seq ve c',slots:= #[]}:=by rw[←hsz];exact Q5
 have tL:∀b u,H1 b=some u→b≠s1.heap.objs.size:=fun b u q z=>by rw[z,f1.1] at q;cases q
 have I3:Inv X pins σ (upd H1 (s1.heap.objs.size+1) (.lst xs.reverse)) {s1 with heap:=h',toks:=tk}:=by
  refine Inv.step (s:={s1 with heap:=s1.heap.push (revObj l ((its.toArray.size:Int) - 1))}) I2 (g' :=s1.gens) (d' :=s1.drawn) (ch:=[s1.heap.objs.size]) (fun b hb=> ?_) (fun b o _ _ hc q _=>hk b o (fun z=>hc (by simp[z])) q) (fun b o _ _ hc q _=>⟨o.slots,hk b o (fun z=>hc (by simp[z])) q⟩)
   (fun b o _ q n=> ?_) (fun b o hc q=>⟨o,hk b o (fun z=>hc (by simp[z])) q⟩) (fun b ys q=> ?_) (fun b o ys q=> ?_) (fun b ps q=>⟨#[],?_⟩) (fun m hm=> ?_) (fun b u q=> ?_) I1.bare
  ·have hb:b=s1.heap.objs.size:=by simpa using hb
   subst hb;exact⟨f1.2.2.2.1,f1.2.1,f1.2.2.2.2.1,f1.2.2.2.2.2⟩
  ·have hb:=Heap.lt_size q;have hb:b<s1.heap.objs.size+1:=by rw[←hsz];exact hb
   rw[ah (Nat.ne_of_lt hb)];exact n
  ·rw[ah (ak q E_)];exact q
  ·rw[ah (ak q E_)];exact q
  ·rw[ah (ak q E_),q];simp
  ·obtain⟨o,es,ep,q,r⟩:=hm;exact⟨o,es,ep,hk _ o (Ne.symm f1.2.1) q,r⟩
  ·by_cases hb:b=s1.heap.objs.size+1
   ·subst hb;rw[af] at q;cases q;refine⟨by rw[List.length_reverse];exact hz,its.reverse,c',rv.reverse,?_⟩;rw[hS2,←er]
   ·rw[ah hb] at q;refine(I2.bE b u q).rZ (fun c v hc q' =>hk c v ?_ q') (fun c q' => ?_) fun c ys q' => ?_
    ·rcases hc with z|z
     ·rw[z];exact tL b u q
     ·exact tL c _ z
    ·rw[ah (ak q' E_)];exact q'
    ·rw[ah (ak q' E_)];exact q'
 rw[hsz];exact⟨.ref (s1.heap.objs.size+1),_,I3,rfl,q _ E_⟩
end
section
variable{X:Cx}{K:Frag}
theorem pL(hK:X.K=K):Ks X (RQ K):=hK▸bj
theorem MP(hK:X.K=K):Ks X (Xl K):=hK▸du
theorem oO(hK:X.K=K):mh X (compareOp .In) (rIn K false):=hK▸wq
theorem vQ(hK:X.K=K):eZ X (.builtin "len") (fun xs H Q=>∃p ys,xs=[.ref p]∧(bD K H p ys∨mr K H p ys)∧Q (.int ys.length) H):=hK▸bp
theorem Mm{e:Expr}{f:Str}{pos:Pos}{ta:TE}(hK:X.K=K)(he:PE X e ta)(hb:attributeBase e f X.env (eval e X.env)=eval e X.env):PE X (.Attribute e f pos) (UH K ta f):=hK▸dr he hb
theorem tQ{es:b8}{k:Nat}{t:N2}{n:Nat}{pos:Pos}(hK:X.K=K)(hc:X.calm=true)(h:V_ X es t)(hn:(assignEach es X.env).length=n)(iP:(assignEach es X.env).findIdx? (·.1)=none):PG X (.Tuple es k pos) (VB K n t):=hK▸Rg hc h hn iP
end
section
variable{X:Cx}{tg:Expr}
end
section
variable{X:Cx}{tg:Expr}
end
section
variable{X:Cx}{pins:aP}{σ:St}{H:Hp}{s:Shared}{h' :Heap}
end
section
variable{X:Cx}{tg:Expr}
end
structure Oo(K:Frag)(C:Addr)(m:Str)(f:Addr):Prop where
 sp:PySem.W.specialIn K (.ref C) "__getattribute__"=some (some (.builtin "type.__getattribute__"))
 rd:PySem.W.readsIn K C (.type "type")=true
 at_:PySem.W.findCls K (.ref C) (.type "type") m=some (.val (.ref f))
 kp:PySem.W.keepIn K (.ref f)=true
section
variable{X:Cx}{CX:A5}{k:Nat}{f C:Addr}{fd:FuncData}{ps:aO}{sp:Sp}{sQ:ax}{ds:aI}{E:XK}{x m:Str}{p pos apos:Pos}{e:Expr}{es:b8}{t:TA}
theorem Ic{pl:Sem Bool}(c:Oo X.K C m f)(hg:Gl X x)(hm:X.mg x=some (.ref C))(F:bu X.prog X.w X.K X.mg X.base CX k f fd ps sp)(hr:fh k X.A)(hb:Binds X.K fd ps ds)(hd:Vals sQ ds)(hx:xL CX X E)(ha:PA X (e::es) t)
 (LX:(x==("__debug__" :Str))=false:=by decide) (iP:starEach (e::es) X.env=(false,eval e X.env)::starEach es X.env:=by rfl) (tS:(backTo pos (starEach es X.env)).any (·.1)=false:=by rfl)
 (ht:eval (.Call (.Attribute (.Name x p) m apos) (e::es) [] pos) X.env=(do
  let ov←eval (.Name x p) X.env
  standAt apos.atName
  let(f,first)←holding [ov] (getMethod ov m pl)
  callWith pos f first (backTo pos (starEach (e::es) X.env)) (backToKw pos (keywordEach [] X.env))):=by rfl):
 PE X (.Call (.Attribute (.Name x p) m apos) (e::es) [] pos) (PQ sp sQ E t):=by
 intro pins s σ H Q I h;refine methodCall_KW (pl:=pl) (tK I hg hm ?_ LX) ht;refine PySem.W.method_cls I.qI c.sp (PySem.W.cls_value I.qI c.rd c.at_ rfl ?_);refine callWith_K (first:=[]) (h₀:=X.base) I.ok.mod.SI c.kp (bW (ha pos pins _ σ H _ (I.tok _) h) fun us s2 ⟨vs,H2,I2,r,q2⟩=>⟨I2.qI,?_⟩) iP tS;exact xk F hr hb hd hx I2 r q2
end
section
variable{X:Cx}{o e f:Expr}{apos iJ:Pos}{td ty tx:TE}
def RB(td ty tx:TE):TE:=fun σ H Q=>td σ H fun x H1=>∃a,x= .ref a∧IsD H1 a∧ty σ H1 fun y H2=>tx σ H2 fun z H3=>∃kvs k,H3 a=some (.dK kvs)∧y=kV k∧kvs.length<sizeLine∧
 (∀v,bN kvs k=some v→Q v H3)∧(bN kvs k=none→Q z (upd H3 a (.dK (wp kvs k z))))
theorem xp{pins:aP}{σ:St}{H:Hp}{s:Shared}{a:Addr}{kvs:bG}{k:wn}{z:V}{u r:Value}{A:Around}{E:Value→Shared→Prop}{Q:Value→Shared→Prop}(I:Inv X pins σ H s)(ea:H a=some (.dK kvs))(ry:RelV (kV k) u)(rz:RelV z r)(hl:kvs.length<sizeLine)
 (h1:∀v,bN kvs k=some v→∀w' s',Inv X pins σ H s'→RelV v w'→Q w' s') (h2:bN kvs k=none→∀s',Inv X pins σ (upd H a (.dK (wp kvs k z))) s'→Q r s'):
 wpAny (model X.prog X.w) A (call (.builtin "dict.setdefault") [.ref a,u,r]) Q E s:=by
 obtain⟨hz,hd,vs,rel,dd⟩:=sH I.bE ea
 refine call_meetsIn slot_dict_setdefault dd.typeIs PySem.F.entry_dict_setdefault (PySem.F.args_dict_setdefault_3 _ _ _) (kt_meets_setdefault (bz X.prog X.w) a (sj ry) hd r)
  ⟨vs,dd,by rw[←rel.length];exact hz,fun v hv=> ?_,fun hn h' Fy hs=> ?_⟩
 ·have q:=rel.val k;rw[hv] at q
  cases e:bN kvs k with
  |none=>rw[e] at q;cases q
  |some v' =>
   rw[e] at q;exact h1 v' e v _ (I.tok _) q
 ·have q:=rel.val k;rw[hn] at q
  have e:bN kvs k=none:=by
   cases e:bN kvs k with
   |none=>rfl
   |some v' =>rw[e] at q;cases q
  have he:∃q,h'.get? a=some q:=let⟨q,_,_,hq,_⟩:=Fy;⟨q,hq⟩
  refine h2 e _ (pQ I (by rw[ea];exact True.intro) hs he (uW (by have:=fI kvs k z;lia) hd (rel.put k rz) Fy))
theorem Gm(ho:PE X o td)(he:PE X e ty)(hf:PE X f tx)(m:M2 X o "setdefault" apos e f iJ):PE X (.Call (.Attribute o "setdefault" apos) [e,f] [] iJ) (RB td ty tx):=by
 intro pins s σ H Q I h;refine wpAny_Call_method m.base m.few m.line plainAttrs_dict slot_dict_setdefault PySem.F.type_dict_setdefault (bW (ho pins s σ H _ I h) fun u s1 ⟨x,H1,I1,rx,a,ex,d,q1⟩=> ?_);subst ex;obtain rfl:u=Value.ref a:=rx;obtain⟨t1,t2,_⟩:=IY I1 d;refine⟨t1,t2,?_⟩;rw[m.trees]
 refine Calls.callWith_builtin rfl (Calls.evalArgs_plain (Calls.spliced_cons (bW (he pins s1 σ H1 _ I1 q1) fun iv s2 ⟨y,H2,I2,ry,q2⟩=>
  Calls.spliced_cons (bW (hf pins s2 σ H2 _ I2 q2) fun fv s3 ⟨z,H3,I3,rz,kvs,k,ea,ey,hl,q3,q4⟩=>Calls.spliced_nil ?_))))
 subst ey;exact xp I3 ea ry rz hl (fun v hv w' s4 I4 ED =>⟨v,H3,I4,ED,q3 v hv⟩) fun hn s4 I4=>⟨z,_,I4,rz,q4 hn⟩
end
section
variable{X:Cx}
theorem Ci:∀(ns:List Int) (i:Nat),PySem.preSum (fun j=>ns.getD j 0) i=(ns.take i).sum
 |ns,0=>by simp[PySem.preSum]
 |ns,i+1=>by
  show PySem.preSum (fun j=>ns.getD j 0) i+ns.getD i 0=_;rw[Ci ns i,List.take_add_one,List.sum_append]
  cases e:ns[i]? with
  |none=>simp[List.getD_eq_getElem?_getD,e]
  |some v=>simp[List.getD_eq_getElem?_getD,e]
theorem zy(hc:X.calm=true):eZ X (.builtin "sum") (fun xs H Q=>∃(a:Addr) (ns:List Int),xs=[.ref a]∧H a=some (.lst (ns.map V.int))∧ns.length≤2000∧(∀n∈ns,0≤n∧n≤1000000)∧Q (.int ns.sum) H):=by
 intro pins s σ H xs us Q I r h;obtain⟨a,ns,rfl,ha,hl,hb,q⟩:=h;obtain⟨u,rfl,ru⟩:=wT r;cases ru;obtain⟨its,r,pl,hz⟩:=I.list (bD.of ha);have hlen:=r.length;rw[List.length_map] at hlen;have gB:=I.bE.lt ha;have I1:Inv X pins σ H {s with heap:=s.heap.push {cls:= .type "list_iterator",data:= .fields #[.ref a,.int 0 0]}}:=I.kept (t' :=s.toks) fun b u e=>Heap.get?_push_of_some _ e
 have Vz:∀j,0≤ns.getD j 0∧ns.getD j 0≤1000000:=fun j=>by
  rw[List.getD_eq_getElem?_getD]
  cases e:ns[j]? with
  |none=>simp
  |some v=>exact hb v (List.mem_of_getElem? e)
 have afg:∀j,0≤PySem.preSum (fun j=>ns.getD j 0) j∧PySem.preSum (fun j=>ns.getD j 0) j≤1000000*(j:Int):=by
  intro j
  induction j with
  |zero=>simp[PySem.preSum]
  |succ j ih=>
   have:=Vz j;show 0≤PySem.preSum (fun j=>ns.getD j 0) j+ns.getD j 0∧PySem.preSum (fun j=>ns.getD j 0) j+ns.getD j 0≤_
   push_cast
   lia
 refine call_sum_walk (wpAny_pyIter_list pl.isList ⟨_,_,_,_,_,_,fun i=>ns.getD i 0,rfl,Walks.list (A:=X.A.in1) (I.ok.hd hc) _ a (Nat.ne_of_lt gB) its.toArray,⟨⟨_,Heap.get?_push_size _ rfl,rfl,rfl⟩,pl.isList.push _⟩,?_,?_,?_,fun h' tk t' k=> ?_⟩)
 ·intro b Kl;have Kl :b=s.heap.objs.size∨b=a:=by simpa using Kl
  show b<(s.heap.push _).objs.size;rw[Heap.size_push];rcases Kl with rfl|rfl
  ·exact Nat.lt_succ_self _
  ·exact Nat.lt_succ_of_lt gB
 ·intro i v hv;have hv:its[i]? =some v:=by simpa using hv
  have hi:i<its.length:=(List.getElem?_eq_some_iff.mp hv).1;have hx:(ns.map V.int)[i]? =some (V.int ns[i]):=by simp[show i<ns.length by lia]
  obtain⟨u,hu,t,rfl⟩:=r.get hx;rw[hv] at hu;cases hu;refine⟨t,?_⟩;dsimp only;rw[List.getD_eq_getElem?_getD,List.getElem?_eq_getElem (by lia)];rfl
 ·intro j hj;have hj:j<its.length:=by simpa using hj
  have h1:=Vz j;have h2:=afg (j+1)
  push_cast at h2
  unfold PySem.InLong;dsimp only;refine⟨?_,?_⟩<;>(constructor<;>lia)
 ·refine⟨.int ns.sum,H,I1.turned (fun b o hb e=>k b o (by simpa using hb) e) (I.bE.fresh (Nat.le_refl _)) (fun z=> ?_) (.inr I.sz) (fun x c e z=> ?_) (fun p hp z=> ?_),⟨t',?_⟩,q⟩
  ·exact absurd (z▸I.lt) (Nat.lt_irrefl _)
  ·obtain⟨v,o,ho,_⟩:=I.cell x c e;exact absurd (z▸Heap.lt_size ho) (Nat.lt_irrefl _)
  ·obtain⟨ho,_⟩:=I.pin p hp;exact absurd (z▸Heap.lt_size ho) (Nat.lt_irrefl _)
  ·rw[Ci,List.size_toArray,←hlen,List.take_length]
end
theorem qD{J:It}{n k:Nat}{js:List Nat}{Y:Nat→V→Hp→Prop}{g:TG}{te:TE}{σ:St}{H:Hp}{Q:VK}(E:Nat→V→Hp→Prop)(F:nD J H n Y)(hlen:n≤sizeLine)
 (iP:∀i v H1 H2,(∀c xs,H1 c=some (.tup xs)→H2 c=some (.tup xs))→E i v H1→E i v H2)
 (h8:∀(i:Nat) (x:V) (H' :Hp) (C1:V→Hp→Prop),i<n→aw H H'→Y i x H'→(∀v gi,aw H' gi→E i v gi→C1 v gi)→
  g x (rO k js σ) H' fun me H2=>dU (rO k js σ) me∧te me H2 C1)
 (hq:∀p H' ys,H p=none→aw H H'→H' p=some (.lst ys)→ys.length=n→(∀i v,ys[i]? =some v→E i v H')→Q (.ref p) H'):
 jf J k js g K9 te σ H Q:=by
 intro p hp
 refine⟨fun i m ys H' =>m=n - i∧i≤n∧ys.length=i∧H' p=some (.lst ys)∧aw H H'∧∀j v,ys[j]? =some v→E j v H',
  ⟨n,rfl,Nat.zero_le _,rfl,af,aw.upd hp,fun j v e=>by simp at e⟩,?_⟩
 rintro i m ys H' ⟨rfl,hi,ju,hl,hs,hE⟩
 refine⟨hl,?_⟩;by_cases gB:i<n
 ·refine .inr ⟨F.go i _ hs gB,by lia,fun x gi hy=> ?_⟩;obtain⟨s1,y1⟩:=F.tJ i _ x gi hs gB hy;have hb:=h8 i x gi (fun v H4=>H4 p=some (.lst ys)∧∃m',m' <n - i∧(m' =n - (i+1)∧i+1≤n∧(ys++[v]).length=i+1∧upd H4 p (.lst (ys++[v])) p=some (.lst (ys++[v]))∧aw H (upd H4 p (.lst (ys++[v])))∧∀j v',(ys++[v])[j]? =some v'→E j v' (upd H4 p (.lst (ys++[v]))))) gB (hs.trans s1) y1 ?_
  ·exact hb
  ·intro v H4 s4 e4;have Q4:H4 p=some (.lst ys):=s4 _ _ (s1 _ _ hl)
   have tk:∀c xs,H4 c=some (.tup xs)→upd H4 p (.lst (ys++[v])) c=some (.tup xs):=fun c xs e=>by
    rw[ah (aG e Q4 (by intro z;cases z))];exact e
   refine⟨Q4,n - (i+1),by lia,rfl,gB,by simp[ju],af,fun c o e=> ?_,fun j v' e=> ?_⟩
   ·rw[ah (ak e hp)];exact s4 _ _ (s1 _ _ (hs _ _ e))
   ·by_cases hj:j<ys.length
    ·rw[List.getElem?_append_left hj] at e;exact iP _ _ _ _ tk (iP _ _ _ _ (fun c xs q=>s4 _ _ (s1 _ _ q)) (hE j v' e))
    ·rw[List.getElem?_append_right (by lia)] at e
     have hj2:j - ys.length=0:=by
      have:=(List.getElem?_eq_some_iff.mp e).1;simp at this
      lia
     rw[hj2] at e;cases e;have:j=i:=by lia
     subst this;exact iP _ _ _ _ tk e4
 ·have e:i=n:=by lia
  subst e;exact .inl ⟨F.stop _ _ hs (Nat.le_refl _),hq p H' ys hp hs hl ju hE⟩
section
variable{X:Cx}{e:Expr}{ta:TA}{p pos p' pos' :Pos}
end
section
variable{X:Cx}{e lo Qi:Expr}{te tl ts:TE}{pos p2:Pos}
theorem rT{xs:ax}{us:aI}(r:Vals xs us):∀ns:List Nat,Vals (ns.filterMap (xs[·]?)) (ns.filterMap (us[·]?))
 |[]=> .nil
 |n::ns=>by
  rw[List.filterMap_cons,List.filterMap_cons]
  cases e:xs[n]? with
  |none=>
   have:us[n]? =none:=by
    rw[List.getElem?_eq_none_iff] at e ⊢;have:=r.length
    lia
   rw[this];exact rT r ns
  |some x=>
   obtain⟨u,hu,ru⟩:=r.get e;rw[hu];exact .cons ru (rT r ns)
end
def JP(X:Cx)(a:Addr):Prop:=∀o u,X.H₀ a≠some (.fB o u)
section
variable{X:Cx}{pins:aP}{σ:St}{H:Hp}{s:Shared}{d:Addr}{kvs:bG}
theorem Inv.nfz(I:Inv X pins σ H s)(e:H d=some (.dK kvs)):JP X d:=fun o u q=>by
 have:=I.base.nN d o u q;rw[e] at this;cases this
theorem Inv.swap{u:HO}{v:HO}(I:Inv X pins σ H s)(e:H d=some u)(nf:JP X d)(h1:∀xs,u≠.tup xs)(h2:∀y,u≠.own y)(h3:∀ps,u≠.Lj ps)(ok:bw X.prog X.w (upd H d v) s.heap d v):Inv X pins σ (upd H d v) s:=by
 have ne:∀b,H b=none→b≠d:=fun b q z=>by rw[z,e] at q;cases q
 refine⟨I.ok,I.os,I.bare,⟨I.base.keep,I.base.slot,fun b o q n hx=> ?_,I.base.there,fun b xs q=> ?_,fun b o w q=> ?_,fun b ps q=> ?_⟩,I.loc,I.cell,?_,fun x c q=> ?_,fun p hp=> ?_,fun b w q=> ?_,I.len⟩
 ·have:=I.base.free b o q n hx;rw[ah (ne b this)];exact this
 ·have:=I.base.rV b xs q;rw[ah (fun z=>by rw[z,e] at this;exact h1 xs (Option.some.inj this))];exact this
 ·have:=I.base.nN b o w q;rw[ah (fun z=>nf o w (by rw[←z];exact q))];exact this
 ·obtain⟨more,this⟩:=I.base.rG b ps q;refine⟨more,?_⟩;rw[ah (fun z=>by rw[z,e] at this;exact h3 _ (Option.some.inj this))];exact this
 ·rw[ah (ne _ I.free)];exact I.free
 ·have:=I.l_ x c q;rw[ah (ne _ this)];exact this
 ·obtain⟨a1,a2,a3⟩:=I.pin p hp;refine⟨a1,?_,a3⟩;rw[ah (ne _ a2)];exact a2
 ·by_cases hb:b=d
  ·subst hb;rw[af] at q;cases q;exact ok
  ·rw[ah hb] at q;refine(I.bE b w q).rZ (fun c v hc q' =>q') (fun c q' => ?_) fun c ys q' => ?_
   ·rw[ah (fun z=>by rw[z,e] at q';exact h2 _ (Option.some.inj q'))];exact q'
   ·rw[ah (fun z=>by rw[z,e] at q';exact h1 _ (Option.some.inj q'))];exact q'
theorem Inv.freeze{o:Obj}(I:Inv X pins σ H s)(e:H d=some (.dK kvs))(ho:s.heap.get? d=some o):Inv X pins σ (upd H d (.fB o (.dK kvs))) s:=
 I.swap e (I.nfz e) (fun _ z=>nomatch z) (fun _ z=>nomatch z) (fun _ z=>nomatch z) ⟨ho,show bw X.prog X.w H s.heap d (.dK kvs) from I.bE d _ e⟩
theorem Inv.Uq{o:Obj}(I:Inv X pins σ H s)(e:H d=some (.fB o (.dK kvs)))(nf:JP X d):Inv X pins σ (upd H d (.dK kvs)) s:=by
 have bE:=(show bw X.prog X.w H s.heap d (.fB o (.dK kvs)) from I.bE d _ e).2;exact I.swap e nf (fun _ z=>nomatch z) (fun _ z=>nomatch z) (fun _ z=>nomatch z) bE
end
theorem J8{P:Program}{w:World}{k:wn}{u:Value}(h:(bz P w).is k u=true):RelV (kV k) u:=by
 have h:mO k u=true:=h
 cases k with
 |inl i=>
  cases u with
  |int j t=>
   have:j=i:=by simpa[mO,Value.isInt] using h
   subst this;exact⟨t,rfl⟩
  |_=>simp[mO,Value.isInt] at h
 |inr x=>
  cases u with
  |str y t=>
   have:y=x:=by simpa[mO,Value.isStrOf] using h
   subst this;exact⟨t,rfl⟩
  |_=>simp[mO,Value.isStrOf] at h
theorem Bx{kvs:bG}{vs:List (wn×Value)}(r:KV kvs vs):∀{i:Nat} {p:wn×V} {k:wn} {x:Value},kvs[i]? =some p→vs[i]? =some (k,x)→p.1=k:=by
 unfold KV at r
 induction r with
 |nil=>intro i p k x h;simp at h
 | @cons a b as bs h t ih=>
  intro i p k x h1 h2
  cases i with
  |zero=>
   simp at h1 h2;subst h1 h2;exact h.1
  |succ i=>exact ih (by simpa using h1) (by simpa using h2)
def Itk(d:Addr)(o:Obj)(kvs:bG):It:=
 ⟨fun i H=>i<kvs.length∧H d=some (.fB o (.dK kvs)),fun i H x H' =>H' =H∧∃k v,kvs[i]? =some (k,v)∧x=kV k,fun i H=>kvs.length≤i∧H d=some (.fB o (.dK kvs))⟩
theorem EO{P:Program}{w:World}{K:Frag}{tg:Expr}(d it:Addr)(o:Obj)(kvs:bG)(ep:Nat)(es:Array DictEntry)(hd:o.data= .dict es ep):
 Turn P w K tg (Itk d o kvs) [it] it (fun i h=>h.IsKeyIter it d i kvs.length ep) where
 mem:=by simp
 obj:=fun i h st b hb=>by
  have e:b=it:=by simpa using hb
  subst e;obtain⟨ob,e,c,dd⟩:=st;exact⟨ob,e,fun v z=>by rw[dd] at z;cases z⟩
 keep:=fun i h h' st k=>st.at fun ob e=>k it (by simp) ob e
 item:=by
  intro X hP hw hK hc i pins s σ H E I hf st hg;subst hP hw hK;obtain⟨hi,hq⟩:=hg;obtain⟨ho,z,hs,vs,rel,o',Lh,Mp,g1,g2,g3,g4,g5,g6⟩:=(show bw X.prog X.w H s.heap d (.fB o (.dK kvs)) from I.bE d _ hq);rw[ho] at g1;cases g1;rw[hd] at g3;cases g3;have hl:=rel.length;obtain⟨⟨k,x⟩,hx⟩:∃p,vs[i]? =some p:=⟨vs[i],by simp[show i<vs.length by lia]⟩;obtain⟨f0,f1,f2,f3,f4,f5⟩:=hf it (by simp);rw[hl] at st;refine wpAny_pyNext_dict_item (knd:=bz X.prog X.w) st ⟨o,es,ho,g2,hd,g4,g5,g6⟩ hx fun key h' vU sL Iv => ?_;have I1:Inv X pins σ H {s with heap:=h'}:=I.turned (t' :=s.toks) (fun b ob hb e=>(Iv.2 b hb).trans e) f0 f1 f3 f4 f5;rw[←hl] at sL;obtain⟨ob,e,c,dd⟩:=id sL
  obtain⟨p,hp,L8,A3⟩:∃p:wn×V,kvs[i]? =some p∧p.1=k∧True:=by
   have:kvs[i]? =some kvs[i]:=by simp[hi]
   exact⟨_,this,Bx rel this hx,trivial⟩
  exact⟨key,rfl,yX (s:={s with heap:=h'}) e c dd (by decide) ⟨kV k,H,I1,J8 vU,⟨rfl,p.1,p.2,hp,by rw[L8]⟩,sL,fun b hb=>(hf b hb).1⟩⟩
 done:=by
  intro X hP hw hK hc i pins s σ H E I hf st hg;subst hP hw hK;obtain⟨hi,hq⟩:=hg;obtain⟨ho,z,hs,vs,rel,o',Lh,Mp,g1,g2,g3,g4,g5,g6⟩:=(show bw X.prog X.w H s.heap d (.fB o (.dK kvs)) from I.bE d _ hq);rw[ho] at g1;cases g1;rw[hd] at g3;cases g3;have hl:=rel.length;obtain⟨f0,f1,f2,f3,f4,f5⟩:=hf it (by simp);rw[hl] at st;exact wpAny_pyNext_dict_end (knd:=bz X.prog X.w) (I.ok.hd hc) st ⟨o,es,ho,g2,hd,g4,g5,g6⟩ (by simp;lia) fun h' eb=>⟨rfl,I.turned (t' :=s.toks) (fun b ob hb e=>eb b ob hb e) f0 f1 f3 f4 f5⟩
 self:=fun _ _ _ _ _ st h=>wpAny_pyIter_keyiter st h
section
variable{X:Cx}{tg e:Expr}{te:TE}
def UI(X:Cx)(te:TE):TI:=fun σ H R=>te σ H fun x H1=>∃a kvs,x= .ref a∧H1 a=some (.dK kvs)∧∀o,JP X a→R (Itk a o kvs) (upd H1 a (.fB o (.dK kvs)))
theorem CB(he:PE X e te):PI X tg e (UI X te):=by
 intro pins s σ H R I h;refine bW (he pins s σ H _ I h) fun v s1 ⟨x,H1,I1,r1,a,kvs,ex,hq,q⟩=> ?_;subst ex;cases r1;obtain⟨z,hs,vs,rel,o,es,ep,g1,g2,g3,g4,g5,g6⟩:=sH I1.bE hq;have hl:=rel.length;refine wpAny_pyIter_dict (knd:=bz X.prog X.w) (kvs:=vs) (ep:=ep) hs ⟨o,es,g1,g2,g3,g4,g5,g6⟩ ?_;have I2:=I1.freeze hq g1;have hn:H1 s1.heap.objs.size=none:=I1.bE.fresh (Nat.le_refl _);have hf:rN X pins (upd H1 a (.fB o (.dK kvs))) s1.heap.objs.size:=I1.uP (Nat.le_refl _) (by rw[ah (fun z=>by rw[z,hq] at hn;cases hn)];exact hn);refine⟨s1.heap.objs.size,[s1.heap.objs.size],_,_,_,rfl,I2.kept (t' :=s1.toks) fun b ob e=>Heap.get?_push_of_some _ e,EO a _ o kvs ep es g3,⟨_,Heap.get?_push_size _ rfl,rfl,by rw[hl];rfl⟩,fun b hb=> ?_,q o (I1.nfz hq)⟩;have e:b=s1.heap.objs.size:=by simpa using hb
 subst e;exact hf
def WR(X:Cx)(t:TE):TE:=fun σ H Q=>t σ H fun v H' =>∃d o kvs,H' d=some (.fB o (.dK kvs))∧JP X d∧Q v (upd H' d (.dK kvs))
theorem DG{t:TE}(he:PE X e t):PE X e (WR X t):=by
 intro pins s σ H Q I h;refine bW (he pins s σ H _ I h) fun u s1 ⟨v,H1,I1,r1,d,o,kvs,ed,nf,q⟩=> ?_;exact⟨v,_,I1.Uq ed nf,r1,q⟩
end
theorem t_{d:Addr}{o:Obj}{kvs:bG}{H:Hp}(h:H d=some (.fB o (.dK kvs))):nD (Itk d o kvs) H kvs.length (fun i x _=>∃k v,kvs[i]? =some (k,v)∧x=kV k) where
 go:=fun i H' s hi=>⟨hi,s _ _ h⟩
 tJ:=fun i H' x gi s hi q=>⟨q.1▸aw.refl H',q.2⟩
 stop:=fun i H' s hi=>⟨hi,s _ _ h⟩
section
variable{M:Model}{A:Around}{E:Value→Shared→Prop}{s:Shared}
end
section
variable{prog:Program}{w:World}{A:Around}{E:Value→Shared→Prop}{h:Heap}{g:Array GenState}{d:Drawn}{t:Nat}{os:OsState}
variable{nm q:Str}{C N:Addr}{bs bm:aI}{Ti:Bool}{sn:aO}{sub:aI}{ab:Bool}{col:Option Bool}{dd:Option Addr}{k0 k1 k2 k3 k5:aN}
end
section
variable{X:Cx}{CX:A5}{k:Nat}{f C:Addr}{fd:FuncData}{ps:aO}{sp:Sp}{E:XK}{x m:Str}{p pos apos:Pos}{e o:Expr}{es:b8}{ta:TE}{t:TA}
end
section
variable{prog:Program}{w:World}{A:Around}{E:Value→Shared→Prop}{h:Heap}{g:Array GenState}{d:Drawn}{t:Nat}{os:OsState}
variable{nm q:Str}{C N:Addr}{bs bm:aI}{Ti:Bool}{sn:aO}{sub:aI}{ab:Bool}{col:Option Bool}{dd:Option Addr}{k0 k1 k2 k3 k5:aN}
end
section
variable{X:Cx}{p pos apos:Pos}{e1 e2:Expr}{t:TA}
end
end L2
namespace L2
open PySem PySem.Spec PyProof.Rows PySem.Builtin.ObjectAttr
theorem xy(self:Value):refuseLoop self "__setattr__" [.type "ValueError",.type "Exception",.type "BaseException",.type "object"]=pure ():=by kernel_rfl
section
variable{prog:Program}{w:World}{A:Around}{E:Value→Shared→Prop}{h:Heap}{g:Array GenState}{d:Drawn}{t:Nat}{os:OsState}
variable{nm q:Str}{C N x:Addr}{bs bm:aI}{sn:aO}{sub:aI}{ab:Bool}{col:Option Bool}{dd:Option Addr}{k0 k1 k2 k3 k5:aN}{newId:String}
 {mA:Str→aN} {name:Str} {v:Value} {K:Frag}
end
section
variable{X:Cx}{pins:aP}{σ:St}{H:Hp}{s:Shared}{a C:Addr}{n:Bool}{f:Str}{y:V}{u:Value}{A:Around}{E:Value→Shared→Prop}
theorem Inv.two{h' :Heap}{t' :Nat}{dx:Addr}{o1 o2:HO}{φ:Heap→Prop}(I:Inv X pins σ H s)(e:H a=some (.ext φ))(yP:(∀xs,H dx≠some (.tup xs))∧(∀y,H dx≠some (.own y))∧(∀o u,H dx≠some (.fB o u))∧∀ps,H dx≠some (.Lj ps))(hd2:H dx=none→s.heap.objs.size≤dx)(tL:dx≠a)
 (k:∀b o,b≠a→b≠dx→s.heap.get? b=some o→h'.get? b=some o) (ha:∃o,h'.get? a=some o) (hx:∃o,h'.get? dx=some o)
 (n1:bw X.prog X.w (upd (upd H a o1) dx o2) h' a o1) (n2:bw X.prog X.w (upd (upd H a o1) dx o2) h' dx o2):Inv X pins σ (upd (upd H a o1) dx o2) {s with heap:=h',toks:=t'}:=by
 have na:∀b,H b=none→b≠a:=fun b q z=>by rw[z,e] at q;cases q
 have nd:∀b o,s.heap.get? b=some o→H b=none→b≠dx:=fun b o q q' z=>by
  subst z;exact absurd (Nat.lt_of_lt_of_le (Heap.lt_size q) (hd2 q')) (Nat.lt_irrefl _)
 have SQ:∀b,b≠a→b≠dx→upd (upd H a o1) dx o2 b=H b:=fun b h1 h2=>by rw[ah h2,ah h1]
 refine I.step (g' :=s.gens) (d' :=s.drawn) (ch:=[]) (fun _ z=>nomatch z) (fun b o _ _ _ q n=>k b o (na b n) (nd b o q n) q) (fun b o _ _ _ q n=>⟨o.slots,k b o (na b n) (nd b o q n) q⟩) (fun b o _ q n=>by rw[SQ b (na b n) (nd b o q n)];exact n)
  (fun b o _ q=> ?_) (fun b xs q=> ?_) (fun b o u q=> ?_) (fun b ps q=>⟨#[],?_⟩) (fun m hm=> ?_) (fun b u q=> ?_) I.bare
 ·by_cases h1:b=a
  ·rw[h1];exact ha
  ·by_cases h2:b=dx
   ·rw[h2];exact hx
   ·exact⟨o,k b o h1 h2 q⟩
 ·rw[SQ b (fun z=>by rw[z,e] at q;cases q) (fun z=>yP.1 xs (by rw[←z];exact q))];exact q
 ·rw[SQ b (fun z=>by rw[z,e] at q;cases q) (fun z=>yP.2.2.1 o u (by rw[←z];exact q))];exact q
 ·rw[SQ b (fun z=>by rw[z,e] at q;cases q) (fun z=>yP.2.2.2 ps (by rw[←z];exact q)),q];simp
 ·obtain⟨o,es,ep,q,r⟩:=hm;exact⟨o,es,ep,k _ o (na _ I.free) (nd _ o q I.free) q,r⟩
 ·by_cases h2:b=dx
  ·subst h2;rw[af] at q;cases q;exact n2
  ·rw[ah h2] at q;by_cases h1:b=a
   ·subst h1;rw[af] at q;cases q;exact n1
   ·rw[ah h1] at q;refine(I.bE b u q).rZ (fun c v hc q' =>k c v ?_ ?_ q') (fun c q' => ?_) fun c ys q' => ?_
    ·rcases hc with z|z
     ·rw[z];exact h1
     ·exact fun z' =>by rw[z',e] at z;cases z
    ·rcases hc with z|z
     ·rw[z];exact h2
     ·exact fun z' =>yP.2.1 b (by rw[←z'];exact z)
    ·rw[SQ c (fun z=>by rw[z,e] at q';cases q') (fun z=>yP.2.1 b (by rw[←z];exact q'))];exact q'
    ·rw[SQ c (fun z=>by rw[z,e] at q';cases q') (fun z=>yP.1 ys (by rw[←z];exact q'))];exact q'
end
section
variable{X:Cx}{o value:Expr}{f:Str}{pos pos' :Pos}{ta tv:TE}
end
end L2
namespace L2
open PySem PySem.Spec PyProof.Rows PySem.Builtin.ObjectAttr
section
variable{prog:Program}{w:World}{A:Around}{E:Value→Shared→Prop}{s:Shared}{K:Frag}{x C:Addr}{ox:Obj}{od:Option Obj}{name:Str}{expr:Bool}{Q:Value→Shared→Prop}{v:Value}
end
section
variable{X:Cx}{e:Expr}{f:Str}{pos:Pos}{ta:TE}
end
section
variable{X:Cx}{pins:aP}{σ:St}{H:Hp}{s:Shared}{a C:Addr}{dd:Option Addr}{n:Bool}{E:XK}
end
section
variable{M:Model}{A:Around}{E:Value→Shared→Prop}{env:Env}
variable{nm q:Str}{C N:Addr}{bs bm:aI}{Ti:Bool}{sn:aO}{sub:aI}{ab:Bool}{col:Option Bool}{dd:Option Addr}{k0 k1 k2 k3 k5:aN}{newId:String}
end
section
variable{X:Cx}{e:Expr}{pos:Pos}{t:TE}{E:XK}
end
section
variable{M:Model}{A:Around}{E:Value→Shared→Prop}{s:Shared}
end
section
variable{X:Cx}{pins:aP}{σ:St}{H:Hp}{s:Shared}{a C:Addr}{dd:Option Addr}{n:Bool}
end
section
variable{X:Cx}{pins:aP}{σ:St}{H:Hp}{s:Shared}{a T:Addr}
abbrev Cx.pinned(X:Cx)(pn:aP)(E:Value→Shared→Prop):Cx:={X with pn:=X.pn++pn,xe:=E}
end
section
variable{M:Model}{A:Around}{E:Value→Shared→Prop}
end
section
variable{X:Cx}{body V6:List Stmt}{b0:Stmt}{ww:List ExceptHandler}{c nm:Str}{cp z_ pos:Pos}{tb:XK→TS}{th:TS}{i:Nat}{D:Addr}
end
section
variable{P:Program}{w:World}{K:Frag}{mg:Str→aN}{base:Heap}
end
section
variable{X:Cx}
theorem wU:∀{xs:aO} {us:aI},Vals (xs.map V.str) us→∃l:List (Str×Tok),us=strValues l∧l.map (·.1)=xs
 |[],_,.nil=>⟨[],rfl,rfl⟩
 |x::xs,_,.cons ⟨t,e⟩ r=>by
  obtain⟨l,rfl,rfl⟩:=wU r;subst e;exact⟨(x,t)::l,rfl,rfl⟩
theorem LO:SU X "str.join" (fun x vs H Q=>∃a b xs,x= .str a∧vs=[.ref b]∧H b=some (.lst (xs.map V.str))∧JoinOk a xs=true∧Q (.str (Txt.join a xs)) H):=by
 intro pins s σ H x vs v us Q I rx rv h;obtain⟨a,b,xs,rfl,rfl,hb,hj,q⟩:=h;obtain⟨t,rfl⟩:=rx;obtain⟨u,rfl,ru⟩:=rv.one;cases ru;obtain⟨z,its,n,r,hl,e⟩:=I.Cc hb;obtain⟨l,rfl,rfl⟩:=wU r;exact SC.join (x:=a) (D:=b) (l:=l) ⟨_,e,rfl,_,rfl⟩ rfl hj fun t' k=>⟨.str _,H,I.tok k,⟨t',rfl⟩,q⟩
end
end L2
namespace My
open PySem PySem.NumText PyProof.Rows L2
end My
namespace L2
open PySem PySem.Spec PySem.SeqAt PyProof.Rows
section
variable{X:Cx}
theorem BW:mh X (binaryOp .Mult) (fun x y H Q=>∃z n,x= .str z∧y= .int n∧MulOk z n∧Q (.str (Txt.mul z n)) H):=by
 intro pins s σ H x y v u Q I rx ry h;obtain⟨z,n,rfl,rfl,ok,q⟩:=h;obtain⟨t,rfl⟩:=rx;obtain⟨t',rfl⟩:=ry;exact SB.mul ok fun t' k=>⟨.str _,H,I.tok k,⟨t',rfl⟩,q⟩
theorem wL(hu:X.A.units+100<cLine):mh X (compareOp .NotEq) (fun x y H Q=>∃d e,Dat H x d∧Dat H y e∧shaped d=true∧shaped e=true∧noMix d e=true∧Q (.bl (!PySem.Spec.same d e)) H):=by
 intro pins s σ H x y v u Q I rx ry h;obtain⟨d,e,hd,he,s1,s2,m,q⟩:=h;obtain⟨⟨as,rd⟩,_⟩:=hd.reads I.bE rx;obtain⟨⟨bs,re⟩,_⟩:=he.reads I.bE ry;exact ne_dataH_same rd re s1 s2 (by lia) m ⟨.bl _,H,I,rfl,q⟩
end
section
variable{X:Cx}{e:Expr}{f:Str}{pos:Pos}{ta:TE}{K:Frag}
end
section
variable{X:Cx}{e:Expr}{es:b8}{st:Stmt}{Sy:List Stmt}{te:TE}{ta:TA}{t u:TS}
structure YU(X:Cx)(es:b8)(t:TA):Prop where
 h:PA X es t
structure SK(X:Cx)(e:Expr)(t:TE):Prop where
 h:PE X e t
structure Wj(X:Cx)(st:Stmt)(t:TS):Prop where
 h:PS X st t
structure BG(X:Cx)(Sy:List Stmt)(t:TS):Prop where
 h:A2 X Sy t
theorem Kw:YU X [] QX:=⟨ae⟩
theorem ee(hs:∀(es:b8) (env:Env),starEach (e::es) env=(false,eval e env)::starEach es env)(ha:PE X e te)(hr:YU X es ta):YU X (e::es) (N0 te ta):=⟨aa ha hr.h (hs _ _)⟩
theorem LH{pos:Pos}(h:YU X es ta):SK X (.List es pos) (UU ta):=⟨b7 h.h⟩
theorem LW{i:Nat}{x:Str}{pos pos' :Pos}(hN:X.N.Nodup)(hi:X.N[i]? =some x)(hx:Loc X.env.scope x)(he:SK X e te)(hs:swapsWith e (some (.Name x pos')) pos.line X.env=pure false)(hf:X.fn x=true∨X.env.scope.names.lookup x=some .local):
 Wj X (.Assign [.Name x pos'] e pos) (Ld te (CZ i)):=⟨aZ hN hi hx he.h hs hf⟩
theorem dS(h1:Wj X st t)(h2:BG X Sy u):BG X (st::Sy) (Xf t u):=⟨ai h1.h h2.h⟩
theorem qv(h1:Wj X st t):BG X [st] t:=⟨aq h1.h⟩
end
section
variable{P:Program}{w:World}{K:Frag}{mg:Str→aN}{base:Heap}
theorem eP.okM{x qual:Str}{st:Stmt}{f:Addr}{fd:FuncData}{N ps:aO}{k:Nat}{sp:Sp}(F:eP K x qual st f fd)(S:aF N ps (av st))(len:∀vs H Q E,sp vs H Q E→vs.length=ps.length)
 (h8:∀(cJ:Value) (A:Around) (outer:List Env) (s:Shared) (H:Hp) (vs:ax) (Q:VK) (E:XK),fh k (A.deeper (envOfC qual (av st) s.heap.objs.size f cJ))→sp vs H Q E→
  ∃t,BG (Bi eF P w K mg base N qual (av st) f cJ A outer s H E).KD (iR st) t∧t {nx:=fun _ H' =>Q .bC H',rt:=Q} (Wp N vs) H):bu P w K mg base eF (k+1) f fd ps sp:=
 F.ok S len fun cJ A outer s H vs Q E hr h=>by
  obtain⟨t,h,q⟩:=h8 cJ A outer s H vs Q E hr h;exact⟨t,h.h,q⟩
end
end L2
namespace L2
open PySem PySem.Spec PyProof.Rows PySem.Builtin.ObjectAttr
section
variable{K:Frag}{C:Addr}
variable{prog:Program}{w:World}{A:Around}{E:Value→Shared→Prop}{s:Shared}{x:Addr}{ox:Obj}{od:Option Obj}
end
section
variable{X:Cx}{K:Frag}
end
structure VG(k:Nat)(A:Around):Prop where
 dp:A.depth+3*k+5<recursionLimit
 un:A.units+16*k+200<cLine
 gd:A.guards=some []
structure JR(P:Program)(w:World)(K:Frag)(mg:Str→aN)(base:Heap)(k:Nat)(f:Addr)(fd:FuncData)(ps:aO)(sp:Sp):Prop where
 len:∀vs H Q E,sp vs H Q E→vs.length=ps.length
 run:∀(A:Around) (outer:List Env) (s:Shared) (H:Hp) (args:Args) (us:aI) (vs:ax) (Q:VK) (E:XK),VG k A→uH P w K mg base A outer s H→BindsTo s fd args (ps.zip us)→Vals vs us→sp vs H Q E→
  codeAny (model P w) A (.call (.ref f) args) (CR eF outer P w H s Q E) s
theorem JR.mono{P:Program}{w:World}{K:Frag}{mg:Str→aN}{base:Heap}{j k:Nat}{f:Addr}{fd:FuncData}{ps:aO}{sp:Sp}(F:JR P w K mg base j f fd ps sp)(h:j≤k):JR P w K mg base k f fd ps sp:=
 ⟨F.len,fun A outer s H args us vs Q E hr=>F.run A outer s H args us vs Q E ⟨by have:=hr.dp;lia,by have:=hr.un;omega,hr.gd⟩⟩
section
variable{X:Cx}{k:Nat}{f:Addr}{fd:FuncData}{ps:aO}{sp:Sp}{x:Str}{p pos:Pos}{e:Expr}{es:b8}{t:TA}{K:Frag}
end
section
variable{X:Cx}
end
section
variable{X:Cx}{CX:A5}{k:Nat}{f C:Addr}{fd:FuncData}{ps:aO}{sp:Sp}{sQ:ax}{ds:aI}{E:St→XK}{x m:Str}{p pos apos:Pos}{e o:Expr}{es:b8}{ta:TE}{t:TA}
end
section
variable{X:Cx}{body V6:List Stmt}{b0:Stmt}{ww:List ExceptHandler}{c nm:Str}{cp z_ pos:Pos}{tb:(St→XK)→TS}{th:TS}{i:Nat}{D:Addr}
end
theorem Eo:typeLookup (.type "list") "keys"=pure none:=by rw[typeLookup_type,builtinLookup_eq_fast];kernel_rfl
section
variable{prog:Program}{w:World}{A:Around}{E:Value→Shared→Prop}{s:Shared}
theorem xf{a:Addr}{o:Obj}{xs:Array Value}{k:Nat}{Q:aN→Shared→Prop}
 (hx:s.heap.get? a=some o) (hc:o.cls= .type "list") (Vi:o.data= .seq xs k) (hd:o.dict=none) (hA:A.handled=none)
 (h:∀h' tk,(∀b q,s.heap.get? b=some q→h'.get? b=some q)→Q none {s with heap:=h',toks:=tk}):
 wpAny (model prog w) A (getAttr? (.ref a) "keys") Q E s:=by
 obtain⟨c,dct,dat,sl⟩:=o;simp only at hc Vi hd;subst hc Vi hd;obtain⟨hp,g,d,tk,os⟩:=s;have hT:∀Yp,(⟨hp,g,d,Yp,os⟩:Shared).TypeIs (.ref a) "list":=fun _=>⟨_,hx,rfl⟩;have f1:=sub_AttributeError;have f3:=F.slot_list_getattribute.lookup;have f4:=F.slot_list_getattribute.bind (.ref a);have f5:=am_list_getattr_none;unfold getAttr? getAttrBy? getAttrBy
 repeat (any_goals (first|assumption|exact hT _|((with_reducible show wpAny _ _ (call (Value.builtin "list.__getattribute__") _ _) _ _ _);refine call_meets F.slot_list_getattribute (hT _) am_entry_list_getattribute (F.args_list_getattribute_2 _ _) (meets_getattribute_miss_list a xs k sl "keys" _ Eo (by decide+kernel) (by size_fits)) ⟨hx,hA,fun h' Yp e hx' => ?_⟩)|wp_step))
 obtain⟨t',u',he⟩:=hx'.there;show wpAny _ _ (getattributeRaised _ _ _ _ _ _ _) _ _ _;unfold getattributeRaised
 repeat (any_goals (first|assumption|wp_step))
 exact h _ _ hx'.keeps
theorem mf:entryFor table "dict.update.loop"=some Builtin.«dict.update.loop» :=entryFor_of_tree (by kernel_rfl)
theorem fu:plainId "dict.update.loop"=true:=by decide+kernel
theorem jab{a:Addr}{x y:Value}{h:Value→Sem (aI)}{Q:aI→Shared→Prop}(ht:s.heap.IsTuple a #[x,y])(hq:Q [x,y] s):wpAny (model prog w) A ((Builtin.Dict.pairItems (.ref a)).tryCatch h) Q E s:=by
 obtain⟨o,ho,hc,n,hd⟩:=ht;have hT:s.TypeIs (.ref a) "tuple":=⟨_,ho,hc⟩;refine wpAny_tryCatch ?_;unfold Builtin.Dict.pairItems;refine wpAny_bind (wpAny_typeOf hT ?_);rw[if_pos (by decide)];refine wpAny_bind (wpAny_seqItems ho hd ?_);exact wpAny_pure hq
end
section
variable{prog:Program}{w:World}{A:Around}{R:Result→Shared→Prop}{I:Addr}{fp wr:aY}{G:Array GenState→Array GenState→Prop}{n:Nat}{P:Nat→Value→Prop}{St:Nat→Shared→Prop}{κ:Type}[DecidableEq κ]{knd:KeyKind prog w κ}
theorem Eg(vs:List (κ×Value))(k:κ)(v:Value):(stored vs k v).length≤vs.length+1:=by
 unfold stored
 split
 ·rw[List.length_map];lia
 ·rw[List.length_append];simp
theorem zK(vs ps:List (κ×Value))(p:κ×Value):merged vs (ps++[p])=stored (merged vs ps) p.1 p.2:=by
 unfold merged;rw[List.foldl_append];rfl
theorem ET(ps:List (κ×Value)):∀vs:List (κ×Value),(merged vs ps).length≤vs.length+ps.length:=by
 induction ps with
 |nil=>intro vs;exact Nat.le_refl _
 |cons p r ih=>
  intro vs;have h:=ih (stored vs p.1 p.2);have h2:=Eg vs p.1 p.2;show(merged (stored vs p.1 p.2) r).length≤_;rw[List.length_cons]
  lia
theorem Em(W:WalksS prog w A.in1 I fp wr G n P St)(D:Addr)(XQ:D∉fp)(ps:List (κ×Value))(hn:ps.length=n)(hb:n≤sizeLine):
 ∀(k i:Nat) (s:Shared),n - i=k→i≤n→St i s→s.heap.DictOf knd D (merged [] (ps.take i))→
  (∀i v,P i v→∃a key q x,v= .ref a∧ps[i]? =some (q,x)∧knd.is q key=true∧a∉D::wr∧s.heap.IsTuple a #[key,x])→
  (∀s',Moved (D::wr) G s s'→s'.heap.DictOf knd D (merged [] ps)→R (.ok (.ret .none)) s')→
  codeAny (model prog w) A (.builtin "dict.update.loop" ⟨[.ref D,.ref I,rawInt i,.none],[]⟩) R s:=by
 have hDw:D∉wr:=fun h=>XQ (W.sub _ h);have E7:∀b∈wr,b∈D::wr:=fun b hb=>List.mem_cons_of_mem _ hb;intro k
 induction k with
 |zero=>
  intro i s hk hi iP hS hT hR;have KP:i=n:=by lia
  subst KP;refine codeAny_builtin mf ?_;rw[Around.under_plainId fu _];show wpAny _ A.in1 (pyNext (.ref I)>>= _) _ _ s;refine wpAny_bind (W.done s _ _ iP fun s' hm=> ?_);show wpAny _ A.in1 (Builtin.Dict.addKeywords D []>>= fun _=>ret Value.none) _ _ s';refine wpAny_bind (wpAny_pure (wpAny_pure (hR s' (hm.mono E7) ?_)));obtain⟨o,es,ep,ho,ww⟩:=hS;rw[List.take_of_length_le (by lia)] at ww;exact⟨o,es,ep,hm.heap D _ hDw ho,ww⟩
 |succ k ih=>
  intro i s hk hi iP hS hT hR;have gB:i<n:=by lia
  refine codeAny_builtin mf ?_;rw[Around.under_plainId fu _];show wpAny _ A.in1 (pyNext (.ref I)>>= _) _ _ s;refine wpAny_bind (W.item i s _ _ gB iP fun v s' hP af1 hm=> ?_);obtain⟨a,key,q,x,rfl,hq,vU,ha,ht⟩:=hT i v hP;have keep:∀{b:Addr} {o:Obj},b∉D::wr→s.heap.get? b=some o→s'.heap.get? b=some o:=fun{b o} hb e=>hm.heap b o (fun z=>hb (E7 b z)) e
  have ht' :s'.heap.IsTuple a #[key,x]:=by
   obtain⟨o,ho,ww⟩:=ht;exact⟨o,keep ha ho,ww⟩
  have Q5 :s'.heap.DictOf knd D (merged [] (ps.take i)):=by
   obtain⟨o,es,ep,ho,ww⟩:=hS;exact⟨o,es,ep,hm.heap D _ hDw ho,ww⟩
  have hle:=ET (ps.take i) [];rw[List.length_take] at hle;show wpAny _ A.in1 (holding [Value.ref a] _>>= _) _ _ s';refine wpAny_bind (wpAny_holding ?_);refine wpAny_bind (jab ht' ?_);show wpAny _ A.in1 (holding [key,x] (dictSet D key x)) _ _ s';refine wpAny_holding ?_;refine wpAny_dictSet_pairs vU Q5 (fun h' JT Iv => ?_) (by simp at hle;lia)
  have e1:ps.take (i+1)=ps.take i++[(q,x)]:=by
   rw[List.take_add_one,hq];rfl
  refine wpAny_pure ⟨plainId_quiet fu _,?_⟩;have e2:rawInt ((i:Int)+1)=rawInt ((i+1:Nat):Int):=by rw[Int.natCast_add];rfl
  show codeAny _ _ (.builtin "dict.update.loop" ⟨[.ref D,.ref I,rawInt ((i:Int)+1),.none],[]⟩) _ _;rw[e2]
  have Px:∀{b:Addr} {o:Obj},b∉D::wr→s'.heap.get? b=some o→h'.get? b=some o:=fun{b o} hb e=>by
   rw[Iv.2 b (fun z=>hb (by rw[z];exact List.mem_cons_self))];exact e
  refine ih (i+1) _ (by lia) gB (W.frame _ s' _ _ af1 (Nat.le_succ _) fun b hb o e=> ?_) ?_ (fun j u hu=> ?_) fun RK abz aau => ?_
  ·rw[Iv.2 b (fun z=>XQ (by rw[←z];exact hb))];exact e
  ·show h'.DictOf knd D (merged [] (ps.take (i+1)));rw[e1,zK];exact JT
  ·obtain⟨a',afR,q',x',h1,h2,h3,h4,o,ho,ww⟩:=hT j u hu;exact⟨a',afR,q',x',h1,h2,h3,h4,o,Px h4 (keep h4 ho),ww⟩
  ·refine hR RK (Moved.trans W.gtrans ((hm.mono E7).then_heap (Nat.le_succ _) fun b o hb e=> ?_) abz) aau;exact Px hb e
end
section
variable{prog:Program}{w:World}{A:Around}{E:Value→Shared→Prop}{s:Shared}{κ:Type}[DecidableEq κ]{knd:KeyKind prog w κ}
theorem Ce{l:Addr}{items:Array Value}{ps:List (κ×Value)}{Q:Value→Shared→Prop}(hh:A.handled=none)(hl:s.heap.IsList l items)(hld:∀o,s.heap.get? l=some o→o.dict=none)(hn:ps.length=items.size)(hb:items.size≤sizeLine)
 (hT:∀(i:Nat) v,items[i]? =some v→∃a key q x,v= .ref a∧ps[i]? =some (q,x)∧knd.is q key=true∧s.heap.IsTuple a #[key,x])
 (h:∀(h' :Heap) (tk:Nat),h'.DictOf knd s.heap.objs.size (merged [] ps)→(∀b o,s.heap.get? b=some o→h'.get? b=some o)→Q (.ref s.heap.objs.size) {s with heap:=h',toks:=tk}):
 wpAny (model prog w) A (call (.type "dict") [.ref l]) Q E s:=by
 refine callType_codes (Q₁:=fun obj bR=>obj= .ref s.heap.objs.size∧bR={s with heap:=s.heap.push {cls:= .type "dict",data:= .dict #[]}}) F.kt_called_dict (F.kt_typeCall_dict_1 _) F.entry_dict_init (kt_code_dict_new _ ⟨rfl,rfl⟩) ?_
 rintro obj bR ⟨rfl,rfl⟩
 have G5:(s.heap.push {cls:= .type "dict",data:= .dict #[]}).DictOf knd s.heap.objs.size []:=Heap.DictOf.new s.heap;obtain⟨ol,S2,sP,nl,hdl⟩:=id hl;have Sz :(s.heap.push {cls:= .type "dict",data:= .dict #[]}).get? l=some ol:=Heap.get?_push_of_some _ S2;have hlS:l<s.heap.objs.size:=Heap.lt_size S2;refine⟨G5.typeIs,F.args_dict_init_2 _ _,?_⟩;unfold Builtin.«dict.__init__»;refine wpAny_bind ?_;unfold Builtin.Dict.selfAndRest;refine wpAny_bind (wpAny_notOrdered_dict G5.typeIs ?_);show wpAny _ _ (pure (s.heap.objs.size,[Value.ref l])) _ _ _;refine wpAny_pure ?_;show wpAny _ _ (Builtin.Dict.updateFrom "dict.__init__" s.heap.objs.size (.ref l) [] .none) _ _ _;unfold Builtin.Dict.updateFrom;have hTl:Shared.TypeIs {s with heap:=s.heap.push {cls:= .type "dict",data:= .dict #[]}} (.ref l) "list":=⟨_,Sz,sP⟩;refine wpAny_bind (wpAny_typeOf hTl ?_);rw[if_pos (by decide)];refine wpAny_bind (xf Sz sP hdl (hld _ S2) (by simp[hh]) fun h2 tk2 k2=> ?_);rw[if_pos (show(none:aN).isNone=true from rfl)];refine wpAny_bind (wpAny_rule ?_);have vi:h2.IsList l items:=⟨ol,k2 _ _ Sz,sP,nl,hdl⟩;refine wpAny_bind (wpAny_pyIter_list (s:={s with heap:=h2,toks:=tk2}) vi ?_);refine wpAny_pure ⟨plainId_quiet fu _,?_⟩;have hold:∀b o,s.heap.get? b=some o→(h2.push {cls:= .type "list_iterator",data:= .fields #[.ref l,.int 0 0]}).get? b=some o:=fun b o e=>Heap.get?_push_of_some _ (k2 _ _ (Heap.get?_push_of_some _ e));have hD2:h2.get? s.heap.objs.size=some {cls:= .type "dict",data:= .dict #[]}:=k2 _ _ (Heap.get?_push_size _ rfl);have M9:s.heap.objs.size<h2.objs.size:=Heap.lt_size hD2;have ac2:l≠h2.objs.size:=Nat.ne_of_lt (Nat.lt_trans hlS M9)
 have XQ:s.heap.objs.size∉[h2.objs.size,l]:=by
  simp only[List.mem_cons,List.not_mem_nil,or_false,not_or];exact⟨Nat.ne_of_lt M9,Nat.ne_of_gt hlS⟩
 refine Em (knd:=knd) ((Walks.list (by simp[hh]) _ l ac2 items).toS) s.heap.objs.size XQ ps hn hb (items.size - 0) 0 _ (by lia) (Nat.zero_le _) ⟨⟨_,Heap.get?_push_size _ rfl,rfl,rfl⟩,(vi.push _)⟩ ?_ (fun i v hv=> ?_) fun s' hm JT => ?_
 ·obtain⟨o,es,ep,ho,ww⟩:=G5;exact⟨o,es,ep,Heap.get?_push_of_some _ (k2 _ _ ho),ww⟩
 ·obtain⟨a,key,q,x,h1,h2',h3,o,ho,ww⟩:=hT i v hv;have gB:a<s.heap.objs.size:=Heap.lt_size ho;refine⟨a,key,q,x,h1,h2',h3,?_,o,hold _ _ ho,ww⟩;simp only[List.mem_cons,List.not_mem_nil,or_false,not_or];exact⟨Nat.ne_of_lt gB,Nat.ne_of_lt (Nat.lt_trans gB M9)⟩
 ·obtain⟨h',g',d',Yp,os'⟩:=s';have eg:g' =s.gens:=hm.gens;have ed:d' =s.drawn:=hm.drawn;have eo:os' =s.os:=hm.os;subst eg;subst ed;subst eo
  refine⟨rfl,h h' Yp JT fun b o e=> ?_⟩;have hb1:b<s.heap.objs.size:=Heap.lt_size e;refine hm.heap b o ?_ (hold _ _ e);simp only[List.mem_cons,List.not_mem_nil,or_false,not_or];exact⟨Nat.ne_of_lt hb1,Nat.ne_of_lt (Nat.lt_trans hb1 M9)⟩
end
section
variable{X:Cx}
def nH(H:Hp)(ys:ax)(kvs:bG):Prop:=ys.length=kvs.length∧∀(i:Nat) k v,kvs[i]? =some (k,v)→∃a,ys[i]? =some (.ref a)∧H a=some (.tup [kV k,v])
theorem jau{kvs:bG}:∀(R:Nat→wn→V→Value→Prop),(∀(i:Nat) k v,kvs[i]? =some (k,v)→∃x,RelV v x∧R i k v x)→∃ps:List (wn×Value),KV kvs ps∧∀(i:Nat) k v,kvs[i]? =some (k,v)→∃x,ps[i]? =some (k,x)∧R i k v x:=by
 induction kvs with
 |nil=>exact fun R _=>⟨[],.nil,fun i k v e=>by simp at e⟩
 |cons p r ih=>
  intro R h;obtain⟨k0,v0⟩:=p;obtain⟨x0,r0,h0⟩:=h 0 k0 v0 rfl;obtain⟨ps,SX,hi⟩:=ih (fun i=>R (i+1)) fun i k v e=>h (i+1) k v (by simpa using e);refine⟨(k0,x0)::ps,.cons ⟨rfl,r0⟩ SX,fun i k v e=> ?_⟩
  cases i with
  |zero=>
   simp at e;obtain⟨rfl,rfl⟩:=e;exact⟨x0,rfl,h0⟩
  |succ i=>
   obtain⟨x,e1,e2⟩:=hi i k v (by simpa using e);exact⟨x,by simpa using e1,e2⟩
theorem lZ(hc:X.calm=true):eZ X (.type "dict") (fun xs H Q=>∃p ys kvs,xs=[.ref p]∧H p=some (.lst ys)∧nH H ys kvs∧∀d,H d=none→Q (.ref d) (upd H d (.dK (fw [] kvs)))):=by
 intro pins s σ H xs us Q I r h;obtain⟨p,ys,kvs,rfl,hq,⟨hlen,hP⟩,q⟩:=h;obtain⟨u,rfl,rx⟩:=wT r;cases rx;obtain⟨hz,its,n,r',e0⟩:=(show bw X.prog X.w H s.heap p (.lst ys) from I.bE p _ hq);have hl:=r'.length
 obtain⟨ps,SX,hi⟩:=jau (kvs:=kvs) (fun i k v x=>∃a key,its[i]? =some (.ref a)∧RelV (kV k) key∧s.heap.IsTuple a #[key,x]) fun i k v e=>by
  obtain⟨a,ea,eH⟩:=hP i k v e;obtain⟨u,hu,ru⟩:=r'.get ea;cases ru;obtain⟨_,us,rus,o,h1,h2,n,h3⟩:=(show bw X.prog X.w H s.heap a (.tup [kV k,v]) from I.bE a _ eH);obtain⟨key,x,rfl,r1,r2⟩:=jad rus;exact⟨x,r2,a,key,hu,r1,o,h1,h2,n,h3⟩
 have tS:=SX.length;refine Ce (knd:=bz X.prog X.w) (I.ok.hd hc) ⟨_,e0,rfl,n,rfl⟩ (fun o e=> ?_) (ps:=ps) (by simp;lia) (by simp;lia) (fun i v hv=> ?_) fun h' tk hd kp=> ?_
 ·rw[e0] at e;cases e;rfl
 ·have hv:its[i]? =some v:=by simpa using hv
  have An:i<kvs.length:=by
   have:=(List.getElem?_eq_some_iff.mp hv).1
   lia
  obtain⟨x,e1,a,key,e2,r1,ht⟩:=hi i kvs[i].1 kvs[i].2 (by simp[An]);rw[e2] at hv;cases hv;exact⟨a,key,kvs[i].1,x,rfl,e1,sj r1,ht⟩
 ·have hle:=fc kvs [];simp at hle;exact⟨.ref s.heap.objs.size,_,I.laid (t' :=tk) kp (Nat.le_refl _) (uW (by lia) (pW (P:=X.prog) (w:=X.w) (H:=H) s.heap I.big).2.1 (SX.merge .nil) hd),rfl,q _ (I.bE.fresh (Nat.le_refl _))⟩
theorem ur:eZ X (.type "dict") (fun xs H Q=>∃p kvs,xs=[.ref p]∧H p=some (.dK kvs)∧∀d,H d=none→Q (.ref d) (upd H d (.dK kvs))):=by
 intro pins s σ H xs us Q I r h;obtain⟨p,kvs,rfl,hq,q⟩:=h;obtain⟨u,rfl,rx⟩:=wT r;cases rx;obtain⟨hz,hs,vs,rel,dd⟩:=sH I.bE hq;have hl:=rel.length;refine kt_call_dict (knd:=bz X.prog X.w) hs dd (by lia) fun h' hd WX=> ?_
 have kp:∀b o,s.heap.get? b=some o→h'.get? b=some o:=fun b o e=>by
  rw[WX.2 b (Nat.ne_of_lt (Heap.lt_size e))];exact Heap.get?_push_of_some _ e
 exact⟨.ref s.heap.objs.size,_,I.laid (t' :=s.toks) kp (Nat.le_refl _) (uW hz (pW (P:=X.prog) (w:=X.w) (H:=H) s.heap I.big).2.1 rel hd),rfl,q _ (I.bE.fresh (Nat.le_refl _))⟩
end
def j3(v d:Addr):HO:= .ext fun h=>h.IsItemsView v d
def Qy(x:V)(vs:ax)(H:Hp)(Q:VK):Prop:=∃d kvs,x= .ref d∧vs=[]∧H d=some (.dK kvs)∧∀v,H v=none→Q (.ref v) (upd H v (j3 v d))
theorem mN{X:Cx}:PY X "dict.items" Qy:=by
 intro pins s σ H x vs v us Q I rx rv h;obtain⟨d,kvs,rfl,rfl,hH,q⟩:=h;cases rx;have Ro:=rv.zero;subst Ro;obtain⟨hz,hs,vs,rel,dd⟩:=sH I.bE hH;refine call_meetsIn slot_dict_items dd.typeIs PySem.F.entry_dict_items (PySem.F.args_dict_items_1 _) (meets_dict_items (bz X.prog X.w) d hs) ⟨⟨vs,dd⟩,?_⟩;refine⟨.ref s.heap.objs.size,_,I.laid (a:=s.heap.objs.size) (o:=j3 s.heap.objs.size d) (t' :=s.toks) (fun _ _ q=>Heap.get?_push_of_some _ q) (Nat.le_refl _) ?_,rfl,q _ (I.bE.fresh (Nat.le_refl _))⟩;refine⟨⟨_,Heap.get?_push_size _ rfl,rfl,rfl⟩,⟨_,Heap.get?_push_size _ rfl⟩,fun h1 h2 ⟨o,e,r⟩ k=>⟨o,k _ e,r⟩⟩
def YW(d:Addr)(o:Obj)(kvs:bG):It:=
 ⟨fun i H=>i<kvs.length∧H d=some (.fB o (.dK kvs)),fun i H x H' =>∃T k v,x= .ref T∧H T=none∧H' =upd H T (.tup [kV k,v])∧kvs[i]? =some (k,v),fun i H=>kvs.length≤i∧H d=some (.fB o (.dK kvs))⟩
theorem Ie{kvs:bG}{vs:List (wn×Value)}(r:KV kvs vs):∀{i:Nat} {p:wn×V} {k:wn} {x:Value},kvs[i]? =some p→vs[i]? =some (k,x)→RelV p.2 x:=by
 unfold KV at r
 induction r with
 |nil=>intro i p k x h;simp at h
 | @cons a b as bs h t ih=>
  intro i p k x h1 h2
  cases i with
  |zero=>
   simp at h1 h2;subst h1 h2;exact h.2
  |succ i=>exact ih (by simpa using h1) (by simpa using h2)
theorem Bg{P:Program}{w:World}{K:Frag}{elts:b8}{kt:Nat}{pt:Pos}(d it:Addr)(o:Obj)(kvs:bG)(ep:Nat)(es:Array DictEntry)(hd:o.data= .dict es ep):
 Turn P w K (.Tuple elts kt pt) (YW d o kvs) [it] it (fun i h=>∃ok ov,IsItemIter h it d i kvs.length ep ok ov) where
 mem:=by simp
 obj:=fun i h st b hb=>by
  have e:b=it:=by simpa using hb
  subst e;obtain⟨ok,ov,e⟩:=st;exact⟨_,e,fun v z=>by cases z⟩
 keep:=fun i h h' st k=>by
  obtain⟨ok,ov,e⟩:=st;exact⟨ok,ov,k it (by simp) _ e⟩
 item:=by
  intro X hP hw hK hc i pins s σ H E I hf st hg;subst hP hw hK;obtain⟨hi,hq⟩:=hg;obtain⟨ho,z,hs,vs,rel,o',Lh,Mp,g1,g2,g3,g4,g5,g6⟩:=(show bw X.prog X.w H s.heap d (.fB o (.dK kvs)) from I.bE d _ hq);rw[ho] at g1;cases g1;rw[hd] at g3;cases g3;have hl:=rel.length;obtain⟨⟨k,x⟩,hx⟩:∃p,vs[i]? =some p:=⟨vs[i],by simp[show i<vs.length by omega]⟩;obtain⟨f0,f1,f2,f3,f4,f5⟩:=hf it (by simp);obtain⟨ok,ov,st⟩:=st;rw[hl] at st;have So:it<s.heap.objs.size:=Heap.lt_size st
  obtain⟨p,hp,L8,A3⟩:∃p:wn×V,kvs[i]? =some p∧p.1=k∧RelV p.2 x:=by
   have:kvs[i]? =some kvs[i]:=by simp[hi]
   exact⟨_,this,Bx rel this hx,Ie rel this hx⟩
  obtain⟨pk,pv⟩:=p;have L8:pk=k:=L8;subst L8;refine wpAny_pyNext_items_item (knd:=bz X.prog X.w) st ⟨o,es,ho,g2,hd,g4,g5,g6⟩ hx fun key h' vU aas hT hsz hk=> ?_;refine⟨.ref s.heap.objs.size,rfl,?_⟩;refine wpAny_letOwnedTupleGo_items aas fun KO QJ Eh => ?_;have EA:H s.heap.objs.size=none:=I.bE.fresh (Nat.le_refl _);have WD:s.heap.objs.size≠it:=Nat.ne_of_gt So;have kk:∀b o,b≠it→s.heap.get? b=some o→KO.get? b=some o:=fun b o hb q=>(Eh.2 b hb).trans (hk b o hb q);have Sg :KO.get? s.heap.objs.size=some {cls:= .type "tuple",data:= .seq #[key,x]}:=(Eh.2 _ WD).trans hT;have tL:∀b u,H b=some u→b≠it:=fun b u q z=>by rw[z,f0] at q;cases q
  have I2:Inv X pins σ (upd H s.heap.objs.size (.tup [kV pk,pv])) {s with heap:=KO}:=by
   have new:bw X.prog X.w (upd H s.heap.objs.size (.tup [kV pk,pv])) KO s.heap.objs.size (.tup [kV pk,pv]):=⟨(show 2≤sizeLine by decide),[key,x],.cons (J8 vU) (.cons A3 .nil),⟨_,Sg,rfl,_,rfl⟩⟩
   refine I.step (g' :=s.gens) (d' :=s.drawn) (ch:=[it]) (fun b hb=> ?_) (fun b o _ _ hc q _=>kk b o (fun z=>hc (by simp[z])) q) (fun b o _ _ hc q _=>⟨o.slots,kk b o (fun z=>hc (by simp[z])) q⟩)
    (fun b o _ q n=> ?_) (fun b o hc q=>⟨o,kk b o (fun z=>hc (by simp[z])) q⟩) (fun b ys q=> ?_) (fun b o ys q=> ?_) (fun b ps q=>⟨#[],?_⟩) (fun m hm=> ?_) (fun b u q=> ?_) I.bare
   ·have hb:b=it:=by simpa using hb
    subst hb;exact⟨f3,f1,f4,f5⟩
   ·rw[ah (Nat.ne_of_lt (Heap.lt_size q))];exact n
   ·rw[ah (ak q EA)];exact q
   ·rw[ah (ak q EA)];exact q
   ·rw[ah (ak q EA),q];simp
   ·obtain⟨o,es,ep,q,r⟩:=hm;exact⟨o,es,ep,kk _ o (Ne.symm f1) q,r⟩
   ·by_cases hb:b=s.heap.objs.size
    ·subst hb;rw[af] at q;cases q;exact new
    ·rw[ah hb] at q;refine(I.bE b u q).rZ (fun c v hc q' =>kk c v ?_ q') (fun c q' => ?_) fun c ys q' => ?_
     ·rcases hc with z|z
      ·rw[z];exact tL b u q
      ·exact tL c _ z
     ·rw[ah (ak q' EA)];exact q'
     ·rw[ah (ak q' EA)];exact q'
  refine⟨.ref s.heap.objs.size,_,I2,rfl,⟨_,pk,pv,rfl,EA,rfl,hp⟩,⟨_,_,by rw[hl];exact QJ⟩,fun b hb=> ?_⟩;have hb:b=it:=by simpa using hb
  subst hb;rw[ah (Ne.symm WD)];exact f0
 done:=by
  intro X hP hw hK hc i pins s σ H E I hf st hg;subst hP hw hK;obtain⟨hi,hq⟩:=hg;obtain⟨ho,z,hs,vs,rel,o',Lh,Mp,g1,g2,g3,g4,g5,g6⟩:=(show bw X.prog X.w H s.heap d (.fB o (.dK kvs)) from I.bE d _ hq);rw[ho] at g1;cases g1;rw[hd] at g3;cases g3;have hl:=rel.length;obtain⟨f0,f1,f2,f3,f4,f5⟩:=hf it (by simp);obtain⟨ok,ov,st⟩:=st;rw[hl] at st;exact wpAny_pyNext_items_end (knd:=bz X.prog X.w) (I.ok.hd hc) st ⟨o,es,ho,g2,hd,g4,g5,g6⟩ (by simp;omega) fun h' eb=>⟨rfl,I.turned (t' :=s.toks) (fun b ob hb e=>eb b ob hb e) f0 f1 f3 f4 f5⟩
 self:=fun _ _ _ _ _ st h=>by
  obtain⟨ok,ov,st⟩:=st;exact PySem.W.kcp_self st h
section
variable{X:Cx}{e:Expr}{te:TE}{elts:b8}{kt:Nat}{pt:Pos}
def RO(X:Cx)(te:TE):TI:=fun σ H R=>te σ H fun x H1=>∃v d kvs,x= .ref v∧H1 v=some (j3 v d)∧H1 d=some (.dK kvs)∧∀o,JP X d→R (YW d o kvs) (upd H1 d (.fB o (.dK kvs)))
theorem Ao(he:PE X e te):PI X (.Tuple elts kt pt) e (RO X te):=by
 intro pins s σ H R I h;refine bW (he pins s σ H _ I h) fun v s1 ⟨x,H1,I1,r1,v',a,kvs,ex,hv,hq,q⟩=> ?_;subst ex;cases r1;obtain⟨z,hs,vs,rel,o,es,ep,g1,g2,g3,g4,g5,g6⟩:=sH I1.bE hq;obtain⟨Au,_⟩:=(show bw X.prog X.w H1 s1.heap v' (j3 v' a) from I1.bE v' _ hv);have hl:=rel.length;refine wpAny_pyIter_items (knd:=bz X.prog X.w) (kvs:=vs) (ep:=ep) Au ⟨o,es,g1,g2,g3,g4,g5,g6⟩ ?_;have I2:=I1.freeze hq g1;have hn:H1 s1.heap.objs.size=none:=I1.bE.fresh (Nat.le_refl _);have hf:rN X pins (upd H1 a (.fB o (.dK kvs))) s1.heap.objs.size:=I1.uP (Nat.le_refl _) (by rw[ah (fun z=>by rw[z,hq] at hn;cases hn)];exact hn);refine⟨s1.heap.objs.size,[s1.heap.objs.size],_,_,_,rfl,I2.kept (t' :=s1.toks) fun b ob e=>Heap.get?_push_of_some _ e,Bg a _ o kvs ep es g3,⟨_,_,by rw[hl];exact Heap.get?_push_size _ rfl⟩,fun b hb=> ?_,q o (I1.nfz hq)⟩;have e:b=s1.heap.objs.size:=by simpa using hb
 subst e;exact hf
def QC(X:Cx)(t:TS):TS:=fun D σ H=>t {D with nx:=fun dC H' =>∃d o kvs,H' d=some (.fB o (.dK kvs))∧JP X d∧D.nx dC (upd H' d (.dK kvs))} σ H
theorem C4{st:Stmt}{t:TS}(h:PS X st t):PS X st (QC X t):=by
 intro pins s σ H D I q;refine bW (h pins s σ H _ I q) fun f s1 q1=> ?_
 cases f with
 |next=>
  obtain⟨dC,H',I',d,o,kvs,ed,nf,q'⟩:=q1;exact⟨dC,_,I'.Uq ed nf,q'⟩
 |brk=>exact q1
 |cont=>exact q1
 |ret u=>exact q1
end
theorem su{d:Addr}{o:Obj}{kvs:bG}{H:Hp}(h:H d=some (.fB o (.dK kvs))):nD (YW d o kvs) H kvs.length (fun i x H' =>∃T k v,x= .ref T∧H' T=some (.tup [kV k,v])∧kvs[i]? =some (k,v)) where
 go:=fun i H' s hi=>⟨hi,s _ _ h⟩
 tJ:=fun i H' x gi s hi q=>by
  obtain⟨T,k,v,rfl,hT,rfl,hy⟩:=q;exact⟨aw.upd hT,T,k,v,rfl,af,hy⟩
 stop:=fun i H' s hi=>⟨hi,s _ _ h⟩
section
variable{prog:Program}{w:World}{A:Around}{E:Value→Shared→Prop}{s:Shared}
end
section
variable{X:Cx}{pos:Pos}
theorem uL{H:Hp}:∀{ys:ax},(∀(i:Nat) v,ys[i]? =some v→∃t k w,v= .ref t∧H t=some (.tup [kV k,w]))→∃kvs,nH H ys kvs
 |[],_=>⟨[],rfl,fun i k v e=>by simp at e⟩
 |y::r,h=>by
  obtain⟨t,k,w,rfl,e⟩:=h 0 y rfl;obtain⟨kvs,hl,hk⟩:=uL (ys:=r) fun i v e=>h (i+1) v (by simpa using e);refine⟨(k,w)::kvs,by rw[List.length_cons,List.length_cons,hl],fun i k' v' e' => ?_⟩
  cases i with
  |zero=>
   simp at e';obtain⟨rfl,rfl⟩:=e';exact⟨t,rfl,e⟩
  |succ i=>
   obtain⟨a,e1,e2⟩:=hk i k' v' (by simpa using e');exact⟨a,by simpa using e1,e2⟩
end
theorem BQ{n:Nat}:∀i∈sliceRange ((n:Int) - 1) (max (-1) (min 0 ((n:Int) - 1))) (-1),1≤i:=by
 intro i hi;unfold sliceRange at hi;obtain⟨k,hk,rfl⟩:=List.mem_map.mp hi;have hk:=List.mem_range.mp hk;rw[if_neg (by decide)] at hk;by_cases hn:(n:Int) - 1>max (-1) (min 0 ((n:Int) - 1))
 ·rw[if_pos hn] at hk
  have e:((n:Int) - 1 - max (-1) (min 0 ((n:Int) - 1)) - -1 - 1) / (- -1)=(n:Int) - 1:=by
   have h1: - -1=(1:Int):=by decide
   rw[h1,Int.ediv_one];omega
  rw[e] at hk;omega
 ·rw[if_neg hn] at hk;simp at hk
section
variable{X:Cx}{e hi Qi:Expr}{te th ts:TE}{pos p2:Pos}
def UZ(K:Frag)(te th ts:TE):TE:=fun σ H Q=>te σ H fun x H1=>Dp th σ H1 fun o1 H2=>Dp ts σ H2 fun o H3=>∃a xs,x= .ref a∧o1=some 0∧o=some (-1)∧bD K H3 a xs∧
 ∀p zs,H3 p=none→zs.length≤xs.length→(∀z∈zs,∃i:Nat,1≤i∧xs[i]? =some z)→Q (.ref p) (upd H3 p (.lst zs))
theorem KR(he:PE X e te)(hhi:PE X hi th)(iP:PE X Qi ts):PE X (.Subscript e (.Slice none (some hi) (some Qi) p2) pos) (UZ X.K te th ts):=by
 intro pins s σ H Q I h;refine Subscript_ (bW (he pins s σ H _ I h) fun v s1 ⟨x,H1,I1,r1,q1⟩=> ?_);refine wpAny_Slice ?_;rw[evalPart_none];refine wpAny_pure ?_;refine bW (jy hhi pins s1 σ H1 _ I1 q1) fun vl s2 ⟨o1,H2,I2,pl,q2⟩=> ?_;refine bW (jy iP pins s2 σ H2 _ I2 q2) fun vs s3 ⟨o,H3,I3,ps,a,xs,hx,BK,ho,hq,q⟩=> ?_;subst ho BK hx;cases r1;have I4:Inv X pins σ H3 {s3 with heap:=s3.heap.push {cls:= .type "slice",data:= .fields #[.none,vl,vs]}}:=I3.kept (t' :=s3.toks) fun b ob q=>Heap.get?_push_of_some _ q;obtain⟨its,r,ht,hz⟩:=I4.list hq;have hlen:=r.length;show wpAny (model X.prog X.w) X.A (subscriptTail e (.Slice none (some hi) (some Qi) p2) (.ref a) (.ref s3.heap.objs.size)) (EP X pins σ Q) X.xe {s3 with heap:=s3.heap.push {cls:= .type "slice",data:= .fields #[.none,vl,vs]}};refine tail_any (ops:=[.ref a,.ref s3.heap.objs.size]) ht.isList.typeIs slot_list_getitem.lookup ?_ (by with_unfolding_all rfl);refine wpAny_getItem_list_slice ht.isList (Heap.IsSliceOf.new ..) .none pl ps (by simp) ?_ (by rw[List.size_toArray]<;>omega);have SF:(sliceRange ((its.length:Int) - 1) (max (-1) (min 0 ((its.length:Int) - 1))) (-1)).length≤its.length:=sliceRange_length_le _ _ _ _ (fun z=>absurd z (by decide)) fun _=>by omega
 have W_:slicePick its.toArray none (some 0) (some (-1))=((sliceRange ((its.length:Int) - 1) (max (-1) (min 0 ((its.length:Int) - 1))) (-1)).filterMap (its[·]?)).toArray:=by
  unfold slicePick;rw[List.size_toArray]
  congr 2
  funext k
  simp
 rw[W_];have hzs:((sliceRange ((its.length:Int) - 1) (max (-1) (min 0 ((its.length:Int) - 1))) (-1)).filterMap (xs[·]?)).length≤xs.length:=Nat.le_trans (List.length_filterMap_le _ _) (by omega);refine⟨.ref _,_,I4.laid (t' :=s3.toks) (o:= .lst ((sliceRange ((its.length:Int) - 1) (max (-1) (min 0 ((its.length:Int) - 1))) (-1)).filterMap (xs[·]?))) (fun b ob q=>Heap.get?_push_of_some _ q) (Nat.le_refl _) ⟨by omega,_,0,rT r _,Heap.get?_push_size _ rfl⟩,rfl,q _ _ ?_ hzs ?_⟩
 ·exact I4.bE.fresh (Nat.le_refl _)
 ·intro z hz;obtain⟨n,hn,e⟩:=List.mem_filterMap.mp hz;exact⟨n,BQ n hn,e⟩
end
section
variable{X:Cx}
theorem mH{K:Frag}(hK:X.K=K):eZ X (.type "tuple") (fun xs H Q=>∃p ys,xs=[.ref p]∧((bD K H p ys∧∀l,H l=none→Q (.ref l) (upd H l (.tup ys)))∨(mr K H p ys∧Q (.ref p) H))):=by
 subst hK;exact eV
variable{o e:Expr}{es:b8}{to:TE}{t:TA}{name:Str}{apos iJ:Pos}{T id:String}{r:V→ax→Hp→VK→Prop}
end
end L2
namespace L2
open PySem PySem.Spec PySem.SeqAt PyProof.Rows
section
variable{X:Cx}
end
section
variable{prog:Program}{w:World}{A:Around}{E:Value→Shared→Prop}{s:Shared}
structure QQ(h:Heap)(d:Addr)(o:Obj)(es:Array DictEntry)(ep:Nat):Prop where
 at_:h.get? d=some o
 ex:o.ExactDict
 da:o.data= .dict es ep
end
section
variable{X:Cx}{pins:aP}{σ:St}{H:Hp}{s:Shared}{d:Addr}{kvs:eA}
theorem Inv.V5(I:Inv X pins σ H s)(e:H d=some (.dT kvs)):JP X d:=fun o u q=>by
 have:=I.base.nN d o u q;rw[e] at this;cases this
theorem Inv.LY{o:Obj}(I:Inv X pins σ H s)(e:H d=some (.dT kvs))(ho:s.heap.get? d=some o):Inv X pins σ (upd H d (.fB o (.dT kvs))) s:=
 I.swap e (I.V5 e) (fun _ z=>nomatch z) (fun _ z=>nomatch z) (fun _ z=>nomatch z) ⟨ho,(show bw X.prog X.w H s.heap d (.dT kvs) from I.bE d _ e).rZ (fun _ _ _ q=>q) (fun b q=>by rw[ah (aG q e (fun z=>nomatch z))];exact q) fun b ys q=>by rw[ah (aG q e (fun z=>nomatch z))];exact q⟩
theorem Inv.Th{o:Obj}(I:Inv X pins σ H s)(e:H d=some (.fB o (.dT kvs)))(nf:JP X d):Inv X pins σ (upd H d (.dT kvs)) s:=by
 have bE:=(show bw X.prog X.w H s.heap d (.fB o (.dT kvs)) from I.bE d _ e).2;exact I.swap e nf (fun _ z=>nomatch z) (fun _ z=>nomatch z) (fun _ z=>nomatch z) (bE.rZ (fun _ _ _ q=>q) (fun b q=>by rw[ah (aG q e (fun z=>nomatch z))];exact q) fun b ys q=>by rw[ah (aG q e (fun z=>nomatch z))];exact q)
end
theorem lB{α β:Type}{F:α→β→Prop}{l₁:List α}{uk:List β}(r:Paired F l₁ uk):l₁.length=uk.length:=by
 induction r with
 |nil=>rfl
 |cons _ _ ih=>rw[List.length_cons,List.length_cons,ih]
theorem uu{α β:Type}{F:α→β→Prop}{l₁:List α}{uk:List β}(r:Paired F l₁ uk):∀{i:Nat} {p:α} {q:β},l₁[i]? =some p→uk[i]? =some q→F p q:=by
 induction r with
 |nil=>intro i p q h;simp at h
 | @cons a b as bs h t ih=>
  intro i p q h1 h2
  cases i with
  |zero=>
   simp at h1 h2;subst h1 h2;exact h
  |succ i=>exact ih (by simpa using h1) (by simpa using h2)
section
variable{X:Cx}{e:Expr}{te:TE}{elts:b8}{kt:Nat}{pt:Pos}
def R7(X:Cx)(t:TE):TE:=fun σ H Q=>t σ H fun v H' =>∃d o kvs,H' d=some (.fB o (.dT kvs))∧JP X d∧Q v (upd H' d (.dT kvs))
theorem FZ{t:TE}(he:PE X e t):PE X e (R7 X t):=by
 intro pins s σ H Q I h;refine bW (he pins s σ H _ I h) fun u s1 ⟨v,H1,I1,r1,d,o,kvs,ed,nf,q⟩=> ?_;exact⟨v,_,I1.Th ed nf,r1,q⟩
end
section
variable{prog:Program}{w:World}{A:Around}{R:Result→Shared→Prop}{I:Addr}{fp wr:aY}{G:Array GenState→Array GenState→Prop}{n:Nat}{P:Nat→Value→Prop}{St:Nat→Shared→Prop}{κ:Type}[DecidableEq κ]{knd:HeapKind prog w κ}
def Mc(xs ps:List (κ×Addr×Value)):List (κ×Addr×Value):=ps.foldl (fun m p=>storedH m p.1 p.2.1 p.2.2) xs
end
section
variable{prog:Program}{w:World}{A:Around}{E:Value→Shared→Prop}{s:Shared}{κ:Type}[DecidableEq κ]{knd:HeapKind prog w κ}
end
section
variable{X:Cx}
def Rf(kvs more:eA):eA:=more.foldl (fun acc kv=>wp acc kv.1 kv.2) kvs
theorem KT.merge{H:Hp}{more:eA}{rs:List (List wn×Addr×Value)}(r:KT H more rs):∀{kvs:eA} {xs:List (List wn×Addr×Value)},KT H kvs xs→KT H (Rf kvs more) (Mc xs rs):=by
 unfold KT at r
 induction r with
 |nil=>intro kvs xs q;exact q
 | @cons p q ps qs h t ih=>
  intro kvs xs z;obtain⟨h1,h2,h3⟩:=h;have:=KT.put z p.1 h2 h3;rw[show storedH xs p.1 q.2.1 q.2.2=storedH xs q.1 q.2.1 q.2.2 by rw[h1]] at this;exact ih this
end
structure TY(K:Frag)(C:Addr):Prop where
 ha:PySem.W.findIn K (.ref C) "__class__"=some (some (.builtin "object.__class__"))
 hn:PySem.W.specialIn K (.builtin "object.__class__") "__get__"=some (some (.builtin "getset_descriptor.__get__"))
 tk:PySem.W.takesIn K (.builtin "object.__class__")=some true
 hm:PySem.W.mroIn K C (.type "object")=some true
theorem TY.ty{K:Frag}{H:Hp}{a C dx:Addr}{fs:jz}(c:TY K C)(k:Dg K C)(e:H a=some (.ins C dx fs)):qw K H (.ref a) (.ref C):= .ins e k c.ha c.hn c.tk c.hm
section
variable{X:Cx}
def VW(i j:Int):Prop:=0<j∧j.natAbs.log2<9000
theorem Ad:mh X (binaryOp .FloorDiv) (rI VW fun i j=> .int (i / j)):=Yz fun i j _ _ _ _ _ hc q=>by
 have h1:(0:Int)<j:=hc.1;exact floordiv_int (by lia) (by rw[Int.fdiv_eq_ediv_of_nonneg i (by lia)];exact q) (.inl (PyProof.noPylong_of_log2 hc.2))
end
section
variable{X:Cx}{pos:Pos}
structure X8(X:Cx)(pos:Pos)(keys:List (Option Expr))(values:b8)(Av:List (TE×TE)):Prop where
 h:Tx X pos keys values Av
theorem L3:X8 X pos [] [] []:=⟨L5⟩
theorem hU{k v:Expr}{ks:List (Option Expr)}{vs:b8}{tk tv:TE}{Av:List (TE×TE)}(hk:SK X k tk)(hv:SK X v tv)(hr:X8 X pos ks vs Av):X8 X pos (some k::ks) (v::vs) ((tk,tv)::Av):=⟨JK hk.h hv.h hr.h⟩
theorem Gx{keys:List (Option Expr)}{values:b8}{Av:List (TE×TE)}(h:X8 X pos keys values Av)(xo:keys.all (·.isSome)=true)(hl:keys.length=values.length)(h0:keys≠[])(h15:keys.length≤15):SK X (.Dict keys values pos) (Pr Av):=⟨L7 h.h xo hl h0 h15⟩
theorem MK{e:Expr}{t:TE}(h:SK X e t):Wj X (.Return (some e) pos) (Tb t):=⟨aH h.h⟩
end
section
variable{prog:Program}{w:World}{A:Around}{E:Value→Shared→Prop}{s:Shared}
theorem BP(d:Addr)(hd:(d==sysModules)=false):MeetsIn prog w (Builtin.«dict.values» ⟨[.ref d],[]⟩) (fun _ R s=>s.TypeIs (.ref d) "dict" ∧R (.ok (.ret (.ref s.heap.objs.size))) {s with heap:=s.heap.push {cls:= .type "dict_values",data:= .fields #[.ref d]}}):= .of_wp fun A R s ⟨ht,h⟩=>by
 have hn:¬((d==sysModules)=true):=by rw[hd];decide
 refine wpAny_bind ?_;unfold Builtin.Dict.noArgs;refine wpAny_bind (wpAny_notOrdered_dict ht ?_)
 refine wpAny_pure ?_;show wpAny _ _ (Builtin.Dict.showsAll d>>= _) _ _ s
 unfold Builtin.Dict.showsAll;rw[if_neg hn]
 refine wpAny_bind (wpAny_pure (wpAny_bind (wpAny_newObj_type (wpAny_pure ⟨_,rfl,h⟩))))
theorem EV{v d:Addr}{o:Obj}{es:Array DictEntry}{ep:Nat}{Q:Value→Shared→Prop}(hv:s.heap.IsValuesView v d)(hm:QQ s.heap d o es ep)
 (hQ:Q (.ref s.heap.objs.size) {s with heap:=s.heap.push {cls:= .type "dict_valueiterator",data:= .fields #[.ref d,.int 0 0,.int es.size 0,.int ep 0]}}):
 wpAny (model prog w) A (pyIter (.ref v)) Q E s:=by
 obtain⟨ov,v1,v2,v3⟩:=id hv;have Hd:Builtin.Dict_items.ownsTuple "dict_valueiterator"=false:=by decide
 refine wpAny_pyIter_slot hv.typeIs F.slot_dict_values_iter (wpAny_call_entry F.slot_dict_values_iter hv.typeIs F.entry_dict_values_iter ?_ (F.args_dict_values_iter_1 _));unfold Builtin.«dict_values.__iter__»;refine wpAny_bind (wpAny_pure (wpAny_bind ?_))
 unfold Builtin.Dict_items.dictOf;refine wpAny_bind (wpAny_field v1 v3 (x:= .ref d) rfl (wpAny_pure (wpAny_bind ?_)))
 unfold Builtin.Dict_items.newIterator;refine wpAny_bind (wpAny_dictEntries hm.at_ hm.da (wpAny_bind (wpAny_dictEpoch hm.at_ hm.da ?_)))
 simp only[Hd,Bool.false_eq_true,if_false];refine wpAny_newObj_type (wpAny_pure ⟨_,rfl,"dict_valueiterator",_,⟨_,Heap.get?_push_size _ rfl,rfl⟩,F.slot_dict_valueiterator_next.lookup,by simpa[rawInt] using hQ⟩)
theorem D1{it d:Addr}{i ep:Nat}{o:Obj}{es:Array DictEntry}{en:DictEntry}{Q:aN→Shared→Prop}(hit:s.heap.IsValIter it d i es.size ep)(hm:QQ s.heap d o es ep)(hx:es[i]? =some en)
 (hQ:∀h',h'.IsValIter it d (i+1) es.size ep→Heap.SameBut it s.heap h'→Q (some en.val) {s with heap:=h'}):wpAny (model prog w) A (pyNext (.ref it)) Q E s:=by
 obtain⟨oi,h1,h2,h3⟩:=id hit;have Hd:Builtin.Dict_items.ownsTuple "dict_valueiterator"=false:=by decide
 have tL:¬((Value.ref d==Value.none)=true):=Bool.false_ne_true;have KP:¬((i:Int)<0):=by lia
 unfold pyNext;refine wpAny_bind (wpAny_attempt (wpAny_callSpecial?_slot (name:=Str.ofString "__next__") hit.typeIs F.slot_dict_valueiterator_next (wpAny_call_entry F.slot_dict_valueiterator_next hit.typeIs F.entry_dict_valueiterator_next ?_ (F.args_dict_valueiterator_next_1 _))))
 refine wpAny_bind (wpAny_pure (wpAny_bind (wpAny_bind ?_)))
 first|refine wpAny_bind (wpAny_typeNameOfWhole_valiter hit.typeIs (wpAny_pure (wpAny_bind (wpAny_fieldsOf h1 h3 ?_))))|refine wpAny_bind (wpAny_typeNameOf_valiter hit.typeIs (wpAny_pure (wpAny_bind (wpAny_fieldsOf h1 h3 ?_))))
 simp only[Hd,Bool.false_eq_true,if_false];show wpAny _ _ (if(Value.ref d==Value.none)=true then _ else _) _ _ s;rw[if_neg tL]
 refine wpAny_bind (wpAny_pure (wpAny_bind (wpAny_dictEntries hm.at_ hm.da ?_)));rw[if_neg (by simp)]
 refine wpAny_bind (wpAny_pure (wpAny_bind (wpAny_dictEpoch hm.at_ hm.da ?_)));rw[if_neg (by simp)]
 refine wpAny_pure ?_;simp only[KP,if_false,Int.toNat_natCast,hx]
 refine wpAny_bind ?_
 first|refine wpAny_bind (wpAny_typeNameOfWhole_valiter hit.typeIs (wpAny_pure (wpAny_bind (wpAny_isOneOf_valiter hit.typeIs ?_))))|refine wpAny_bind (wpAny_typeNameOf_valiter hit.typeIs (wpAny_pure (wpAny_bind (wpAny_isOneOf_valiter hit.typeIs ?_))))
 show wpAny _ _ (setField (.ref it) 1 (rawInt ((i:Int)+1))>>= _) _ _ s;refine wpAny_bind (wpAny_setField h1 h3 (by simp) ?_)
 have sL :(s.heap.update it (Obj.mapFields (·.setIfInBounds 1 (rawInt ((i:Int)+1))))).IsValIter it d (i+1) es.size ep:=⟨_,Heap.get?_update_self _ h1 (Obj.isFreed_of_fields (Obj.data_mapFields h3 _)),(Obj.cls_mapFields ..).trans h2,by rw[Obj.data_mapFields h3];simp[rawInt]⟩;have hT' :Shared.TypeIs {s with heap:=s.heap.update it (Obj.mapFields (·.setIfInBounds 1 (rawInt ((i:Int)+1))))} (.ref it) "dict_valueiterator":=sL.typeIs;refine wpAny_bind (wpAny_holding (wpAny_bind (wpAny_isOneOf_valiter hT' (wpAny_bind (wpAny_isOneOf_valiter hT' ?_)))));show wpAny _ _ (pure en.val) _ _ _;exact wpAny_pure (wpAny_pure ⟨_,rfl,wpAny_pure (hQ _ sL (Heap.SameBut.update ..))⟩)
theorem Ib{it d:Addr}{i ep:Nat}{o:Obj}{es:Array DictEntry}{Q:aN→Shared→Prop}(hh:A.handled=none)(hit:s.heap.IsValIter it d i es.size ep)(hm:QQ s.heap d o es ep)(hx:es.size≤i)
 (hQ:∀h',Heap.ExtBut it s.heap h'→Q none {s with heap:=h'}):wpAny (model prog w) A (pyNext (.ref it)) Q E s:=by
 obtain⟨oi,h1,h2,h3⟩:=id hit;have Hd:Builtin.Dict_items.ownsTuple "dict_valueiterator"=false:=by decide
 have tL:¬((Value.ref d==Value.none)=true):=Bool.false_ne_true;have KP:¬((i:Int)<0):=by lia
 unfold pyNext;refine wpAny_bind (wpAny_attempt (wpAny_callSpecial?_slot (name:=Str.ofString "__next__") hit.typeIs F.slot_dict_valueiterator_next (wpAny_call_entry F.slot_dict_valueiterator_next hit.typeIs F.entry_dict_valueiterator_next ?_ (F.args_dict_valueiterator_next_1 _))))
 refine wpAny_bind (wpAny_pure (wpAny_bind (wpAny_bind ?_)))
 first|refine wpAny_bind (wpAny_typeNameOfWhole_valiter hit.typeIs (wpAny_pure (wpAny_bind (wpAny_fieldsOf h1 h3 ?_))))|refine wpAny_bind (wpAny_typeNameOf_valiter hit.typeIs (wpAny_pure (wpAny_bind (wpAny_fieldsOf h1 h3 ?_))))
 simp only[Hd,Bool.false_eq_true,if_false];show wpAny _ _ (if(Value.ref d==Value.none)=true then _ else _) _ _ s;rw[if_neg tL]
 refine wpAny_bind (wpAny_pure (wpAny_bind (wpAny_dictEntries hm.at_ hm.da ?_)));rw[if_neg (by simp)]
 refine wpAny_bind (wpAny_pure (wpAny_bind (wpAny_dictEpoch hm.at_ hm.da ?_)));rw[if_neg (by simp)]
 refine wpAny_pure ?_;simp only[KP,if_false,Int.toNat_natCast,Array.getElem?_eq_none hx]
 refine wpAny_bind ?_
 first|refine wpAny_bind (wpAny_typeNameOfWhole_valiter hit.typeIs (wpAny_pure ?_))|refine wpAny_bind (wpAny_typeNameOf_valiter hit.typeIs (wpAny_pure ?_))
 show wpAny _ _ (setField (.ref it) 0 .none>>= _) _ _ s;refine wpAny_bind (wpAny_setField h1 h3 (by simp) ?_)
 show wpAny _ _ (newExc (.type "StopIteration") []>>= _) _ _ _;refine wpAny_bind ?_
 simp only[newExc,newTuple];refine wpAny_bind (wpAny_newObj_type ?_ (by size_fits))
 refine wpAny_bind (m:=firstArgMember _ _) (wpAny_of_eq (a:=Value.none) (by first|rfl|(simp only[firstArgMember];rfl)) (wpAny_newObj_type ?_ (by size_fits)));simp only[raiseNew];refine wpAny_bind (wpAny_handled ?_);rw[show A.in1.handled=none from hh]
 refine wpAny_bind (wpAny_pure (wpAny_throw ?_));refine wpAny_bind (wpAny_isInstance (T:="StopIteration") (b:=true) ⟨_,Heap.get?_push_size _ rfl,rfl⟩ isSubtype_stop ?_)
 exact wpAny_pure (hQ _ (((Heap.SameBut.update ..).extBut.push _).push _))
theorem wX{α β:Type}(f:α→β):∀(l:List α) (i:Nat),(l.map f).eraseIdx i=(l.eraseIdx i).map f
 |[],_=>rfl
 |_::_,0=>rfl
 |a::l,i+1=>by
  show f a::(l.map f).eraseIdx i=f a::(l.eraseIdx i).map f;rw[wX f l i]
theorem MU{κ:Type}[DecidableEq κ](knd:HeapKind prog w κ)(d a:Addr):MeetsIn prog w (Builtin.«dict.pop» ⟨[.ref d,.ref a],[]⟩) (fun A R s=>knd.room A.in1∧∃k xs j p,knd.is s.heap k a∧s.heap.DictOfH knd d xs∧xs.length≤sizeLine∧xs[j]? =some (k,p)∧
 ∀h' tk,h'.DictOfH knd d (xs.eraseIdx j)→Heap.SameBut d s.heap h'→R (.ok (.ret p.2)) {s with heap:=h',toks:=tk}):= .of_wp fun A R s ⟨hu,k,xs,j,p,vU,hm,hsz,hj,h⟩=>by
 have ht:=hm.typeIs;obtain⟨o,es,ep,ho,hc,hd,he,his,hn⟩:=hm;have Rh:=size_of_entries he;have FD:j<xs.length:=(List.getElem?_eq_some_iff.mp hj).1
 have hee:es.isEmpty=false:=by
  rw[Array.isEmpty,decide_eq_false_iff_not]
  lia
 have V2:(keyPart (.ref a)).isSome=false:=rfl;unfold Builtin.«dict.pop»;refine wpAny_bind ?_
 unfold Builtin.Dict.keyAndDefault;refine wpAny_bind (wpAny_notOrdered_dict ht ?_)
 show wpAny _ _ (pure (d,Value.ref a,none)) _ _ s;refine wpAny_pure ?_
 simp only[V2,Bool.false_eq_true,if_false];refine wpAny_bind (wpAny_dictEntries ho hd (wpAny_bind (wpAny_pure ?_)));simp only[hee,Bool.false_eq_true,if_false];refine wpAny_bind ?_;unfold Builtin.Dict.takeOut
 try with_reducible refine wpAny_holding ?_
 refine wpAny_bind (knd.pyHash hu vU (wpAny_bind (wpAny_dictFind_heap (s:={s with toks:=s.toks+knd.draws k}) hu vU ho hd he his hn (fun hno=>absurd hj (hno j p)) fun j' p' hj' => ?_)));have ej:=idxH_unique hn hj hj';subst ej;rw[hj] at hj';cases hj';refine wpAny_bind (wpAny_dictEntries (s:={s with toks:=s.toks+knd.draws k}) ho hd ?_);rw[entry_at he j,hj];refine wpAny_bind (wpAny_updateDictKeys (hz:=by lia) (s:={s with toks:=s.toks+knd.draws k}) ho hd (wpAny_pure ?_));simp only[Option.isNone_some,Bool.false_eq_true,if_false];refine wpAny_bind (wpAny_letGo (wpAny_pure ⟨_,rfl,h _ _ ⟨_,_,ep+1,Heap.get?_update_self _ ho (Obj.isFreed_of_dict (Obj.data_mapDictKeys hd _)),hc.mapDictKeys _,Obj.data_mapDictKeys hd _,?_,?_,?_⟩ (Heap.SameBut.update ..)⟩))
 ·obtain⟨l⟩:=es;have he:l=xs.map (entryOfKey knd):=he;subst he;simp;exact wX _ _ _
 ·exact fun x hx=>knd.keeps (his x (List.mem_of_mem_eraseIdx hx)) ho hd (Heap.SameBut.update ..)
 ·exact List.Nodup.sublist (List.Sublist.map _ (List.eraseIdx_sublist xs j)) hn
end
theorem xF{α β:Type}{F:α→β→Prop}{l₁:List α}{uk:List β}(r:Paired F l₁ uk):∀i,Paired F (l₁.eraseIdx i) (uk.eraseIdx i):=by
 induction r with
 |nil=>intro i;exact .nil
 |cons h t ih=>
  intro i
  cases i with
  |zero=>exact t
  |succ i=>exact .cons h (ih i)
section
variable{X:Cx}
theorem Lg(hu:X.A.units+100<cLine):SU X "dict.pop" (fun x vs H Q=>∃d kvs j k b v,x= .ref d∧vs=[.ref b]∧H d=some (.dT kvs)∧H b=some (.tup (k.map kV))∧kvs[j]? =some (k,v)∧Q v (upd H d (.dT (kvs.eraseIdx j)))):=by
 intro pins s σ H x vs v us Q I rx rv h;obtain⟨d,kvs,j,k,b,v',rfl,rfl,hH,hb,hj,q⟩:=h;cases rx;obtain⟨u,rfl,ru⟩:=rv.one;cases ru;obtain⟨hz,hs,xs,rel,dd⟩:=P5 I.bE hH;have hl:=lB rel;obtain⟨p,hp⟩:∃p,xs[j]? =some p:=⟨xs[j]'(by have:=(List.getElem?_eq_some_iff.mp hj).1;lia),by simp⟩;have hF:=uu rel hj hp;obtain⟨k',p1,p2⟩:=p;obtain⟨e1,e2,e3⟩:=hF;have e1:k=k' :=e1;subst e1;refine call_meetsIn slot_dict_pop dd.typeIs PySem.F.entry_dict_pop (PySem.F.args_dict_pop_2 _ _) (MU (tupleKind (bz X.prog X.w)) d b) ⟨tupleKind_room_in1 (by have e:X.A.in1.units=X.A.units+1:=rfl;lia),k,xs,j,(p1,p2),qN I.bE hb,dd,by lia,hp,fun h' tk Fy WX=> ?_⟩;obtain⟨o,es,ep,g1,g2,g3,g4,g5,g6⟩:=Fy;have hle:(kvs.eraseIdx j).length≤sizeLine:=Nat.le_trans (List.length_eraseIdx_le kvs j) hz;have new:bw X.prog X.w (upd H d (.dT (kvs.eraseIdx j))) h' d (.dT (kvs.eraseIdx j)):=⟨hle,hs,_,(show KT H _ _ from xF rel j).keeps fun c ys ec=>by rw[ah (aG ec hH (fun z=>nomatch z))];exact ec,o,es,ep,g1,g2,g3,g4,g6⟩;have I2:=pQ (t' :=tk) I (by rw[hH];exact True.intro) WX ⟨o,g1⟩ new;exact⟨v',_,I2,e3,q⟩
def Ea(v d:Addr):HO:= .ext fun h=>h.IsValuesView v d
def IE(x:V)(vs:ax)(H:Hp)(Q:VK):Prop:=∃d kvs,x= .ref d∧vs=[]∧H d=some (.dT kvs)∧∀v,H v=none→Q (.ref v) (upd H v (Ea v d))
theorem BB:PY X "dict.values" IE:=by
 intro pins s σ H x vs v us Q I rx rv h;obtain⟨d,kvs,rfl,rfl,hH,q⟩:=h;cases rx;have Ro:=rv.zero;subst Ro;obtain⟨hz,hs,xs,rel,o,es,ep,g1,g2,g3,g4,g5⟩:=(show bw X.prog X.w H s.heap d (.dT kvs) from I.bE d _ hH);have ht:s.TypeIs (.ref d) "dict":=⟨o,g1,g2.1⟩;refine call_meetsIn slot_dict_values ht PySem.F.entry_dict_values (PySem.F.args_dict_values_1 _) (BP d hs) ⟨ht,?_⟩;refine⟨.ref s.heap.objs.size,_,I.laid (a:=s.heap.objs.size) (o:=Ea s.heap.objs.size d) (t' :=s.toks) (fun _ _ q=>Heap.get?_push_of_some _ q) (Nat.le_refl _) ?_,rfl,q _ (I.bE.fresh (Nat.le_refl _))⟩;refine⟨⟨_,Heap.get?_push_size _ rfl,rfl,rfl⟩,⟨_,Heap.get?_push_size _ rfl⟩,fun h1 h2 ⟨o,e,r⟩ k=>⟨o,k _ e,r⟩⟩
end
def Sa(d:Addr)(o:Obj)(kvs:eA):It:=
 ⟨fun i H=>i<kvs.length∧H d=some (.fB o (.dT kvs)),fun i H x H' =>H' =H∧∃k,kvs[i]? =some (k,x),fun i H=>kvs.length≤i∧H d=some (.fB o (.dT kvs))⟩
theorem xc{P:Program}{w:World}{K:Frag}{tg:Expr}(d it:Addr)(o:Obj)(kvs:eA)(ep:Nat)(es:Array DictEntry)(hd:o.data= .dict es ep):
 Turn P w K tg (Sa d o kvs) [it] it (fun i h=>h.IsValIter it d i kvs.length ep) where
 mem:=by simp
 obj:=fun i h st b hb=>by
  have e:b=it:=by simpa using hb
  subst e;obtain⟨ob,e,c,dd⟩:=st;exact⟨ob,e,fun v z=>by rw[dd] at z;cases z⟩
 keep:=fun i h h' st k=>by
  obtain⟨ob,e,c⟩:=st;exact⟨ob,k it (by simp) ob e,c⟩
 item:=by
  intro X hP hw hK hc i pins s σ H E I hf st hg;subst hP hw hK;obtain⟨hi,hq⟩:=hg;obtain⟨ho,z,hs,xs,rel,o',Lh,Mp,g1,g2,g3,g4,g5⟩:=(show bw X.prog X.w H s.heap d (.fB o (.dT kvs)) from I.bE d _ hq);rw[ho] at g1;cases g1;rw[hd] at g3;cases g3;have hl:=lB rel;have Rh:es.size=xs.length:=size_of_entries g4;obtain⟨⟨k,b,x⟩,hx⟩:∃p,xs[i]? =some p:=⟨xs[i],by simp[show i<xs.length by lia]⟩;obtain⟨f0,f1,f2,f3,f4,f5⟩:=hf it (by simp);have hp:kvs[i]? =some kvs[i]:=by simp[hi]
  have hF:=uu rel hp hx
  have hen:es[i]? =some ⟨(tupleKind (bz X.prog X.w)).hash k,.ref b,x⟩:=by
   rw[entry_at g4 i,hx];rfl
  generalize kvs[i]=p at hp hF;obtain⟨pk,pv⟩:=p;obtain⟨L8,hb,A3⟩:=hF;rw[hl,←Rh] at st;refine D1 st ⟨ho,g2,hd⟩ hen fun h' sL Iv => ?_;have I1:Inv X pins σ H {s with heap:=h'}:=I.turned (t' :=s.toks) (fun b ob hb e=>(Iv.2 b hb).trans e) f0 f1 f3 f4 f5;rw[Rh,←hl] at sL;obtain⟨ob,e,c,dd⟩:=id sL;exact⟨x,rfl,yX (s:={s with heap:=h'}) e c dd (by decide) ⟨pv,H,I1,A3,⟨rfl,pk,hp⟩,sL,fun b hb=>(hf b hb).1⟩⟩
 done:=by
  intro X hP hw hK hc i pins s σ H E I hf st hg;subst hP hw hK;obtain⟨hi,hq⟩:=hg;obtain⟨ho,z,hs,xs,rel,o',Lh,Mp,g1,g2,g3,g4,g5⟩:=(show bw X.prog X.w H s.heap d (.fB o (.dT kvs)) from I.bE d _ hq);rw[ho] at g1;cases g1;rw[hd] at g3;cases g3;have hl:=lB rel;have Rh:es.size=xs.length:=size_of_entries g4;obtain⟨f0,f1,f2,f3,f4,f5⟩:=hf it (by simp);rw[hl,←Rh] at st;exact Ib (I.ok.hd hc) st ⟨ho,g2,hd⟩ (by lia) fun h' eb=>⟨rfl,I.turned (t' :=s.toks) (fun b ob hb e=>eb b ob hb e) f0 f1 f3 f4 f5⟩
 self:=fun _ _ _ _ _ st h=>wpAny_pyIter_valiter st h
section
variable{X:Cx}{tg e:Expr}{te:TE}
def Ip(X:Cx)(te:TE):TI:=fun σ H R=>te σ H fun x H1=>∃v d kvs,x= .ref v∧H1 v=some (Ea v d)∧H1 d=some (.dT kvs)∧∀o,JP X d→R (Sa d o kvs) (upd H1 d (.fB o (.dT kvs)))
theorem BM(he:PE X e te):PI X tg e (Ip X te):=by
 intro pins s σ H R I h;refine bW (he pins s σ H _ I h) fun v s1 ⟨x,H1,I1,r1,v',a,kvs,ex,hv,hq,q⟩=> ?_;subst ex;cases r1;obtain⟨hz,hs,xs,rel,o,es,ep,g1,g2,g3,g4,g5⟩:=(show bw X.prog X.w H1 s1.heap a (.dT kvs) from I1.bE a _ hq);obtain⟨Au,_⟩:=(show bw X.prog X.w H1 s1.heap v' (Ea v' a) from I1.bE v' _ hv);have hl:=lB rel;have Rh:es.size=xs.length:=size_of_entries g4;refine EV Au ⟨g1,g2,g3⟩ ?_;have I2:=I1.LY hq g1;have hn:H1 s1.heap.objs.size=none:=I1.bE.fresh (Nat.le_refl _);have hf:rN X pins (upd H1 a (.fB o (.dT kvs))) s1.heap.objs.size:=I1.uP (Nat.le_refl _) (by rw[ah (fun z=>by rw[z,hq] at hn;cases hn)];exact hn);refine⟨s1.heap.objs.size,[s1.heap.objs.size],_,_,_,rfl,I2.kept (t' :=s1.toks) fun b ob e=>Heap.get?_push_of_some _ e,xc a _ o kvs ep es g3,⟨_,Heap.get?_push_size _ rfl,rfl,by rw[hl,←Rh];rfl⟩,fun b hb=> ?_,q o (I1.V5 hq)⟩;have e:b=s1.heap.objs.size:=by simpa using hb
 subst e;exact hf
end
theorem vJ{d:Addr}{o:Obj}{kvs:eA}{H:Hp}(h:H d=some (.fB o (.dT kvs))):nD (Sa d o kvs) H kvs.length (fun i x _=>∃k,kvs[i]? =some (k,x)) where
 go:=fun i H' s hi=>⟨hi,s _ _ h⟩
 tJ:=fun i H' x gi s hi q=>⟨q.1▸aw.refl H',q.2⟩
 stop:=fun i H' s hi=>⟨hi,s _ _ h⟩
section
variable{X:Cx}{pins:aP}{σ:List (Option V)}{H H' :Hp}{s:Shared}{h' :Heap}
theorem Inv.more{t' :Nat}(I:Inv X pins σ H s)(k:∀b u,s.heap.get? b=some u→h'.get? b=some u)(sm:∀a o,H a=some o→H' a=some o)(new:∀a o,H' a=some o→H a=some o∨(s.heap.objs.size≤a∧bw X.prog X.w H' h' a o)):Inv X pins σ H' {s with heap:=h',toks:=t'}:=
 I.un ⟨fun b u q _ _ _=>k b u q,fun b u q _ _ _=>⟨u.slots,k b u q⟩,fun b u q n _=>by
  cases e:H' b with
  |none=>rfl
  |some o=>
   rcases new b o e with h|⟨h,_⟩
   ·rw[n] at h;cases h
   ·exact absurd (Heap.lt_size q) (Nat.not_lt.mpr h),fun b u q _=>⟨u,k b u q⟩,fun b xs q=>sm _ _ q,fun b u xs q=>sm _ _ q,fun b ps q=>⟨#[],by rw[sm _ _ q];simp⟩⟩ fun a o e=>by
  rcases new a o e with h|⟨_,h⟩
  ·exact(I.bE a o h).rZ (fun c v _ q=>k c v q) (fun c q=>sm _ _ q) (fun c xs q=>sm _ _ q)
  ·exact h
def RZ(kvs:bG)(j:Nat):ax:=match kvs[j]? with
 |some p=>[kV p.1,p.2]
 |none=>[]
theorem Rb{as:aY}(h:as.Pairwise (· < ·)){j:Nat}{a:Addr}(e:as[j]? =some a):as.idxOf a=j:=by
 have hj:=(List.getElem?_eq_some_iff.mp e).1;have ha:=(List.getElem?_eq_some_iff.mp e).2;have hm:as.idxOf a<as.length:=List.idxOf_lt_length_of_mem (List.mem_of_getElem? e);have hg:as[as.idxOf a]=a:=List.getElem_idxOf hm;rcases Nat.lt_trichotomy (as.idxOf a) j with z|z|z
 ·have:=List.pairwise_iff_getElem.mp h _ _ hm hj z;rw[hg,ha] at this;exact absurd this (Nat.lt_irrefl _)
 ·exact z
 ·have:=List.pairwise_iff_getElem.mp h _ _ hj hm z;rw[hg,ha] at this;exact absurd this (Nat.lt_irrefl _)
end
section
variable{X:Cx}
theorem iH(hc:X.calm=true):eZ X (.type "list") (fun xs H Q=>∃v d kvs,xs=[.ref v]∧H v=some (j3 v d)∧H d=some (.dK kvs)∧∀l ys H',H l=none→(∀a o,H a=some o→H' a=some o)→H' l=some (.lst ys)→nH H' ys kvs→Q (.ref l) H'):=by
 intro pins s σ H xs us Q I r h;obtain⟨v,d,kvs,rfl,hv,hq,q⟩:=h;obtain⟨u,rfl,rx⟩:=wT r;cases rx;obtain⟨z,hs,vs,rel,o,es,ep,g1,g2,g3,g4,g5,g6⟩:=sH I.bE hq;obtain⟨Au,_⟩:=(show bw X.prog X.w H s.heap v (j3 v d) from I.bE v _ hv);have hl:=rel.length;refine PySem.W.kdx_call (knd:=bz X.prog X.w) (kvs:=vs) (ep:=ep) (I.ok.hd hc) Au ⟨o,es,g1,g2,g3,g4,g5,g6⟩ (by lia) fun h' tk acc c as hk hS KY hG t9=> ?_;have AW:H s.heap.objs.size=none:=I.bE.fresh (Nat.le_refl _);have hna:∀a∈as,H a=none:=fun a ha=>I.bE.fresh (Nat.le_of_lt (hG.above a ha))
 let H' :Hp:=fun a=>if a=s.heap.objs.size then some (.lst (as.map V.ref)) else if a∈as then some (.tup (RZ kvs (as.idxOf a))) else H a
 have sm:∀a o,H a=some o→H' a=some o:=fun a o e=>by
  show(if a=s.heap.objs.size then some (.lst (as.map V.ref)) else if a∈as then some (.tup (RZ kvs (as.idxOf a))) else H a)=some o;rw[if_neg (ak e AW),if_neg fun z=>by rw[hna a z] at e;cases e];exact e
 have QE :H' s.heap.objs.size=some (.lst (as.map V.ref)):=if_pos rfl
 have hi:∀(j:Nat) a,as[j]? =some a→H' a=some (.tup (RZ kvs j)):=fun j a e=>by
  have hm:=List.mem_of_getElem? e;show(if a=s.heap.objs.size then some (.lst (as.map V.ref)) else if a∈as then some (.tup (RZ kvs (as.idxOf a))) else H a)=_;rw[if_neg (Nat.ne_of_gt (hG.above a hm)),if_pos hm,Rb hG.rise e]
 have I2:Inv X pins σ H' {s with heap:=h',toks:=tk}:=by
  refine I.more hk sm fun a ob e=> ?_;by_cases z1:a=s.heap.objs.size
  ·subst z1;rw[QE] at e;cases e;refine .inr ⟨Nat.le_refl _,by rw[List.length_map];lia,acc.toList,c,?_,hS⟩;rw[t9];clear t9 hS hG KY hi QE sm hna
   induction as with
   |nil=>exact .nil
   |cons a r ih=>exact .cons rfl ih
  ·by_cases z2:a∈as
   ·obtain⟨j,hj⟩:=List.mem_iff_getElem?.mp z2;rw[hi j a hj] at e;cases e;obtain⟨key,k,x,e1,e2,e3⟩:=hG.pairs j a hj
    have FD:j<kvs.length:=by
     have:=(List.getElem?_eq_some_iff.mp hj).1
     lia
    have hp:kvs[j]? =some kvs[j]:=by simp[FD]
    have hk1:=Bx rel hp e1;have hk2:=Ie rel hp e1;refine .inr ⟨Nat.le_of_lt (hG.above a z2),?_⟩;unfold RZ;rw[hp];exact⟨(show 2≤sizeLine by decide),[key,x],.cons (by rw[hk1];exact J8 e2) (.cons hk2 .nil),⟨_,e3,rfl,_,rfl⟩⟩
   ·left
    have:H' a=H a:=by
     show(if a=s.heap.objs.size then some (.lst (as.map V.ref)) else if a∈as then some (.tup (RZ kvs (as.idxOf a))) else H a)=H a;rw[if_neg z1,if_neg z2]
    rw[←this];exact e
 refine⟨.ref s.heap.objs.size,H',I2,rfl,q _ _ H' AW sm QE ⟨by rw[List.length_map];lia,fun j k x e=> ?_⟩⟩
 have FD:j<as.length:=by
  have:=(List.getElem?_eq_some_iff.mp e).1
  lia
 have ha:as[j]? =some as[j]:=by simp[FD]
 refine⟨as[j],by rw[List.getElem?_map,ha];rfl,?_⟩;rw[hi j _ ha];unfold RZ;rw[e]
end
end L2
namespace My
open PySem L2 PyProof.Rows
theorem qo:aF ["thing"] ["thing"] (av ij):=⟨rfl,rfl,rfl,by decide+kernel,rfl,by decide+kernel,by decide+kernel⟩
theorem zz:aF ["thing","low","high"] ["thing","low","high"] (av jd):=⟨rfl,rfl,rfl,by decide+kernel,rfl,by decide+kernel,by decide+kernel⟩
theorem Bk:aF ["thing"] ["thing"] (av kg):=⟨rfl,rfl,rfl,by decide+kernel,rfl,by decide+kernel,by decide+kernel⟩
theorem zl:aF ["thing"] ["thing"] (av je):=⟨rfl,rfl,rfl,by decide+kernel,rfl,by decide+kernel,by decide+kernel⟩
theorem Bj:aF ["thing"] ["thing"] (av jZ):=⟨rfl,rfl,rfl,by decide+kernel,rfl,by decide+kernel,by decide+kernel⟩
theorem jq:aF ["house","frame","hands","part","links","number","way"] ["house","frame","hands"] (av ke):=⟨rfl,rfl,rfl,by decide+kernel,rfl,by decide+kernel,by decide+kernel⟩
theorem vP:aF ["house","frame","hands"] ["house","frame","hands"] (av fQ):=⟨rfl,rfl,rfl,by decide+kernel,rfl,by decide+kernel,by decide+kernel⟩
theorem yb:aF ["house","thing"] ["house","thing"] (av ia):=⟨rfl,rfl,rfl,by decide+kernel,rfl,by decide+kernel,by decide+kernel⟩
theorem z0:aF ["value","part"] ["value","part"] (av jg):=⟨rfl,rfl,rfl,by decide+kernel,rfl,by decide+kernel,by decide+kernel⟩
theorem Am:aF ["house","holder","part"] ["house","holder","part"] (av i3):=⟨rfl,rfl,rfl,by decide+kernel,rfl,by decide+kernel,by decide+kernel⟩
theorem pz:aF ["self"] ["self"] (av cL):=⟨rfl,rfl,rfl,by decide+kernel,rfl,by decide+kernel,by decide+kernel⟩
theorem tj:aF ["self","frame"] ["self","frame"] (av d_):=⟨rfl,rfl,rfl,by decide+kernel,rfl,by decide+kernel,by decide+kernel⟩
theorem gR:aF ["self","frame","ended","number"] ["self","frame"] (av dF):=⟨rfl,rfl,rfl,by decide+kernel,rfl,by decide+kernel,by decide+kernel⟩
theorem ue:aF ["self","frame"] ["self","frame"] (av eU):=⟨rfl,rfl,rfl,by decide+kernel,rfl,by decide+kernel,by decide+kernel⟩
theorem qS:aF ["self","frame"] ["self","frame"] (av dQ):=⟨rfl,rfl,rfl,by decide+kernel,rfl,by decide+kernel,by decide+kernel⟩
theorem gZ:aF ["self","frame","outward","step"] ["self","frame"] (av gq):=⟨rfl,rfl,rfl,by decide+kernel,rfl,by decide+kernel,by decide+kernel⟩
theorem ph:aF ["self","frame"] ["self","frame"] (av cK):=⟨rfl,rfl,rfl,by decide+kernel,rfl,by decide+kernel,by decide+kernel⟩
theorem r9:aF ["self","thing"] ["self","thing"] (av dO):=⟨rfl,rfl,rfl,by decide+kernel,rfl,by decide+kernel,by decide+kernel⟩
theorem o6:aF ["self"] ["self"] (av cN):=⟨rfl,rfl,rfl,by decide+kernel,rfl,by decide+kernel,by decide+kernel⟩
theorem sU:aF ["self"] ["self"] (av eD):=⟨rfl,rfl,rfl,by decide+kernel,rfl,by decide+kernel,by decide+kernel⟩
theorem nL:aF ["self","thing"] ["self","thing"] (av cy):=⟨rfl,rfl,rfl,by decide+kernel,rfl,by decide+kernel,by decide+kernel⟩
theorem mR:aF ["self","thing"] ["self","thing"] (av ck):=⟨rfl,rfl,rfl,by decide+kernel,rfl,by decide+kernel,by decide+kernel⟩
theorem kh:aF ["self","thing"] ["self","thing"] (av bU):=⟨rfl,rfl,rfl,by decide+kernel,rfl,by decide+kernel,by decide+kernel⟩
theorem jI:aF ["self","thing"] ["self","thing"] (av bP):=⟨rfl,rfl,rfl,by decide+kernel,rfl,by decide+kernel,by decide+kernel⟩
theorem jM:aF ["self","thing"] ["self","thing"] (av bQ):=⟨rfl,rfl,rfl,by decide+kernel,rfl,by decide+kernel,by decide+kernel⟩
theorem p5:aF ["self","limit"] ["self","limit"] (av dj):=⟨rfl,rfl,rfl,by decide+kernel,rfl,by decide+kernel,by decide+kernel⟩
theorem gY:aF ["self","frame","size","spare","place","floor"] ["self","frame","size"] (av fP):=⟨rfl,rfl,rfl,by decide+kernel,rfl,by decide+kernel,by decide+kernel⟩
theorem qu:aF ["self","way","k","value","room"] ["self","way","k","value"] (av hV):=⟨rfl,rfl,rfl,by decide+kernel,rfl,by decide+kernel,by decide+kernel⟩
theorem uA:aF ["self","way"] ["self","way"] (av eX):=⟨rfl,rfl,rfl,by decide+kernel,rfl,by decide+kernel,by decide+kernel⟩
theorem vO:aF ["self"] ["self"] (av fM):=⟨rfl,rfl,rfl,by decide+kernel,rfl,by decide+kernel,by decide+kernel⟩
theorem vo:aF ["self"] ["self"] (av fT):=⟨rfl,rfl,rfl,by decide+kernel,rfl,by decide+kernel,by decide+kernel⟩
theorem p6:aF ["self"] ["self"] (av df):=⟨rfl,rfl,rfl,by decide+kernel,rfl,by decide+kernel,by decide+kernel⟩
theorem uK:aF ["self","frame"] ["self","frame"] (av ff):=⟨rfl,rfl,rfl,by decide+kernel,rfl,by decide+kernel,by decide+kernel⟩
theorem rh:aF ["self"] ["self"] (av dJ):=⟨rfl,rfl,rfl,by decide+kernel,rfl,by decide+kernel,by decide+kernel⟩
theorem nO:aF ["self","frame"] ["self","frame"] (av cD):=⟨rfl,rfl,rfl,by decide+kernel,rfl,by decide+kernel,by decide+kernel⟩
theorem tu:aF ["self","thing"] ["self","thing"] (av eJ):=⟨rfl,rfl,rfl,by decide+kernel,rfl,by decide+kernel,by decide+kernel⟩
theorem pH:aF ["self","thing"] ["self","thing"] (av cY):=⟨rfl,rfl,rfl,by decide+kernel,rfl,by decide+kernel,by decide+kernel⟩
theorem ja:aF ["self","thing","taker"] ["self","thing"] (av cS):=⟨rfl,rfl,rfl,by decide+kernel,rfl,by decide+kernel,by decide+kernel⟩
theorem yz:aF ["room","thing"] ["room","thing"] (av ig):=⟨rfl,rfl,rfl,by decide+kernel,rfl,by decide+kernel,by decide+kernel⟩
theorem yf:aF ["_law_script","_law_k"] ["_law_script","_law_k"] (av g_):=⟨rfl,rfl,rfl,by decide+kernel,rfl,by decide+kernel,by decide+kernel⟩
theorem y3:aF ["_law_cell_here"] ["_law_cell_here"] (av jm):=⟨rfl,rfl,rfl,by decide+kernel,rfl,by decide+kernel,by decide+kernel⟩
theorem iO:aF ["_law_box_here","_law_many","_law_digit","_law_number"] ["_law_box_here","_law_many"] (av h9):=⟨rfl,rfl,rfl,by decide+kernel,rfl,by decide+kernel,by decide+kernel⟩
theorem bZ:aF ["_law_box_here","_law_many","_law_letters","_law_way","_law_first","_law_step","_law_words","_law_stem","_law_at","_law_whole"] ["_law_box_here","_law_many"] (av fU):=⟨rfl,rfl,rfl,by decide+kernel,rfl,by decide+kernel,by decide+kernel⟩
theorem vL:aF ["_law_limit"] ["_law_limit"] (av fZ):=⟨rfl,rfl,rfl,by decide+kernel,rfl,by decide+kernel,by decide+kernel⟩
theorem sE:aF ["_law_world_here","_law_frame","_law_found"] ["_law_world_here","_law_frame"] (av i9):=⟨rfl,rfl,rfl,by decide+kernel,rfl,by decide+kernel,by decide+kernel⟩
theorem rA:aF ["_law_world_here"] ["_law_world_here"] (av dM):=⟨rfl,rfl,rfl,by decide+kernel,rfl,by decide+kernel,by decide+kernel⟩
theorem xR:aF ["_law_world_here"] ["_law_world_here"] (av g7):=⟨rfl,rfl,rfl,by decide+kernel,rfl,by decide+kernel,by decide+kernel⟩
theorem vx:aF ["_law_world_here","_law_frame"] ["_law_world_here","_law_frame"] (av fX):=⟨rfl,rfl,rfl,by decide+kernel,rfl,by decide+kernel,by decide+kernel⟩
theorem nW:aF ["_law_world_here","_law_frame","_law_size","_law_way"] ["_law_world_here","_law_frame","_law_size"] (av fN):=⟨rfl,rfl,rfl,by decide+kernel,rfl,by decide+kernel,by decide+kernel⟩
theorem gX:aF ["_law_world_here","_law_frame","_law_found","_law_one","_law_way"] ["_law_world_here","_law_frame"] (av fL):=⟨rfl,rfl,rfl,by decide+kernel,rfl,by decide+kernel,by decide+kernel⟩
theorem fj:aF ["_law_world_here","_law_rows","_law_frame","_law_rooms"] ["_law_world_here"] (av eE):=⟨rfl,rfl,rfl,by decide+kernel,rfl,by decide+kernel,by decide+kernel⟩
theorem gg:aF ["_law_world_here","_law_found","_law_frame"] ["_law_world_here"] (av di):=⟨rfl,rfl,rfl,by decide+kernel,rfl,by decide+kernel,by decide+kernel⟩
theorem jR:aF ["_law_box_here","_law_world_here","_law_kind","_law_some"] ["_law_box_here","_law_world_here"] (av gh):=⟨rfl,rfl,rfl,by decide+kernel,rfl,by decide+kernel,by decide+kernel⟩
theorem cm:aF ["_law_box_here","_law_house","_law_world_here","_law_kind","_law_standing_here","_law_frame","_law_some","_law_size","_law_way","_law_k","_law_value_here"] ["_law_box_here","_law_house","_law_world_here"] (av h_):=⟨rfl,rfl,rfl,by decide+kernel,rfl,by decide+kernel,by decide+kernel⟩
theorem jJ:aF ["_law_box_here","_law_world_here","_law_names_here"] ["_law_box_here","_law_world_here"] (av gw):=⟨rfl,rfl,rfl,by decide+kernel,rfl,by decide+kernel,by decide+kernel⟩
theorem vT:aF ["_law_world_here","_law_frame"] ["_law_world_here","_law_frame"] (av fR):=⟨rfl,rfl,rfl,by decide+kernel,rfl,by decide+kernel,by decide+kernel⟩
theorem fg:aF ["_law_world_here","_law_frame","_law_hands_here","_law_inner_here","_law_found","_law_holder","_law_cells"] ["_law_world_here","_law_frame","_law_hands_here"] (av gp):=⟨rfl,rfl,rfl,by decide+kernel,rfl,by decide+kernel,by decide+kernel⟩
theorem e_:aF ["_law_box_here","_law_limit","_law_house","_law_world_here","_law_turn"] ["_law_box_here"] (av gy):=⟨rfl,rfl,rfl,by decide+kernel,rfl,by decide+kernel,by decide+kernel⟩
theorem cU:aF ["_law_house","_law_world_here","_law_hands_here","_law_other","_law_frame","_law_some","_law_due","_law_handed","_law_found"] ["_law_house","_law_world_here","_law_hands_here"] (av gx):=⟨rfl,rfl,rfl,by decide+kernel,rfl,by decide+kernel,by decide+kernel⟩
theorem rg:aF ["_law_script","_law_beside","_law_k","_law_box_here","_law_scene_here"] ["_law_script"] (av zJ):=⟨rfl,rfl,rfl,by decide+kernel,rfl,by decide+kernel,by decide+kernel⟩
set_option genInjectivity false in
set_option genSizeOf false in
structure qH where
 ip:Addr
 ib:FuncData
 px:Addr
 oC:FuncData
 qL:Addr
 rD:FuncData
 oN:Addr
 oJ:FuncData
 qJ:Addr
 q0:FuncData
 qT:Addr
 rH:FuncData
 kD:Addr
 kI:FuncData
 mE:Addr
 nA:FuncData
 pj:Addr
 oy:FuncData
 oE:Addr
 oW:FuncData
 d6:Addr
 gA:FuncData
 jk:Addr
 i8:FuncData
 iI:Addr
 iC:FuncData
 jH:Addr
 jS:FuncData
 ix:Addr
 iD:FuncData
 kO:Addr
 lH:FuncData
 gz:Addr
 fO:FuncData
 iK:Addr
 iw:FuncData
 fW:Addr
 f_:FuncData
 jb:Addr
 iX:FuncData
 fF:Addr
 fA:FuncData
 eQ:Addr
 eR:FuncData
 dz:Addr
 dB:FuncData
 dm:Addr
 dg:FuncData
 dh:Addr
 cZ:FuncData
 gN:Addr
 gQ:FuncData
 kK:Addr
 lI:FuncData
 ny:Addr
 mD:FuncData
 jY:Addr
 jO:FuncData
 kE:Addr
 lT:FuncData
 k_:Addr
 ku:FuncData
 gG:Addr
 gM:FuncData
 jL:Addr
 jW:FuncData
 iE:Addr
 iy:FuncData
 fE:Addr
 fC:FuncData
 jo:Addr
 jr:FuncData
 gK:Addr
 gP:FuncData
 gc:Addr
 gs:FuncData
 m9:Addr
 mx:FuncData
 ni:Addr
 nq:FuncData
 oM:Addr
 pA:FuncData
 mS:Addr
 nj:FuncData
 lK:Addr
 kX:FuncData
 lE:Addr
 lj:FuncData
 oR:Addr
 o7:FuncData
 iF:Addr
 iz:FuncData
 nh:Addr
 mT:FuncData
 lD:Addr
 lA:FuncData
 lL:Addr
 kU:FuncData
 lO:Addr
 lQ:FuncData
 iZ:Addr
 jl:FuncData
 gS:Addr
 gE:FuncData
 lV:Addr
 kz:FuncData
 mY:Addr
 mL:FuncData
 lJ:Addr
 lS:FuncData
 lR:Addr
 kZ:FuncData
 kq:Addr
 lY:FuncData
 kr:Addr
 lN:FuncData
 lX:Addr
 kJ:FuncData
 FV:Addr
 zr:FuncData
 j7:Addr
 aj:Addr
structure Txt(K:Frag)(mg:Str→aN)(A:qH):Prop where
 mW:mg "is_number"=some (.ref A.ip)
 ik:eP K "is_number" "is_number" ij A.ip A.ib
 nr:Binds K A.ib ["thing"] []
 lq:mg "is_whole"=some (.ref A.px)
 iW:eP K "is_whole" "is_whole" jd A.px A.oC
 ky:Binds K A.oC ["thing","low","high"] []
 Fd:mg "is_name"=some (.ref A.qL)
 wW:eP K "is_name" "is_name" kg A.qL A.rD
 Ey:Binds K A.rD ["thing"] []
 u_:mg "is_count"=some (.ref A.oN)
 oZ:eP K "is_count" "is_count" je A.oN A.oJ
 u7:Binds K A.oJ ["thing"] []
 Fh:mg "is_pair"=some (.ref A.qJ)
 wV:eP K "is_pair" "is_pair" jZ A.qJ A.q0
 Fn:Binds K A.q0 ["thing"] []
 Ex:mg "ways_in"=some (.ref A.qT)
 wJ:eP K "ways_in" "ways_in" ke A.qT A.rH
 E3:Binds K A.rH ["house","frame","hands"] []
 xG:mg "want_hands"=some (.ref A.kD)
 pT:eP K "want_hands" "want_hands" fQ A.kD A.kI
 yH:Binds K A.kI ["house","frame","hands"] []
 zL:mg "are_hands"=some (.ref A.mE)
 sx:eP K "are_hands" "are_hands" ia A.mE A.nA
 Ay:Binds K A.nA ["house","thing"] []
 u5:mg "leads_in"=some (.ref A.pj)
 pD:eP K "leads_in" "leads_in" jg A.pj A.oy
 uC:Binds K A.oy ["value","part"] []
 BD:mg "links_of"=some (.ref A.oE)
 t8:eP K "links_of" "links_of" i3 A.oE A.oW
 B8:Binds K A.oW ["house","holder","part"] []
 qr:eP K "__init__" "Frames.__init__" cL A.d6 A.gA
 qb:Binds K A.gA ["self"] []
 uv:eP K "begin" "Frames.begin" d_ A.jk A.i8
 ud:Binds K A.i8 ["self","frame"] []
 vh:Meth K A.aj "begin" A.jk
 sM:eP K "finish" "Frames.finish" dF A.iI A.iC
 sV:Binds K A.iC ["self","frame"] []
 tp:Meth K A.aj "finish" A.iI
 vw:eP K "part" "Frames.part" eU A.jH A.jS
 nR:Binds K A.jS ["self","frame"] []
 nS:Meth K A.aj "part" A.jH
 tI:eP K "inside" "Frames.inside" dQ A.ix A.iD
 tF:Binds K A.iD ["self","frame"] []
 tf:Meth K A.aj "inside" A.ix
 yu:eP K "row" "Frames.row" gq A.kO A.lH
 xA:Binds K A.lH ["self","frame"] []
 xh:Meth K A.aj "row" A.kO
 pY:eP K "ended_by" "Frames.ended_by" cK A.gz A.fO
 pG:Binds K A.fO ["self","frame"] []
 pP:Meth K A.aj "ended_by" A.gz
 tH:eP K "stands" "Frames.stands" dO A.iK A.iw
 sZ:Binds K A.iw ["self","thing"] []
 tm:Meth K A.aj "stands" A.iK
 pV:eP K "standing" "Frames.standing" cN A.fW A.f_
 dZ:Binds K A.f_ ["self"] []
 d7:Meth K A.aj "standing" A.fW
 tV:eP K "begun" "Frames.begun" eD A.jb A.iX
 ji:Binds K A.iX ["self"] []
 jc:Meth K A.aj "begun" A.jb
 oP:eP K "was_begun" "Frames.was_begun" cy A.fF A.fA
 iV:Binds K A.fA ["self","thing"] []
 jh:Meth K A.aj "was_begun" A.fF
 nM:eP K "want_begun" "Frames.want_begun" ck A.eQ A.eR
 cX:Binds K A.eR ["self","thing"] []
 cW:Meth K A.aj "want_begun" A.eQ
 kT:eP K "want_standing" "Frames.want_standing" bU A.dz A.dB
 cu:Binds K A.dB ["self","thing"] []
 cq:Meth K A.aj "want_standing" A.dz
 ko:eP K "want_beginning" "Frames.want_beginning" bP A.dm A.dg
 kj:Binds K A.dg ["self","thing"] []
 j6:Meth K A.aj "want_beginning" A.dm
 km:eP K "want_finishing" "Frames.want_finishing" bQ A.dh A.cZ
 fH:Binds K A.cZ ["self","thing"] []
 fJ:Meth K A.aj "want_finishing" A.dh
 qY:eP K "__init__" "House.__init__" dj A.gN A.gQ
 q_:Binds K A.gQ ["self","limit"] []
 yq:eP K "make" "House.make" fP A.kK A.lI
 x_:Binds K A.lI ["self","frame","size"] []
 yv:Meth K A.aj "make" A.kK
 AG:eP K "put" "House.put" hV A.ny A.mD
 AF:Binds K A.mD ["self","way","k","value"] []
 zi:Meth K A.aj "put" A.ny
 vW:eP K "cells" "House.cells" eX A.jY A.jO
 oe:Binds K A.jO ["self","way"] []
 oq:Meth K A.aj "cells" A.jY
 yE:eP K "used" "House.used" fM A.kE A.lT
 qG:Binds K A.lT ["self"] []
 qz:Meth K A.aj "used" A.kE
 xt:eP K "left" "House.left" fT A.k_ A.ku
 xJ:Binds K A.ku ["self"] []
 yN:Meth K A.aj "left" A.k_
 rL:eP K "greatest" "House.greatest" df A.gG A.gM
 qP:Binds K A.gM ["self"] []
 rq:Meth K A.aj "greatest" A.gG
 vZ:eP K "rooms" "House.rooms" ff A.jL A.jW
 nQ:Binds K A.jW ["self","frame"] []
 nT:Meth K A.aj "rooms" A.jL
 sW:eP K "picture" "House.picture" dJ A.iE A.iy
 sT:Binds K A.iy ["self"] []
 sN:Meth K A.aj "picture" A.iE
 oA:eP K "picture_of" "House.picture_of" cD A.fE A.fC
 pq:Binds K A.fC ["self","frame"] []
 oK:Meth K A.aj "picture_of" A.fE
 ub:eP K "is_way" "House.is_way" eJ A.jo A.jr
 nB:Binds K A.jr ["self","thing"] []
 m6:Meth K A.aj "is_way" A.jo
 rS:eP K "is_value" "House.is_value" cY A.gK A.gP
 ki:Binds K A.gP ["self","thing"] []
 j2:Meth K A.aj "is_value" A.gK
 qy:eP K "want_room" "House.want_room" cS A.gc A.gs
 jx:Binds K A.gs ["self","thing"] []
 jD:Meth K A.aj "want_room" A.gc
 zY:mg "want_cell"=some (.ref A.m9)
 so:eP K "want_cell" "want_cell" ig A.m9 A.mx
 zf:Binds K A.mx ["room","thing"] []
 AO:mg "_law_cell"=some (.ref A.ni)
 sy:eP K "_law_cell" "_law_cell" g_ A.ni A.nq
 zk:Binds K A.nq ["_law_script","_law_k"] []
 Bz:mg "_law_box"=some (.ref A.oM)
 uy:eP K "_law_box" "_law_box" jm A.oM A.pA
 Bm:Binds K A.pA ["_law_cell_here"] []
 aW:mg "_law_take"=some (.ref A.mS)
 aU:eP K "_law_take" "_law_take" h9 A.mS A.nj
 aV:Binds K A.nj ["_law_box_here","_law_many"] []
 xg:mg "_law_names"=some (.ref A.lK)
 qj:eP K "_law_names" "_law_names" fU A.lK A.kX
 yC:Binds K A.kX ["_law_box_here","_law_many"] []
 xq:mg "_law_world"=some (.ref A.lE)
 pU:eP K "_law_world" "_law_world" fZ A.lE A.lj
 yF:Binds K A.lj ["_law_limit"] []
 uB:mg "_law_row"=some (.ref A.oR)
 oX:eP K "_law_row" "_law_row" i9 A.oR A.o7
 uR:Binds K A.o7 ["_law_world_here","_law_frame"] []
 dN:mg "_law_standing"=some (.ref A.iF)
 cI:eP K "_law_standing" "_law_standing" dM A.iF A.iz
 dE:Binds K A.iz ["_law_world_here"] []
 sv:mg "_law_used"=some (.ref A.nh)
 m8:eP K "_law_used" "_law_used" g7 A.nh A.mT
 sq:Binds K A.mT ["_law_world_here"] []
 yL:mg "_law_begun"=some (.ref A.lD)
 qm:eP K "_law_begun" "_law_begun" fX A.lD A.lA
 xM:Binds K A.lA ["_law_world_here","_law_frame"] []
 xO:mg "_law_given"=some (.ref A.lL)
 qt:eP K "_law_given" "_law_given" fN A.lL A.kU
 xH:Binds K A.kU ["_law_world_here","_law_frame","_law_size"] []
 w8:mg "_law_ended"=some (.ref A.lO)
 qA:eP K "_law_ended" "_law_ended" fL A.lO A.lQ
 xW:Binds K A.lQ ["_law_world_here","_law_frame"] []
 uz:mg "_law_picture"=some (.ref A.iZ)
 m_:eP K "_law_picture" "_law_picture" eE A.iZ A.jl
 uG:Binds K A.jl ["_law_world_here"] []
 eN:mg "_law_all_rooms"=some (.ref A.gS)
 dk:eP K "_law_all_rooms" "_law_all_rooms" di A.gS A.gE
 eM:Binds K A.gE ["_law_world_here"] []
 qg:mg "_law_value"=some (.ref A.lV)
 kF:eP K "_law_value" "_law_value" gh A.lV A.kz
 qE:Binds K A.kz ["_law_box_here","_law_world_here"] []
 sG:mg "_law_deed"=some (.ref A.mY)
 mz:eP K "_law_deed" "_law_deed" h_ A.mY A.mL
 sD:Binds K A.mL ["_law_box_here","_law_house","_law_world_here"] []
 yn:mg "_law_hands"=some (.ref A.lJ)
 pM:eP K "_law_hands" "_law_hands" gw A.lJ A.lS
 xE:Binds K A.lS ["_law_box_here","_law_world_here"] []
 xU:mg "_law_inner"=some (.ref A.lR)
 pI:eP K "_law_inner" "_law_inner" fR A.lR A.kZ
 yj:Binds K A.kZ ["_law_world_here","_law_frame"] []
 xI:mg "_law_steps"=some (.ref A.kq)
 pZ:eP K "_law_steps" "_law_steps" gp A.kq A.lY
 xb:Binds K A.lY ["_law_world_here","_law_frame","_law_hands_here"] []
 yd:mg "_law_scene"=some (.ref A.kr)
 qB:eP K "_law_scene" "_law_scene" gy A.kr A.lN
 xN:Binds K A.lN ["_law_box_here"] []
 lC:mg "_law_right"=some (.ref A.lX)
 iM:eP K "_law_right" "_law_right" gx A.lX A.kJ
 kQ:Binds K A.kJ ["_law_house","_law_world_here","_law_hands_here"] []
 UD:mg "law"=some (.ref A.FV)
 Vv:eP K "law" "law" zJ A.FV A.zr
 ai7:Binds K A.zr ["_law_script"] []
 IC:mg "Frames"=some (.ref A.j7)
 Tv:Dg K A.j7
 Td:Mk K A.j7 A.d6
 qk:Oo K A.j7 "__init__" A.d6
 Ee:gf K A.j7 "parents"
 Fs:gf K A.j7 "takers"
 LZ:mg "House"=some (.ref A.aj)
 az:Dg K A.aj
 Mn:Mk K A.aj A.gN
 jG:gf K A.aj "bound"
 eB:gf K A.aj "floors"
 fk:gf K A.aj "lengths"
 dR:gf K A.aj "parents"
 iN:gf K A.aj "peak"
 dq:gf K A.aj "takers"
 TQ:∀(s:Shared) (u:Value),BindsTo s A.zr ⟨[u],[]⟩ [("_law_script",u)]
 Dn:mg "all"=none
 xu:mg "bool"=none
 qW:mg "dict"=none
 jB:mg "enumerate"=none
 Di:mg "int"=none
 bY:mg "isinstance"=none
 fK:mg "len"=none
 pE:mg "list"=none
 wA:mg "max"=none
 FI:mg "min"=none
 gu:mg "range"=none
 xT:mg "repr"=none
 kY:mg "reversed"=none
 IV:mg "str"=none
 Dc:mg "sum"=none
 gW:mg "tuple"=none
 pO:∃u,RelV (V.int 0) u∧mg "GROUND"=some u
 qO:∃u,RelV (V.str "abcdefghijklmnopqrstuvwxyz") u∧mg "LETTERS"=some u
 lh:∃u,RelV (V.int 1000) u∧mg "MOST_CELLS"=some u
 eC:∃u,RelV (V.int 6) u∧mg "MOST_CELLS_OF_ROOM"=some u
 jT:∃u,RelV (V.int 100) u∧mg "MOST_FRAMES"=some u
 i_:∃u,RelV (V.int 6) u∧mg "MOST_LETTERS"=some u
def oV:Option Nat→V
 |none=> .bC
 |some n=> .int n
theorem WI:¬(("parents" :Str)="takers"):=by decide+kernel
structure HX where
 bd:V
 fa:V
 la:V
 pk:V
def jv(pa ta:Addr):jz:=cF "takers" (.ref ta) (cF "parents" (.ref pa) [])
def i5(pa ta:Addr)(z:HX):jz:=cF "peak" z.pk (cF "lengths" z.la (cF "floors" z.fa (cF "bound" z.bd (jv pa ta))))
theorem yB(pa ta:Addr)(z:HX):(i5 pa ta z).lookup ("parents" :Str)=some (.ref pa):=by
 unfold i5 jv;rw[aK,if_neg (by decide+kernel),aK,if_neg (by decide+kernel),aK,if_neg (by decide+kernel),aK,if_neg (by decide+kernel),aK,if_neg WI,aK,if_pos rfl]
theorem tZ(pa ta:Addr)(z:HX):(i5 pa ta z).lookup ("takers" :Str)=some (.ref ta):=by
 unfold i5 jv;rw[aK,if_neg (by decide+kernel),aK,if_neg (by decide+kernel),aK,if_neg (by decide+kernel),aK,if_neg (by decide+kernel),aK,if_pos rfl]
theorem GR(pa ta:Addr)(z:HX):(i5 pa ta z).lookup ("bound" :Str)=some z.bd:=by
 unfold i5;rw[aK,if_neg (by decide+kernel),aK,if_neg (by decide+kernel),aK,if_neg (by decide+kernel),aK,if_pos rfl]
theorem yk(pa ta:Addr)(z:HX):(i5 pa ta z).lookup ("floors" :Str)=some z.fa:=by
 unfold i5;rw[aK,if_neg (by decide+kernel),aK,if_neg (by decide+kernel),aK,if_pos rfl]
theorem Be(pa ta:Addr)(z:HX):(i5 pa ta z).lookup ("lengths" :Str)=some z.la:=by
 unfold i5;rw[aK,if_neg (by decide+kernel),aK,if_pos rfl]
theorem HV(pa ta:Addr)(z:HX):(i5 pa ta z).lookup ("peak" :Str)=some z.pk:=by
 unfold i5;rw[aK,if_pos rfl]
theorem aR{pa ta:Addr}{z:HX}{m:Str}(h:¬m="peak" ∧¬m="lengths" ∧¬m="floors" ∧¬m="bound" ∧¬m="takers" ∧¬m="parents"):(i5 pa ta z).lookup m=none:=by
 obtain⟨h1,h2,h3,h4,h5,h6⟩:=h;unfold i5 jv;rw[aK,if_neg h1,aK,if_neg h2,aK,if_neg h3,aK,if_neg h4,aK,if_neg h5,aK,if_neg h6]
 all_goals rfl
structure iS(C:Addr)(H:Hp)(f pa ta:Addr)(ps ts:ay):Prop where
 ob:∃dx z,H f=some (.ins C dx (i5 pa ta z))
 pl:H pa=some (.lst (ps.map oV))
 tl:H ta=some (.lst (ts.map oV))
 ne:pa≠ta
theorem iS.same{C:Addr}{H H' :Hp}{f pa ta:Addr}{ps ts:ay}(F:iS C H f pa ta ps ts)(s:aw H H'):iS C H' f pa ta ps ts:=by
 obtain⟨⟨dx,z,h⟩,h1,h2,h3⟩:=F;exact⟨⟨dx,z,s _ _ h⟩,s _ _ h1,s _ _ h2,h3⟩
structure WF(ps ts:ay):Prop where
 len:ps.length=ts.length
 pos:0<ps.length
 le:ps.length≤101
 root:ps[0]? =some none
 par:∀i,0<i→i<ps.length→∃j,ps[i]? =some (some j)∧j<i
 tk:∀(i j:Nat),ts[i]? =some (some j)→j<ps.length
def gO(ps:ay)(t:Int):Bool:=decide (0≤t)&&decide (t≤(ps.length:Int) - 1)
def cB(ts:ay)(t:Int):Bool:=decide (0≤t)&&(ts[t.toNat]? ==some none)
theorem mU{xs:ay}{i:Nat}{o:Option Nat}(h:xs[i]? =some o):JZ (xs.map oV) (i:Int)=some (oV o):=d5 (by rw[List.getElem?_map,h];rfl)
section
variable{P:Program}{w:World}{K:Frag}{mg:Str→aN}{base:Heap}{A:qH}
def Hw:Sp:=fun vs H Q _=>∃i:Int,vs=[.int i]∧Q (.bl true) H
theorem iT(T:Txt K mg A):bu P w K mg base eF 1 A.ip A.ib ["thing"] Hw:=by
 refine T.ik.ok qo (fun vs H Q E h=> ?_) (fun cJ Ar outer s H vs Q E hr h=> ?_)
 ·obtain⟨v,rfl,_⟩:=h;rfl
 ·obtain⟨i,rfl,k⟩:=h;refine⟨_,(aq (aH (iB (aT dw (by rfl) T.bY Boot.«isinstance» (aa (pv 0) (aa (jE (v:= .ty "int") rfl T.Di Boot.«int» rfl) ae))) (iG (J7 (aT dw (by rfl) T.bY Boot.«isinstance» (aa (pv 0) (aa (jE (v:= .ty "bool") rfl T.xu Boot.«bool» rfl) ae)))))))),?_⟩;exact⟨_,rfl,_,_,_,_,rfl,.int i,rfl,_,rfl,eT ⟨_,rfl,_,_,_,_,rfl,.int i,rfl,_,rfl,k⟩⟩
def Iq:Sp:=fun vs H Q _=>∃i lo hi:Int,vs=[.int i,.int lo,.int hi]∧Q (.bl (decide (lo≤i)&&decide (i≤hi))) H
theorem GD{lo hi i:Int}{Q:Bool→Prop}(k:Q (decide (lo≤i)&&decide (i≤hi)))(A1:Prop)(h:Q (decide (i≤hi))→A1):if decide (lo≤i)=true then A1 else Q false:=by
 by_cases q:lo≤i
 ·rw[decide_eq_true q] at k ⊢;exact eT (h (by simpa using k))
 ·rw[decide_eq_false q] at k ⊢;exact dH (by simpa using k)
theorem jC(T:Txt K mg A):bu P w K mg base eF 2 A.px A.oC ["thing","low","high"] Iq:=by
 have ie:=iT (P:=P) (w:=w) (base:=base) T;refine T.iW.ok zz (fun vs H Q E h=> ?_) (fun cJ Ar outer s H vs Q E hr h=> ?_)
 ·obtain⟨v,lo,hi,rfl,_⟩:=h;rfl
 ·obtain⟨i,lo,hi,rfl,k⟩:=h;refine⟨_,(aq (aH (iB (aA ie hr rfl T.mW T.ik.kp T.nr .nil aB (aa (pv 0) ae)) (iG (zG DF DF (pv 1) (pv 0) (pv 2)))))),?_⟩;refine⟨_,rfl,i,rfl,_,rfl,?_⟩;exact eT ⟨_,rfl,_,rfl,lo,i,rfl,rfl,_,rfl,GD (Q:=fun b=>Q (.bl b) H) k _ fun q=>⟨_,rfl,i,hi,rfl,rfl,q⟩⟩
def Lr(C:Addr):Sp:=fun vs H Q _=>∃f pa ta ps ts,vs=[.ref f]∧iS C H f pa ta ps ts∧Q (.int ((ps.length:Int) - 1)) H
theorem iA(T:Txt K mg A):bu P w K mg base eF 1 A.jb A.iX ["self"] (Lr A.aj):=by
 refine T.tV.ok sU (fun vs H Q E h=> ?_) (fun cJ Ar outer s H vs Q E hr h=> ?_)
 ·obtain⟨f,pa,ta,ps,ts,rfl,_⟩:=h;rfl
 ·obtain⟨f,pa,ta,ps,ts,rfl,F,k⟩:=h;obtain⟨⟨dx,z,ho⟩,hp,ht,ne⟩:=id F;refine⟨_,(aq (aH (bt mI (aT bp (by rfl) T.fK Boot.«len» (aa (dr (pv 0) rfl) ae)) ao))),?_⟩;refine⟨_,rfl,f,A.aj,dx,_,_,rfl,ho,T.az,T.dR,yB _ _ _,pa,_,rfl,.inl (bD.of hp),_,1,rfl,rfl,?_⟩;rw[List.length_map];exact k
def UB(C:Addr):Sp:=fun vs H Q _=>∃f pa ta ps ts,∃t:Int,vs=[.ref f,.int t]∧iS C H f pa ta ps ts∧Q (.bl (gO ps t)) H
theorem iL(T:Txt K mg A):bu P w K mg base eF 3 A.fF A.fA ["self","thing"] (UB A.aj):=by
 have fG:=jC (P:=P) (w:=w) (base:=base) T;have eh:=(iA (P:=P) (w:=w) (base:=base) T).mono (by decide:_≤2);refine T.oP.ok nL (fun vs H Q E h=> ?_) (fun cJ Ar outer s H vs Q E hr h=> ?_)
 ·obtain⟨f,pa,ta,ps,ts,t,rfl,_⟩:=h;rfl
 ·obtain⟨f,pa,ta,ps,ts,t,rfl,F,k⟩:=h;obtain⟨⟨dx,z,ho⟩,hp,ht,ne⟩:=id F;obtain⟨u1,mZ⟩:=T.pO;refine⟨_,(aq (aH (aA fG hr rfl T.lq T.iW.kp T.ky .nil aB (aa (pv 1) (aa (lx rfl mZ.2 mZ.1) (aa (dP (pv 0) T.az T.jc eh hr T.ji .nil aB) ae)))))),?_⟩;exact⟨_,rfl,_,rfl,f,dx,_,rfl,ho,aR (by decide+kernel),f,pa,ta,ps,ts,rfl,F,t,0,_,rfl,k⟩
def La(C:Addr):Sp:=fun vs H Q _=>∃f pa ta ps ts,∃t:Int,vs=[.ref f,.int t]∧iS C H f pa ta ps ts∧gO ps t=true∧Q .bC H
theorem cR(T:Txt K mg A):bu P w K mg base eF 4 A.eQ A.eR ["self","thing"] (La A.aj):=by
 have fD:=iL (P:=P) (w:=w) (base:=base) T;refine T.nM.ok mR (fun vs H Q E h=> ?_) (fun cJ Ar outer s H vs Q E hr h=> ?_)
 ·obtain⟨f,pa,ta,ps,ts,t,rfl,_⟩:=h;rfl
 ·obtain⟨f,pa,ta,ps,ts,t,rfl,F,hb,k⟩:=h;obtain⟨⟨dx,z,ho⟩,hp,ht,ne⟩:=id F;refine⟨_,(aq (b_ (eS (dW (bg (pv 0) T.az T.jh fD hr T.iV .nil aB (aa (pv 1) ae)))) (aq dD) bh)),?_⟩;refine⟨_,rfl,f,dx,_,rfl,ho,aR (by decide+kernel),_,rfl,f,pa,ta,ps,ts,t,rfl,F,_,rfl,?_⟩;rw[hb];exact k
def Gr(C:Addr):Sp:=fun vs H Q _=>∃f pa ta ps ts,∃t:Int,vs=[.ref f,.int t]∧iS C H f pa ta ps ts∧ps.length=ts.length∧Q (.bl (cB ts t)) H
theorem rf(T:Txt K mg A):bu P w K mg base eF 4 A.iK A.iw ["self","thing"] (Gr A.aj):=by
 have fD:=iL (P:=P) (w:=w) (base:=base) T;refine T.tH.ok r9 (fun vs H Q E h=> ?_) (fun cJ Ar outer s H vs Q E hr h=> ?_)
 ·obtain⟨f,pa,ta,ps,ts,t,rfl,_⟩:=h;rfl
 ·obtain⟨f,pa,ta,ps,ts,t,rfl,F,hl,k⟩:=h;obtain⟨⟨dx,z,ho⟩,hp,ht,ne⟩:=id F;refine⟨_,(aq (aH (iB (bg (pv 0) T.az T.jh fD hr T.iV .nil aB (aa (pv 1) ae)) (iG (fq rM (bb bj (dr (pv 0) rfl) (pv 1) (fun _ _=>rfl)) cG (br _)))))),?_⟩;refine⟨_,rfl,f,dx,_,rfl,ho,aR (by decide+kernel),_,rfl,f,pa,ta,ps,ts,t,rfl,F,_,rfl,?_⟩
  cases hb:gO ps t with
  |true=>
   unfold gO at hb;rw[Bool.and_eq_true,decide_eq_true_iff,decide_eq_true_iff] at hb;obtain⟨j,rfl⟩:∃j:Nat,t=j:=⟨t.toNat,by omega⟩;have hj:j<ts.length:=by omega
   have hx:ts[j]? =some ts[j]:=by simp[hj]
   refine eT ⟨_,rfl,f,A.aj,dx,_,_,rfl,ho,T.az,T.dq,tZ _ _ _,_,rfl,ta,_,_,_,rfl,rfl,bD.of ht,mU hx,rfl,?_⟩
   have e:cB ts (j:Int)=decide (oV ts[j]= .bC):=by
    unfold cB;rw[decide_eq_true hb.1,Int.toNat_natCast,hx,Bool.true_and]
    cases ts[j] with
    |none=>rfl
    |some n=>rfl
   rw[←e];exact k
  |false=>
   have e:cB ts t=false:=by
    unfold cB;unfold gO at hb;by_cases h0:0≤t
    ·rw[decide_eq_true h0,Bool.true_and] at hb ⊢;have h1:=of_decide_eq_false hb;have:ts[t.toNat]? =none:=List.getElem?_eq_none (by omega);rw[this];rfl
    ·rw[decide_eq_false h0];rfl
   rw[e] at k;exact dH k
theorem Ax{ps ts:ay}{t:Int}(hl:ps.length=ts.length)(h:cB ts t=true):gO ps t=true:=by
 unfold cB at h;rw[Bool.and_eq_true,decide_eq_true_iff] at h;have h1:=eq_of_beq h.2;have h2:=(List.getElem?_eq_some_iff.mp h1).1;unfold gO;rw[decide_eq_true h.1,decide_eq_true (show t≤(ps.length:Int) - 1 by omega)];rfl
def MT(C:Addr):Sp:=fun vs H Q _=>∃f pa ta ps ts,∃t:Int,vs=[.ref f,.int t]∧iS C H f pa ta ps ts∧ps.length=ts.length∧cB ts t=true∧Q .bC H
theorem cc(T:Txt K mg A):bu P w K mg base eF 5 A.dz A.dB ["self","thing"] (MT A.aj):=by
 have bL:=cR (P:=P) (w:=w) (base:=base) T;have sY:=rf (P:=P) (w:=w) (base:=base) T;refine T.kT.ok kh (fun vs H Q E h=> ?_) (fun cJ Ar outer s H vs Q E hr h=> ?_)
 ·obtain⟨f,pa,ta,ps,ts,t,rfl,_⟩:=h;rfl
 ·obtain⟨f,pa,ta,ps,ts,t,rfl,F,hl,hb,k⟩:=h;obtain⟨⟨dx,z,ho⟩,hp,ht,ne⟩:=id F;refine⟨_,(ai (bB (bg (pv 0) T.az T.cW bL hr T.cX .nil aB (aa (pv 1) ae))) (aq (b_ (eS (dW (bg (pv 0) T.az T.tm sY hr T.sZ .nil aB (aa (pv 1) ae)))) (aq dD) bh))),?_⟩;refine⟨_,rfl,f,dx,_,rfl,ho,aR (by decide+kernel),_,rfl,f,pa,ta,ps,ts,t,rfl,F,Ax hl hb,?_⟩;refine⟨_,rfl,f,dx,_,rfl,ho,aR (by decide+kernel),_,rfl,f,pa,ta,ps,ts,t,rfl,F,hl,_,rfl,?_⟩;rw[hb];exact k
def ail(C:Addr):Sp:=fun vs H Q _=>∃f pa ta ps ts,∃(t:Nat) (o:Option Nat),vs=[.ref f,.int t]∧iS C H f pa ta ps ts∧ps.length=ts.length∧ts[t]? =some o∧Q (oV o) H
theorem oQ(T:Txt K mg A):bu P w K mg base eF 5 A.gz A.fO ["self","frame"] (ail A.aj):=by
 have bL:=cR (P:=P) (w:=w) (base:=base) T;refine T.pY.ok ph (fun vs H Q E h=> ?_) (fun cJ Ar outer s H vs Q E hr h=> ?_)
 ·obtain⟨f,pa,ta,ps,ts,t,o,rfl,_⟩:=h;rfl
 ·obtain⟨f,pa,ta,ps,ts,t,o,rfl,F,hl,hx,k⟩:=h;obtain⟨⟨dx,z,ho⟩,hp,ht,ne⟩:=id F;have hj:t<ts.length:=(List.getElem?_eq_some_iff.mp hx).1
  have hb:gO ps (t:Int)=true:=by
   unfold gO;rw[decide_eq_true (show(0:Int)≤t by omega),decide_eq_true (show(t:Int)≤(ps.length:Int) - 1 by omega)];rfl
  refine⟨_,(ai (bB (bg (pv 0) T.az T.cW bL hr T.cX .nil aB (aa (pv 1) ae))) (aq (aH (bb bj (dr (pv 0) rfl) (pv 1) (fun _ _=>rfl))))),?_⟩;refine⟨_,rfl,f,dx,_,rfl,ho,aR (by decide+kernel),_,rfl,f,pa,ta,ps,ts,t,rfl,F,hb,?_⟩;exact⟨_,rfl,f,A.aj,dx,_,_,rfl,ho,T.az,T.dq,tZ _ _ _,_,rfl,ta,_,_,_,rfl,rfl,bD.of ht,mU hx,k⟩
end
def au(ts:ay):List Nat:=(List.range ts.length).filter fun i=>ts[i]? ==some none
def nV(n:Nat):V:= .int n
def yO(ps:ay):Nat→Nat→List Nat
 |0,f=>[f]
 |n+1,f=>f::(match ps[f]? with|some (some j)=>yO ps n j|_=>[])
def zB(ps:ay)(f:Nat):List Nat:=yO ps f f
theorem DX{ps ts:ay}(W:WF ps ts)(n:Nat):yO ps n 0=[0]:=by
 cases n with
 |zero=>rfl
 |succ n=>
  show 0::(match ps[0]? with|some (some j)=>yO ps n j|_=>[])=[0];rw[W.root]
theorem Mo{ps ts:ay}(W:WF ps ts)(f:Nat):f<ps.length→∀n m,f≤n→f≤m→yO ps n f=yO ps m f:=by
 induction f using Nat.strongRecOn with
 |_ f ih=>
  intro hf n m hn hm
  cases f with
  |zero=>rw[DX W,DX W]
  |succ g=>
   obtain⟨j,e,hj⟩:=W.par (g+1) (by lia) hf;obtain⟨n',rfl⟩:∃n',n=n' +1:=⟨n - 1,by lia⟩;obtain⟨m',rfl⟩:∃m',m=m' +1:=⟨m - 1,by lia⟩;show(g+1)::(match ps[g+1]? with|some (some j)=>yO ps n' j|_=>[])=(g+1)::(match ps[g+1]? with|some (some j)=>yO ps m' j|_=>[]);rw[e];show(g+1)::yO ps n' j=(g+1)::yO ps m' j;rw[ih j hj (by lia) n' m' (by lia) (by lia)]
def RL(ps:ay):Option Nat→List Nat
 |none=>[]
 |some j=>zB ps j
theorem yt{ps ts:ay}(W:WF ps ts){f:Nat}{o:Option Nat}(h:ps[f]? =some o):zB ps f=f::RL ps o:=by
 have hf:f<ps.length:=(List.getElem?_eq_some_iff.mp h).1
 cases f with
 |zero=>
  rw[W.root] at h;cases h;rfl
 |succ g=>
  obtain⟨j,e,hj⟩:=W.par (g+1) (by lia) hf;rw[e] at h;cases h;show(g+1)::(match ps[g+1]? with|some (some j)=>yO ps g j|_=>[])=(g+1)::zB ps j;rw[e];show(g+1)::yO ps g j=(g+1)::yO ps j j;rw[Mo W j (by lia) g j (by lia) (Nat.le_refl _)]
theorem Bn(ps:ay):∀(n f:Nat),(yO ps n f).length≤n+1
 |0,f=>Nat.le_refl _
 |n+1,f=>by
  show(match ps[f]? with|some (some j)=>yO ps n j|_=>[]).length+1≤n+1+1
  split
  ·have:=Bn ps n ‹_›
   lia
  ·simp
def hZ(ps:ay)(f:Nat):List Nat:=(zB ps f).reverse
section
variable{P:Program}{w:World}{K:Frag}{mg:Str→aN}{base:Heap}{A:qH}
def B_(C:Addr):Sp:=fun vs H Q _=>∃f pa ta ps ts,vs=[.ref f]∧iS C H f pa ta ps ts∧ts.length≤1000∧∀l H',H l=none→aw H H'→H' l=some (.lst ((au ts).map nV))→Q (.ref l) H'
theorem dA(T:Txt K mg A):bu P w K mg base eF 1 A.fW A.f_ ["self"] (B_ A.aj):=by
 refine T.pV.ok o6 (fun vs H Q E h=> ?_) (fun cJ Ar outer s H vs Q E hr h=> ?_)
 ·obtain⟨f,pa,ta,ps,ts,rfl,_⟩:=h;rfl
 ·obtain⟨f,pa,ta,ps,ts,rfl,F,hle,k⟩:=h;obtain⟨⟨dx,z,ho⟩,hp,ht,ne⟩:=id F;refine⟨_,(aq (aH (b9 (N:=["number","taker"]) (k:=2) (js:=[]) rfl (bq (by kernel_rfl)) (qx rfl T.jB (aa (dr (pv 0) rfl) ae)) (fun _ _ _ _ _=>⟨(tQ (K:=K) (n:=2) rfl rfl (g9 (a_ (i:=0) (show(["number","taker"]:aO).Nodup by decide+kernel) rfl (Or.inl rfl) (Or.inr rfl)) (g9 (a_ (i:=1) (show(["number","taker"]:aO).Nodup by decide+kernel) rfl (Or.inl rfl) (Or.inr rfl)) tO)) rfl rfl),(xm (ba rM (pv 1) cG (br _))),(pv 0)⟩)))),?_⟩;refine⟨_,rfl,f,A.aj,dx,_,_,rfl,ho,T.az,T.dq,tZ _ _ _,ta,_,rfl,ht,?_⟩;refine gU (fun i=>ts[i]? ==some none) nV (uY (bD.of ht)) ?_ ?_ fun p H' hp sm hl=>k p H' hp sm ?_
  ·rw[List.length_map];exact Nat.le_trans hle (by decide)
  ·rintro i x H' C1 C0 hi sm ⟨t,y,rfl,hT,hy⟩ c1 c0
   rw[List.getElem?_map] at hy
   cases eo:ts[i]? with
   |none=>rw[eo] at hy;cases hy
   |some o=>
    rw[eo] at hy c1 c0;cases hy;refine⟨t,_,rfl,mr.of hT,rfl,_,_,rfl,_,_,rfl,rfl,((dU.refl _).own (by decide)).own (by decide),_,rfl,rfl,_,rfl,?_⟩
    cases o with
    |none=>exact⟨_,rfl,c1 rfl H' (aw.refl H')⟩
    |some n=>exact c0 rfl H' (aw.refl H')
  ·rw[List.length_map] at hl;exact hl
def VY(C:Addr):Sp:=fun vs H Q _=>∃f pa ta ps ts,∃t:Nat,vs=[.ref f,.int t]∧iS C H f pa ta ps ts∧WF ps ts∧t<ps.length∧∀l H',H l=none→aw H H'→H' l=some (.lst ((hZ ps t).map nV))→Q (.ref l) H'
theorem D_{ps:ay}{t:Nat}(h:t<ps.length):gO ps (t:Int)=true:=by
 unfold gO;rw[decide_eq_true (show(0:Int)≤t by lia),decide_eq_true (show(t:Int)≤(ps.length:Int) - 1 by lia)];rfl
theorem vp(T:Txt K mg A):bu P w K mg base eF 5 A.kO A.lH ["self","frame"] (VY A.aj):=by
 have bL:=cR (P:=P) (w:=w) (base:=base) T;refine T.yu.ok gZ (fun vs H Q E h=> ?_) (fun cJ Ar outer s H vs Q E hr h=> ?_)
 ·obtain⟨f,pa,ta,ps,ts,t,rfl,_⟩:=h;rfl
 ·obtain⟨f,pa,ta,ps,ts,t,rfl,F,W,gB,k⟩:=h;obtain⟨⟨dx,z,ho⟩,hp,ht,ne⟩:=id F;refine⟨_,(ai (bB (bg (pv 0) T.az T.cW bL hr T.cX .nil aB (aa (pv 1) ae))) (ai (aZ (i:=2) gZ.nd rfl (Or.inl rfl) (b7 ae)) (ai (aZ (i:=3) gZ.nd rfl (Or.inl rfl) (pv 1)) (ai (AK PassesOwn.never (ba tM (pv 3) cG (br _)) (ai (bB (iq plainAttrs_list PySem.F.slot_list_append PySem.F.type_list_append cv (pv 2) (aa (pv 3) ae))) (aq (aZ (i:=3) gZ.nd rfl (Or.inl rfl) (bb bj (dr (pv 0) rfl) (pv 3) (fun _ _=>rfl)))))) (aq (aH (BI rfl rfl T.pE rfl T.kY (aa (pv 2) ae)))))))),?_⟩;refine⟨_,rfl,f,dx,_,rfl,ho,aR (by decide+kernel),_,rfl,f,pa,ta,ps,ts,t,rfl,F,D_ gB,?_⟩;refine⟨Nat.zero_le _,fun l hl=> ?_⟩;refine⟨_,rfl,?_⟩
  have PU:(zB ps t).length≤101:=by
   have:=Bn ps t t;have:=W.le;show(yO ps t t).length≤101
   lia
  refine⟨fun m σ H' =>∃(acc:List Nat) (o:Option Nat),σ=[some (.ref f),some (.int t),some (.ref l),some (oV o)]∧H' =upd H l (.lst (acc.map nV))∧acc++RL ps o=zB ps t∧(∀j,o=some j→j<ps.length)∧m=(match o with|none=>0|some j=>j+1),⟨t+1,[],some t,rfl,rfl,rfl,?_,rfl⟩,?_⟩
  ·intro j e;cases e;exact gB
  ·rintro m σ H' ⟨acc,o,rfl,rfl,t9,hj,rfl⟩
   have sm:=aw.upd (o:= .lst (acc.map nV)) hl;refine⟨_,rfl,rfl,_,rfl,?_⟩
   cases o with
   |none=>
    refine⟨_,rfl,l,_,rfl,bD.of af,fun l2 vi=> ?_⟩;have s2:=aw.upd (o:= .lst (acc.map nV).reverse) vi;refine k l2 _ (sm.free vi) (sm.trans s2) ?_;have e:acc=zB ps t:=by simpa[RL] using t9
    rw[af,e,←List.map_reverse];rfl
   |some j=>
    have FD:=hj j rfl;have hx:ps[j]? =some ps[j]:=by simp[FD]
    have est:=yt W hx;have ND:acc++zB ps j=zB ps t:=t9
    have KY:acc.length<101:=by
     have e1:(acc++zB ps j).length≤101:=by rw[ND];exact PU
     rw[est,List.length_append,List.length_cons] at e1
     lia
    refine⟨fun dC H' =>∃m',m' <j+1∧∃(acc:List Nat) (o:Option Nat),dC =[some (.ref f),some (.int t),some (.ref l),some (oV o)]∧H' =upd H l (.lst (acc.map nV))∧acc++RL ps o=zB ps t∧(∀j,o=some j→j<ps.length)∧m' =(match o with|none=>0|some j=>j+1),fun dC H' h=>h,?_⟩;refine⟨_,rfl,.inl ⟨rfl,_,bD.of af⟩,_,rfl,l,_,_,rfl,rfl,af,?_,?_⟩
    ·rw[List.length_map];exact Nat.lt_of_lt_of_le KY (by decide)
    rw[yy];have s3:=aw.upd (o:= .lst (acc.map nV++[oV (some j)])) hl;refine⟨_,rfl,f,A.aj,dx,_,_,rfl,s3 _ _ ho,T.az,T.dR,yB _ _ _,_,rfl,pa,_,_,_,rfl,rfl,bD.of (s3 _ _ hp),mU hx,?_⟩
    have Wn:∀i,ps[j]=some i→i<j:=fun i e=>by
     rw[e] at hx
     cases j with
     |zero=>rw[W.root] at hx;cases hx
     |succ g=>
      obtain⟨i',e',NF⟩:=W.par (g+1) (by lia) FD;rw[e'] at hx;cases hx;exact NF
    refine⟨(match ps[j] with|none=>0|some i=>i+1),?_,acc++[j],ps[j],rfl,?_,?_,fun i e=> ?_,rfl⟩
    ·cases e:ps[j] with
     |none=>show 0<j+1;lia
     |some i=>have:=Wn i e;show i+1<j+1;lia
    ·rw[List.map_append];rfl
    ·rw[List.append_assoc,←ND,est];rfl
    ·have:=Wn i e
     lia
end
def ma(pa ta:Addr)(H H' :Hp):Prop:=∀c o,c≠pa→c≠ta→H c=some o→H' c=some o
theorem ma.refl(pa ta:Addr)(H:Hp):ma pa ta H H:=fun _ _ _ _ e=>e
theorem ma.trans{pa ta:Addr}{H H1 H2:Hp}(h:ma pa ta H H1)(h' :ma pa ta H1 H2):ma pa ta H H2:=fun c o h1 h2 e=>h' c o h1 h2 (h c o h1 h2 e)
def bx(ps ts:ay)(t:Nat):List Nat:=(au ts).reverse.filter fun n=>decide (t∈hZ ps n)
def wP(t:Nat):List Nat→ay→ay
 |[],ts=>ts
 |n::r,ts=>wP t r (ts.set n (some t))
theorem mK(t:Nat):∀(E:List Nat) (ts:ay),(wP t E ts).length=ts.length
 |[],ts=>rfl
 |n::r,ts=>by
  show(wP t r (ts.set n (some t))).length=ts.length;rw[mK t r,List.length_set]
theorem rQ(t n:Nat):∀(E:List Nat) (ts:ay),wP t (E++[n]) ts=(wP t E ts).set n (some t)
 |[],ts=>rfl
 |m::r,ts=>rQ t n r (ts.set m (some t))
theorem tY{ts:ay}{n:Nat}(h:n∈au ts):n<ts.length:=List.mem_range.mp (List.mem_filter.mp h).1
theorem EB{ts:ay}{n:Nat}:n∈au ts↔cB ts (n:Int)=true:=by
 unfold au cB;rw[List.mem_filter,List.mem_range,decide_eq_true (show(0:Int)≤n by lia),Bool.true_and,Int.toNat_natCast];constructor
 ·exact fun h=>h.2
 ·intro h;exact⟨(List.getElem?_eq_some_iff.mp (eq_of_beq h)).1,h⟩
theorem Jw{ps ts:ay}{t n:Nat}(h:n∈bx ps ts t):n<ts.length:=tY (List.mem_reverse.mp (List.mem_filter.mp h).1)
theorem Bs(S:List Nat):S=(List.range S.length).map fun i=>S.getD i 0:=by
 apply List.ext_getElem?;intro i;rw[List.getElem?_map];by_cases h:i<S.length
 ·rw[List.getElem?_range h];simp[List.getD_eq_getElem?_getD,h]
 ·rw[List.getElem?_eq_none (by lia),List.getElem?_eq_none (by rw[List.length_range];lia)];rfl
theorem lM(S:List Nat)(p:Nat→Bool)(g:Nat→V):((List.range S.length).filter fun i=>p (S.getD i 0)).map (fun i=>g (S.getD i 0))=(S.filter p).map g:=by
 conv=>rhs;rw[Bs S]
 rw[List.filter_map,List.map_map];rfl
theorem ug(t:Nat)(R:List Nat):EC (nV t) (R.map nV)=decide (t∈R):=by
 unfold EC;rw[List.any_map,Bool.eq_iff_iff,List.any_eq_true,decide_eq_true_iff];constructor
 ·rintro ⟨n,hn,e⟩
  have e:((n:Int)==(t:Int))=true:=e;have e:=eq_of_beq e;have:n=t:=by lia
  rw[←this];exact hn
 ·intro h;exact⟨t,h,by show((t:Int)==(t:Int))=true;simp⟩
theorem lF(R:List Nat):(R.map nV).all ka=true:=by
 rw[List.all_map,List.all_eq_true];intro n _;rfl
section
variable{P:Program}{w:World}{K:Frag}{mg:Str→aN}{base:Heap}{A:qH}
def RH(C:Addr):Sp:=fun vs H Q _=>∃(p dx:Addr),vs=[.ref p]∧H p=some (.ins C dx [])∧∀pa ta H',H pa=none→H ta=none→H' p=some (.ins C dx (jv pa ta))→H' pa=some (.lst [.bC])→H' ta=some (.lst [.bC])→pa≠ta→(∀b o,H b=some o→b≠p→H' b=some o)→Q .bC H'
theorem o9(T:Txt K mg A):bu P w K mg base eF 1 A.d6 A.gA ["self"] (RH A.aj):=by
 refine T.qr.ok pz (fun vs H Q E h=> ?_) (fun cJ Ar outer s H vs Q E hr h=> ?_)
 ·obtain⟨p,dx,rfl,_⟩:=h;rfl
 ·obtain⟨p,dx,rfl,hp,k⟩:=h;refine⟨_,(ai (oY (pv 0) (b7 (aa cG ae)) rfl) (aq (oY (pv 0) (b7 (aa cG ae)) rfl))),?_⟩;refine⟨(show 1≤sizeLine by decide),fun pa Xj=> ?_⟩;have np:p≠pa:=ak hp Xj;refine⟨_,rfl,p,A.aj,dx,[],rfl,(by rw[ah np];exact hp),T.az,T.dR,(by show 0<1000;decide),(show 1≤sizeLine by decide),fun ta Uy=> ?_⟩;have nt:p≠ta:=ak af Uy
  have Q3:upd H pa (.lst [.bC]) ta=none:=by
   rw[ah nt.symm] at Uy;exact Uy
  have Vy:pa≠ta:=ak af Q3
  have Xp:H ta=none:=by
   rw[ah Vy.symm] at Q3;exact Q3
  refine⟨_,rfl,p,A.aj,dx,_,rfl,(by rw[ah nt,af]),T.az,T.dq,(by show 1<1000;decide),?_⟩;refine k pa ta _ Xj Xp af ?_ ?_ Vy fun b o e hb=> ?_
  ·rw[ah np.symm,ah Vy,ah np.symm,af]
  ·rw[ah nt.symm,af]
  ·rw[ah hb,ah (ak e Xp),ah hb,ah (ak e Xj)];exact e
def EH(C:Addr):Sp:=fun vs H Q _=>∃f pa ta ps ts,∃t:Nat,vs=[.ref f,.int t]∧iS C H f pa ta ps ts∧ps.length=ts.length∧cB ts (t:Int)=true∧ps.length≤100∧Q .bC H
def KS(C:Addr):Sp:=fun vs H Q _=>∃f pa ta ps ts,∃t:Nat,vs=[.ref f,.int t]∧iS C H f pa ta ps ts∧ps.length=ts.length∧cB ts (t:Int)=true∧ps.length≤100∧
 ∀H',iS C H' f pa ta (ps++[some t]) (ts++[none])→ma pa ta H H'→Q (.int ps.length) H'
theorem jV(T:Txt K mg A):bu P w K mg base eF 6 A.dm A.dg ["self","thing"] (EH A.aj):=by
 have bA:=cc (P:=P) (w:=w) (base:=base) T;have eh:=(iA (P:=P) (w:=w) (base:=base) T).mono (by decide:_≤5);refine T.ko.ok jI (fun vs H Q E h=> ?_) (fun cJ Ar outer s H vs Q E hr h=> ?_)
 ·obtain⟨f,pa,ta,ps,ts,t,rfl,_⟩:=h;rfl
 ·obtain⟨f,pa,ta,ps,ts,t,rfl,F,hl,hb,hle,k⟩:=h;obtain⟨⟨dx,z,ho⟩,hp,ht,ne⟩:=id F;obtain⟨u1,oj⟩:=T.jT;refine⟨_,(ai (bB (bg (pv 0) T.az T.cq bA hr T.cu .nil aB (aa (pv 1) ae))) (aq (b_ (ba j9 (dP (pv 0) T.az T.jc eh hr T.ji .nil aB) (lx rfl oj.2 oj.1) (br _)) (aq dD) bh))),?_⟩;refine⟨_,rfl,f,dx,_,rfl,ho,aR (by decide+kernel),_,rfl,f,pa,ta,ps,ts,t,rfl,F,hl,hb,?_⟩;refine⟨_,rfl,f,dx,_,rfl,ho,aR (by decide+kernel),f,pa,ta,ps,ts,rfl,F,?_⟩;refine⟨rfl,_,rfl,?_⟩;rw[decide_eq_false (show ¬V.int ((ps.length:Int) - 1)=V.int 100 by intro z;injection z with z;lia)];exact dH k
theorem tG(T:Txt K mg A):bu P w K mg base eF 7 A.jk A.i8 ["self","frame"] (KS A.aj):=by
 have j4:=jV (P:=P) (w:=w) (base:=base) T;have eh:=(iA (P:=P) (w:=w) (base:=base) T).mono (by decide:_≤6);refine T.uv.ok tj (fun vs H Q E h=> ?_) (fun cJ Ar outer s H vs Q E hr h=> ?_)
 ·obtain⟨f,pa,ta,ps,ts,t,rfl,_⟩:=h;rfl
 ·obtain⟨f,pa,ta,ps,ts,t,rfl,F,hl,hb,hle,k⟩:=h;obtain⟨⟨dx,z,ho⟩,hp,ht,ne⟩:=id F;have fp:f≠pa:=aG ho hp (by intro z;cases z);have ft:f≠ta:=aG ho ht (by intro z;cases z);refine⟨_,(ai (bB (bg (pv 0) T.az T.j6 j4 hr T.kj .nil aB (aa (pv 1) ae))) (ai (bB (iq plainAttrs_list PySem.F.slot_list_append PySem.F.type_list_append cv (dr (pv 0) rfl) (aa (pv 1) ae))) (ai (bB (iq plainAttrs_list PySem.F.slot_list_append PySem.F.type_list_append cv (dr (pv 0) rfl) (aa cG ae))) (aq (aH (dP (pv 0) T.az T.jc eh hr T.ji .nil aB)))))),?_⟩;refine⟨_,rfl,f,dx,_,rfl,ho,aR (by decide+kernel),_,rfl,f,pa,ta,ps,ts,t,rfl,F,hl,hb,hle,?_⟩;refine⟨_,rfl,f,A.aj,dx,_,_,rfl,ho,T.az,T.dR,yB _ _ _,.inl ⟨rfl,_,bD.of hp⟩,_,rfl,pa,_,_,rfl,rfl,hp,?_,?_⟩
  ·rw[List.length_map];exact Nat.lt_of_le_of_lt hle (by decide)
  have Xx:∀o,upd H pa o f=some (.ins A.aj dx (i5 pa ta z)):=fun o=>by rw[ah fp];exact ho
  have Ft:∀o,upd H pa o ta=some (.lst (ts.map oV)):=fun o=>by rw[ah ne.symm];exact ht
  refine⟨_,rfl,f,A.aj,dx,_,_,rfl,Xx _,T.az,T.dq,tZ _ _ _,.inl ⟨rfl,_,bD.of (Ft _)⟩,ta,_,_,rfl,rfl,Ft _,?_,?_⟩
  ·rw[List.length_map];exact Nat.lt_of_le_of_lt (show ts.length≤100 by lia) (by decide)
  have X0:∀o o',upd (upd H pa o) ta o' f=some (.ins A.aj dx (i5 pa ta z)):=fun o o' =>by rw[ah ft];exact Xx _
  have F3:iS A.aj (upd (upd H pa (.lst (ps.map oV++[V.int t]))) ta (.lst (ts.map oV++[V.bC]))) f pa ta (ps++[some t]) (ts++[none]):=by
   refine⟨⟨dx,z,X0 _ _⟩,?_,?_,ne⟩
   ·rw[ah ne,af,List.map_append];rfl
   ·rw[af,List.map_append];rfl
  refine⟨_,rfl,f,dx,_,rfl,X0 _ _,aR (by decide+kernel),f,pa,ta,_,_,rfl,F3,?_⟩;rw[show(((ps++[some t]).length:Nat):Int) - 1=(ps.length:Int) by rw[List.length_append,List.length_singleton];lia];refine k _ F3 fun c o h1 h2 e=> ?_;rw[ah h2,ah h1];exact e
end
theorem ux(ts:ay)(n t:Nat):(ts.map oV).set n (.int t)=(ts.set n (some t)).map oV:=by
 rw[List.map_set];rfl
theorem pR{n i:Nat}(h:i<n):J2 n (i:Int)=some i:=by
 unfold J2;rw[if_pos (show(0:Int)≤(i:Int) by lia),if_pos (show(i:Int)<(n:Int) by lia),Int.toNat_natCast]
section
variable{P:Program}{w:World}{K:Frag}{mg:Str→aN}{base:Heap}{A:qH}
def Er(C:Addr):Sp:=fun vs H Q _=>∃f pa ta ps ts,∃t:Nat,vs=[.ref f,.int t]∧iS C H f pa ta ps ts∧ps.length=ts.length∧cB ts (t:Int)=true∧t≠0∧Q .bC H
theorem eY(T:Txt K mg A):bu P w K mg base eF 6 A.dh A.cZ ["self","thing"] (Er A.aj):=by
 have bA:=cc (P:=P) (w:=w) (base:=base) T;refine T.km.ok jM (fun vs H Q E h=> ?_) (fun cJ Ar outer s H vs Q E hr h=> ?_)
 ·obtain⟨f,pa,ta,ps,ts,t,rfl,_⟩:=h;rfl
 ·obtain⟨f,pa,ta,ps,ts,t,rfl,F,hl,hb,h0,k⟩:=h;obtain⟨⟨dx,z,ho⟩,hp,ht,ne⟩:=id F;obtain⟨u1,mZ⟩:=T.pO;refine⟨_,(ai (bB (bg (pv 0) T.az T.cq bA hr T.cu .nil aB (aa (pv 1) ae))) (aq (b_ (ba j9 (pv 1) (lx rfl mZ.2 mZ.1) (br _)) (aq dD) bh))),?_⟩;refine⟨_,rfl,f,dx,_,rfl,ho,aR (by decide+kernel),_,rfl,f,pa,ta,ps,ts,t,rfl,F,hl,hb,?_⟩;refine⟨_,rfl,rfl,_,rfl,?_⟩;rw[decide_eq_false (show ¬V.int (t:Int)=V.int 0 by intro z;injection z with z;lia)];exact dH k
def Ra(C:Addr):Sp:=fun vs H Q _=>∃f pa ta ps ts,∃t:Nat,vs=[.ref f,.int t]∧iS C H f pa ta ps ts∧WF ps ts∧
 ∀l H',H l=none→aw H H'→H' l=some (.lst ((bx ps ts t).map nV))→Q (.ref l) H'
theorem mM(T:Txt K mg A):bu P w K mg base eF 6 A.jH A.jS ["self","frame"] (Ra A.aj):=by
 have bS:=(dA (P:=P) (w:=w) (base:=base) T).mono (by decide:_≤5);have yi:=vp (P:=P) (w:=w) (base:=base) T;refine T.vw.ok ue (fun vs H Q E h=> ?_) (fun cJ Ar outer s H vs Q E hr h=> ?_)
 ·obtain⟨f,pa,ta,ps,ts,t,rfl,_⟩:=h;rfl
 ·obtain⟨f,pa,ta,ps,ts,t,rfl,F,W,k⟩:=h;obtain⟨⟨dx,z,ho⟩,hp,ht,ne⟩:=id F;have hl:=W.len;refine⟨_,(aq (aH (b9 (N:=["number","frame","self"]) (k:=1) (js:=[1,0]) rfl (bq (by kernel_rfl)) (zb rfl T.kY (aa (dP (pv 0) T.az T.d7 bS hr T.dZ .nil aB) ae)) (fun _ _ _ _ _=>⟨(a_ (i:=0) (show(["number","frame","self"]:aO).Nodup by decide+kernel) rfl (Or.inl rfl) (Or.inr rfl)),(xm (ba (oO (K:=K) rfl) (pv 1) (bg (pv 2) T.az T.xh yi hr T.xA .nil aB (aa (pv 0) ae)) (by with_unfolding_all rfl))),(pv 0)⟩)))),?_⟩;refine⟨_,rfl,f,dx,_,rfl,ho,aR (by decide+kernel),f,pa,ta,ps,ts,rfl,F,by have:=W.le;lia,fun sl H1 mq s1 zI=> ?_⟩;have F1:=F.same s1;obtain⟨⟨Io,z1,BK⟩,L8,YG,_⟩:=id F1;refine⟨sl,_,rfl,bD.of zI,?_⟩;have hS:((au ts).map nV).reverse=(au ts).reverse.map nV:=by rw[List.map_reverse]
  have Rz:((au ts).map nV).reverse.length=(au ts).reverse.length:=by rw[hS,List.length_map]
  refine gU (fun i=>decide (t∈hZ ps ((au ts).reverse.getD i 0))) (fun i=>nV ((au ts).reverse.getD i 0)) (E4 (bD.of zI)).g ?_ ?_ fun l H2 vi s2 hL=> ?_
  ·rw[Rz,List.length_reverse];refine Nat.le_trans (List.length_filter_le _ _) ?_;rw[List.length_range];have:=W.le;exact Nat.le_trans (show ts.length≤101 by lia) (by decide)
  ·intro i x H' C1 C0 hi sm hx c1 c0;rw[hS,List.getElem?_map] at hx
   cases en:(au ts).reverse[i]? with
   |none=>rw[en] at hx;cases hx
   |some n=>
    rw[en] at hx;cases hx;have ed:(au ts).reverse.getD i 0=n:=by rw[List.getD_eq_getElem?_getD,en];rfl
    have hn:n<ps.length:=by
     have:=tY (List.mem_reverse.mp (List.mem_of_getElem? en))
     lia
    rw[ed] at c1 c0;have F' :=F1.same sm;obtain⟨⟨NY,z',yS⟩,_,_,_⟩:=id F';refine⟨(dU.refl _).own (by decide),_,rfl,_,rfl,f,NY,_,rfl,yS,aR (by decide+kernel),_,rfl,f,pa,ta,ps,ts,n,rfl,F',W,hn,fun rl H3 Ij s3 U7=> ?_⟩;refine⟨rl,_,rfl,.inl (bD.of U7),rfl,lF _,_,rfl,?_⟩;have e:EC (V.int (t:Int)) ((hZ ps n).map nV)=decide (t∈hZ ps n):=ug t _;show if EC (V.int (t:Int)) ((hZ ps n).map nV)=true then _ else _
    rw[e]
    cases hd:decide (t∈hZ ps n) with
    |true=>exact eT ⟨_,rfl,c1 hd H3 s3⟩
    |false=>exact dH (c0 hd H3 s3)
  ·rw[Rz] at hL
   have hL:H2 l=some (.lst ((bx ps ts t).map nV)):=by
    rw[hL];exact congrArg (fun z=>some (HO.lst z)) (lM (au ts).reverse (fun n=>decide (t∈hZ ps n)) nV)
   exact k l H2 (s1.free vi) (s1.trans s2) hL
def GK(C:Addr):Sp:=fun vs H Q _=>∃f pa ta ps ts,∃t:Nat,vs=[.ref f,.int t]∧iS C H f pa ta ps ts∧WF ps ts∧cB ts (t:Int)=true∧t≠0∧
 ∀l H',H l=none→H' l=some (.lst ((bx ps ts t).map nV))→iS C H' f pa ta ps (wP t (bx ps ts t) ts)→ma pa ta H H'→Q (.ref l) H'
theorem rJ(T:Txt K mg A):bu P w K mg base eF 7 A.iI A.iC ["self","frame"] (GK A.aj):=by
 have dt:=eY (P:=P) (w:=w) (base:=base) T;have jP:=mM (P:=P) (w:=w) (base:=base) T;refine T.sM.ok gR (fun vs H Q E h=> ?_) (fun cJ Ar outer s H vs Q E hr h=> ?_)
 ·obtain⟨f,pa,ta,ps,ts,t,rfl,_⟩:=h;rfl
 ·obtain⟨f,pa,ta,ps,ts,t,rfl,F,W,hb,h0,k⟩:=h;obtain⟨⟨dx,z,ho⟩,hp,ht,ne⟩:=id F;have hl:=W.len;have fp:f≠pa:=aG ho hp (by intro z;cases z);have ft:f≠ta:=aG ho ht (by intro z;cases z);refine⟨_,(ai (bB (bg (pv 0) T.az T.fJ dt hr T.fH .nil aB (aa (pv 1) ae))) (ai (aZ (i:=2) gR.nd rfl (Or.inl rfl) (bg (pv 0) T.az T.nS jP hr T.nR .nil aB (aa (pv 1) ae))) (ai (ir PassesOwn.never rfl (cQ (pv 2)) (a_ (i:=3) gR.nd rfl (Or.inl rfl) (Or.inl rfl)) (aq (oF (pv 1) (o8 (dr (pv 0) rfl) (pv 3) wS)))) (aq (aH (pv 2)))))),?_⟩;refine⟨_,rfl,f,dx,_,rfl,ho,aR (by decide+kernel),_,rfl,f,pa,ta,ps,ts,t,rfl,F,hl,hb,h0,?_⟩;refine⟨_,rfl,f,dx,_,rfl,ho,aR (by decide+kernel),_,rfl,f,pa,ta,ps,ts,t,rfl,F,W,fun l H2 Ec MC hL=> ?_⟩
  ·have F2:=F.same MC;obtain⟨⟨dx2,z2,Xx⟩,A3,Ft,_⟩:=id F2
   have gB:l≠ta:=fun z=>by
    rw[z,ht] at Ec;cases Ec
   refine⟨_,rfl,l,rfl,⟨_,bD.of hL⟩,?_⟩;refine fi (K:=K) (a:=l) (xs:=(bx ps ts t).map nV) (fun i σ H3=>∃(x:Option V),σ=[some (.ref f),some (.int t),some (.ref l),x]∧H3=upd H2 ta (.lst ((wP t ((bx ps ts t).take i) ts).map oV))) ⟨none,rfl,?_⟩ ?_ ?_ ?_
   ·show H2=upd H2 ta (.lst (ts.map oV))
    funext c
    by_cases hc:c=ta
    ·subst hc;rw[af];exact Ft
    ·rw[ah hc]
   ·rintro i σ H3 _ ⟨x,rfl,rfl⟩
    exact bD.of (by rw[ah gB];exact hL)
   ·rintro i x σ H3 hi ⟨x',rfl,rfl⟩
    rw[List.getElem?_map] at hi
    cases en:(bx ps ts t)[i]? with
    |none=>rw[en] at hi;cases hi
    |some n=>
     rw[en] at hi;cases hi;have hn:=Jw (List.mem_of_getElem? en);refine⟨_,rfl,_,rfl,f,A.aj,dx2,_,_,rfl,(by rw[ah ft];exact Xx),T.az,T.dq,tZ _ _ _,_,rfl,ta,_,_,n,rfl,rfl,af,pR (by rw[List.length_map,mK];exact hn),?_⟩;refine⟨_,rfl,?_⟩;rw[yy]
     have e1:(bx ps ts t).take (i+1)=(bx ps ts t).take i++[n]:=by
      rw[List.take_add_one,en];rfl
     rw[e1,rQ,←ux]
   ·rintro σ H3 ⟨x,rfl,rfl⟩
    rw[List.length_map,List.take_length];refine⟨_,rfl,k l _ Ec (by rw[ah gB];exact hL) ⟨⟨dx2,z2,by rw[ah ft];exact Xx⟩,by rw[ah ne];exact A3,af,ne⟩ fun c o h1 h2 e=> ?_⟩;rw[ah h2];exact MC c o e
end
def Kept(b:Addr)(H H' :Hp):Prop:=∀c o,c≠b→H c=some o→H' c=some o
section
variable{P:Program}{w:World}{K:Frag}{mg:Str→aN}{base:Heap}{A:qH}
def RC(K:Frag):Sp:=fun vs H Q _=>∃(a:Addr) (ns:List Int) (k:Int),vs=[.ref a,.int k]∧bD K H a (ns.map V.int)∧0≤k∧k<1000∧∀c,Q (.int c) H
theorem xa(T:Txt K mg A):bu P w K mg base eF 1 A.ni A.nq ["_law_script","_law_k"] (RC K):=by
 refine T.sy.ok yf (fun vs H Q E h=> ?_) (fun cJ Ar outer s H vs Q E hr h=> ?_)
 ·obtain⟨a,ns,k,rfl,_⟩:=h;rfl
 ·obtain⟨a,ns,k,rfl,hS,h0,h1,q⟩:=h;refine⟨_,(ai (b_ (ba AL (pv 1) (aT bp (by rfl) T.fK Boot.«len» (aa (pv 0) ae)) (br _)) (aq (aH (bb bj (pv 0) (pv 1) (fun _ _=>rfl)))) bh) (aq (aH (bt fz (bt oz ao (pv 1)) ao)))),?_⟩;refine⟨_,rfl,_,rfl,a,_,rfl,.inl hS,k,_,rfl,rfl,_,rfl,?_⟩;refine oH (fun hk=> ?_) (fun hk=> ?_)
  ·have hk:=of_decide_eq_true hk;rw[List.length_map] at hk;obtain⟨j,rfl⟩:∃j:Nat,k=j:=⟨k.toNat,by lia⟩;have hj:j<ns.length:=by lia
   exact⟨_,rfl,_,rfl,a,_,_,_,rfl,rfl,hS,d5 (v:= .int ns[j]) (by simp[hj]),q _⟩
  ·exact⟨_,rfl,15485863,k,rfl,rfl,.inl ⟨by decide,by decide⟩,_,_,rfl,rfl,q _⟩
def bH(H:Hp)(b:Addr)(k:Nat):Prop:=∃(x y z:Int),H b=some (.lst [.int x,.int y,.int z])∧0≤x∧0≤y∧y<2147483629∧0≤z∧z≤(k:Int)
def vd(b:Addr)(H H' :Hp):Prop:=∀c,c≠b→H' c=H c
theorem vd.upd{b:Addr}{H:Hp}{o:HO}:vd b H (upd H b o):=fun c hc=>ah hc
theorem vd.kept{b:Addr}{H H' :Hp}(h:vd b H H'):Kept b H H' :=fun c o hc e=>(h c hc).trans e
theorem Kept.refl(b:Addr)(H:Hp):Kept b H H:=fun _ _ _ e=>e
theorem Kept.trans{b:Addr}{H H1 H2:Hp}(h:Kept b H H1)(h' :Kept b H1 H2):Kept b H H2:=fun c o hc e=>h' c o hc (h c o hc e)
theorem _root_.L2.aw.kept{b:Addr}{H H' :Hp}(h:aw H H'):Kept b H H' :=fun c o _ e=>h c o e
theorem bH.same{b:Addr}{k:Nat}{H H' :Hp}(B:bH H b k)(h:aw H H'):bH H' b k:=by
 obtain⟨x,y,z,hb,r⟩:=B;exact⟨x,y,z,h _ _ hb,r⟩
theorem bH.mono{b:Addr}{k j:Nat}{H:Hp}(B:bH H b k)(h:k≤j):bH H b j:=by
 obtain⟨x,y,z,hb,h1,h2,h3,h4,h5⟩:=B;exact⟨x,y,z,hb,h1,h2,h3,h4,by lia⟩
theorem bH.ne{b p:Addr}{k:Nat}{H:Hp}(B:bH H b k)(h:H p=none):p≠b:=by
 obtain⟨x,y,z,hb,_⟩:=B;exact(ak hb h).symm
theorem mG{K:Frag}{H:Hp}{p:Addr}{xs:ax}{i:Int}{Q:VK}(Pv:V→Prop)(h:H p=some (.lst xs))(h0:0≤i)(h1:i<xs.length)(hP:∀x∈xs,Pv x)(q:∀v,Pv v→Q v H):RQ K (.ref p) (.int i) H Q:=by
 obtain⟨j,rfl⟩:∃j:Nat,i=j:=⟨i.toNat,by lia⟩;have hj:j<xs.length:=by lia
 exact⟨p,xs,j,xs[j],rfl,rfl,bD.of h,d5 (by simp[hj]),q _ (hP _ (List.getElem_mem hj))⟩
def WK:Sp:=fun vs H Q _=>∃c,vs=[.int c]∧∀b H',H b=none→bH H' b 0→aw H H'→Q (.ref b) H'
theorem zo(T:Txt K mg A):bu P w K mg base eF 1 A.oM A.pA ["_law_cell_here"] WK:=by
 refine T.uy.ok y3 (fun vs H Q E h=> ?_) (fun cJ Ar outer s H vs Q E hr h=> ?_)
 ·obtain⟨c,rfl,_⟩:=h;rfl
 ·obtain⟨c,rfl,q⟩:=h;refine⟨_,(aq (aH (b7 (aa (aT (nE rfl) (by rfl) T.wA Boot.«max» (aa ao (aa (bt mI (pv 0) (bt vc ao ao)) ae))) (aa (bt iY (pv 0) ao) (aa ao ae)))))),?_⟩;refine⟨_,rfl,10,18,rfl,rfl,⟨by decide,by decide,by decide⟩,c,_,rfl,rfl,0,_,rfl,?_⟩;refine⟨_,rfl,c,2147483629,rfl,rfl,(show(0:Int)<2147483629 by decide),(show 3≤sizeLine by decide),fun p hp=> ?_⟩;refine q p _ hp ⟨_,_,0,af,?_,?_,?_,by decide,by decide⟩ (aw.upd hp)
  ·split<;>lia
  ·lia
  ·lia
theorem QT{n:Int}(h0:0<n)(h:n<1606938044258990275541962092341162602522202993782792835301376):n.natAbs.log2<9000:=by
 have h1:n.natAbs≠0:=by lia
 have h2:n.natAbs<2 ^ 200:=by
  have e:(2:Nat) ^ 200=1606938044258990275541962092341162602522202993782792835301376:=by decide+kernel
  lia
 exact Nat.lt_trans ((Nat.log2_lt h1).mpr h2) (by decide)
def QF:Sp:=fun vs H Q _=>∃(b:Addr) (n:Int) (k:Nat),vs=[.ref b,.int n]∧bH H b k∧k≤100000∧0<n∧n<1606938044258990275541962092341162602522202993782792835301376∧
 ∀(r:Int) (H' :Hp),0≤r→r<n→bH H' b (k+1)→vd b H H'→Q (.int r) H'
theorem gj(T:Txt K mg A):bu P w K mg base eF 1 A.mS A.nj ["_law_box_here","_law_many"] QF:=by
 refine T.aU.ok iO (fun vs H Q E h=> ?_) (fun cJ Ar outer s H vs Q E hr h=> ?_)
 ·obtain⟨b,n,k,rfl,_⟩:=h;rfl
 ·obtain⟨b,n,k,rfl,⟨x,y,z,hb,hx,hy,hy2,hz,hz2⟩,hk,hn,SH,q⟩:=h;refine⟨_,(ai (b_ (ba CG (bb bj (pv 0) ao (fun _ _=>rfl)) ao (br _)) (ai (aZ (i:=2) iO.nd rfl (Or.inl rfl) (bt iY (bb bj (pv 0) ao (fun _ _=>rfl)) (pv 1))) (ai (oF (bt Ad (bb bj (pv 0) ao (fun _ _=>rfl)) (pv 1)) (o8 (pv 0) ao wS)) (aq (aH (pv 2))))) bh) (ai (oF (bt fz (bb bj (pv 0) ao (fun _ _=>rfl)) ao) (o8 (pv 0) ao wS)) (ai (aZ (i:=3) iO.nd rfl (Or.inl rfl) (bt iY (bt vc (bt fz (bt fz (bb bj (pv 0) ao (fun _ _=>rfl)) (bt oz ao (bb bj (pv 0) ao (fun _ _=>rfl)))) ao) ao) ao)) (ai (aZ (i:=3) iO.nd rfl (Or.inl rfl) (bt iY (bt vc (bt fz (pv 3) (bt oz ao (bb bj (pv 0) ao (fun _ _=>rfl)))) ao) ao)) (aq (aH (bt iY (bt Ad (pv 3) ao) (pv 1)))))))),?_⟩;refine⟨_,rfl,b,_,_,_,rfl,rfl,bD.of hb,rfl,_,_,rfl,rfl,_,rfl,?_⟩;refine oH (fun h0=> ?_) (fun h0=> ?_)
  ·refine⟨_,rfl,b,_,_,_,rfl,rfl,bD.of hb,rfl,_,rfl,x,n,rfl,rfl,hn,?_⟩;refine⟨_,rfl,b,_,_,_,rfl,rfl,bD.of hb,rfl,_,rfl,x,n,rfl,rfl,⟨hn,QT hn SH⟩,?_⟩;refine⟨_,rfl,b,_,0,0,rfl,rfl,hb,rfl,?_⟩;refine⟨_,rfl,q _ _ (Int.emod_nonneg _ (by lia)) (Int.emod_lt_of_pos _ hn) ⟨_,y,z,af,Int.ediv_nonneg hx (by lia),hy,hy2,hz,by lia⟩ vd.upd⟩
  ·refine⟨_,rfl,b,_,_,_,rfl,rfl,bD.of hb,rfl,z,1,rfl,rfl,?_⟩;refine⟨_,rfl,b,_,2,2,rfl,rfl,hb,rfl,?_⟩;have Kl :upd H b (.lst [.int x,.int y,.int (z+1)]) b=some (.lst [.int x,.int y,.int (z+1)]):=af;refine⟨_,rfl,b,_,_,_,rfl,rfl,bD.of Kl,rfl,_,rfl,b,_,_,_,rfl,rfl,bD.of Kl,rfl,7919,z+1,rfl,rfl,.inl ⟨by decide,by decide⟩,y,_,rfl,rfl,_,29,rfl,rfl,_,5,rfl,rfl,⟨by decide,by decide,?_⟩,_,2147483647,rfl,rfl,(show(0:Int)<2147483647 by decide),?_⟩
   ·lia
   dsimp only;generalize e1:(y+7919*(z+1)+29) ^ (5:Int).toNat % 2147483647=one;have b1:0≤one:=by rw[←e1];exact Int.emod_nonneg _ (by decide)
   have b2:one<2147483647:=by rw[←e1];exact Int.emod_lt_of_pos _ (by decide)
   refine⟨_,rfl,_,rfl,b,_,_,_,rfl,rfl,bD.of Kl,rfl,104729,z+1,rfl,rfl,.inl ⟨by decide,by decide⟩,one,_,rfl,rfl,_,3,rfl,rfl,⟨by decide,by decide,?_⟩,_,2147483629,rfl,rfl,(show(0:Int)<2147483629 by decide),?_⟩
   ·lia
   dsimp only;generalize e2:(one+104729*(z+1)) ^ (3:Int).toNat % 2147483629=other;have b3:0≤other:=by rw[←e2];exact Int.emod_nonneg _ (by decide)
   refine⟨_,rfl,other,8,rfl,rfl,⟨by decide,by decide⟩,_,rfl,_,n,rfl,rfl,hn,?_⟩;exact q _ _ (Int.emod_nonneg _ (by lia)) (Int.emod_lt_of_pos _ hn) ⟨x,y,z+1,af,hx,hy,hy2,by lia,by lia⟩ vd.upd
end
def oD:Option Nat→PyData
 |none=> .none
 |some n=> .int n
theorem rE(H:Hp):∀xs:ay,DatAll H (xs.map oV) (xs.map oD)
 |[]=> .nil
 |none::r=> .cons .bC (rE H r)
 |some n::r=> .cons (.int n) (rE H r)
theorem Fb{n:Nat}(h:n≤1000):(n:Int).natAbs.log2<1920:=by
 have h1:(n:Int).natAbs=n:=Int.natAbs_natCast n;rw[h1];have:=Nat.log2_le_self n
 lia
abbrev Rm:=List (Nat×Nat)
def bF(R:Rm)(n:Nat):Nat:=((R.filter fun r=>r.1==n).map (·.2)).sum
def HN(ts:ay)(R:Rm):Nat:=((au ts).map (bF R)).sum
def cg(ts:ay)(R:Rm):Nat:=((R.filter fun r=>ts[r.1]? ==some none).map (·.2)).sum
theorem jai(S:List Nat)(f g:Nat→Nat):(S.map fun n=>f n+g n).sum=(S.map f).sum+(S.map g).sum:=by
 induction S with
 |nil=>rfl
 |cons a S ih=>
  simp only[List.map_cons,List.sum_cons,ih]
  lia
theorem CM(a b:Nat):∀S:List Nat,S.Nodup→(S.map fun n=>if a==n then b else 0).sum=if a∈S then b else 0
 |[],_=>by simp
 |c::S,h=>by
  obtain⟨h1,h2⟩:=List.nodup_cons.mp h;rw[List.map_cons,List.sum_cons,CM a b S h2];by_cases e:a=c
  ·subst e;rw[if_neg h1];simp
  ·have:(a==c)=false:=by simpa using e
   rw[this];simp[e]
theorem HS(n:Nat):bF [] n=0:=rfl
theorem rB(r:Nat×Nat)(R:Rm)(n:Nat):bF (r::R) n=(if r.1==n then r.2 else 0)+bF R n:=by
 unfold bF;rw[List.filter_cons];cases r.1==n<;>simp
theorem jw(ts:ay):(au ts).Nodup:=List.Pairwise.filter _ List.nodup_range
theorem cw{ts:ay}{n:Nat}:n∈au ts↔(ts[n]? ==some none)=true:=by
 rw[EB];unfold cB;rw[decide_eq_true (show(0:Int)≤n by lia),Bool.true_and,Int.toNat_natCast]
theorem C5(ts:ay):∀R:Rm,HN ts R=cg ts R
 |[]=>by
  unfold HN cg;simp only[HS,List.filter_nil,List.map_nil,List.sum_nil]
  induction au ts with
  |nil=>rfl
  |cons a S ih=>
   rw[List.map_cons,List.sum_cons,ih];rfl
 |r::R=>by
  have ih:=C5 ts R
  have e:(au ts).map (bF (r::R))=(au ts).map fun n=>(if r.1==n then r.2 else 0)+bF R n:=by
   congr 1
   funext n
   exact rB r R n
  unfold HN at ih ⊢;rw[e,jai,CM _ _ _ (jw ts),ih];unfold cg;rw[List.filter_cons];by_cases q:(ts[r.1]? ==some none)=true
  ·rw[if_pos (cw.mpr q),q];simp
  ·rw[if_neg (fun z=>q (cw.mp z))];simp only[Bool.not_eq_true] at q;rw[q];simp
theorem rb(R:Rm)(t k n:Nat):bF (R++[(t,k)]) n=bF R n+(if t==n then k else 0):=by
 unfold bF;rw[List.filter_append,List.map_append,List.sum_append]
 congr 1
 cases e:t==n<;>simp[e]
theorem oB{ts:ay}(R:Rm){t:Nat}(k:Nat)(h:ts[t]? =some none):cg ts (R++[(t,k)])=cg ts R+k:=by
 unfold cg;rw[List.filter_append,List.map_append,List.sum_append]
 congr 1
 simp[h]
theorem CH{R:Rm}(h:∀r∈R,r.2≤6)(n:Nat):bF R n≤6*R.length:=by
 induction R with
 |nil=>simp[bF]
 |cons r R ih=>
  have h1:=ih fun r hr=>h r (List.mem_cons_of_mem _ hr);have h2:=h r List.mem_cons_self;rw[rB,List.length_cons]
  split<;>lia
theorem zF(ts:ay){R:Rm}(h:∀r∈R,r.1<ts.length):cg (ts++[none]) R=cg ts R:=by
 unfold cg
 congr 2
 refine List.filter_congr fun r hr=> ?_;rw[List.getElem?_append_left (h r hr)]
theorem nZ{α:Type}(p q:α→Bool)(f:α→Nat):∀R:List α,(∀r∈R,p r=true→q r=true)→((R.filter p).map f).sum≤((R.filter q).map f).sum
 |[],_=>by simp
 |r::R,h=>by
  have ih:=nZ p q f R fun x hx=>h x (List.mem_cons_of_mem _ hx);have h1:=h r List.mem_cons_self;rw[List.filter_cons,List.filter_cons]
  cases hp:p r with
  |true=>rw[h1 hp];simpa using ih
  |false=>
   cases q r with
   |true=>simp only[Bool.false_eq_true,if_false,if_true,List.map_cons,List.sum_cons];lia
   |false=>simpa using ih
theorem nG{t:Nat}:∀(E:List Nat) (ts:ay) (i:Nat),(wP t E ts)[i]? =some none→ts[i]? =some none
 |[],ts,i,h=>h
 |n::r,ts,i,h=>by
  have h1:=nG r (ts.set n (some t)) i h;rw[List.getElem?_set] at h1
  split at h1
  ·split at h1<;>cases h1
  ·exact h1
theorem yJ(t:Nat)(E:List Nat)(ts:ay)(R:Rm):cg (wP t E ts) R≤cg ts R:=by
 refine nZ _ _ _ R fun r _ h=> ?_;rw[nG E ts r.1 (eq_of_beq h)];rfl
theorem IF(S:List Nat)(f:Nat→Nat):(S.map fun n=>((f n:Nat):Int)).sum=(((S.map f).sum:Nat):Int):=by
 induction S with
 |nil=>rfl
 |cons a S ih=>
  simp only[List.map_cons,List.sum_cons,ih]
  lia
theorem j_{H:Hp}{a c:Addr}{o:HO}(z:c=a):upd H a o c=some o:=by
 rw[z];exact af
theorem sA{α:Type}(S:List α)(z:α):S=(List.range S.length).map fun i=>S.getD i z:=by
 apply List.ext_getElem?;intro i;rw[List.getElem?_map];by_cases h:i<S.length
 ·rw[List.getElem?_range h];simp[List.getD_eq_getElem?_getD,h]
 ·rw[List.getElem?_eq_none (by lia),List.getElem?_eq_none (by rw[List.length_range];lia)];rfl
theorem ou{α β:Type}(S:List α)(z:α)(p:α→Bool)(g:α→β):((List.range S.length).filter fun i=>p (S.getD i z)).map (fun i=>g (S.getD i z))=(S.filter p).map g:=by
 conv=>rhs;rw[sA S z]
 rw[List.filter_map,List.map_map];rfl
def aS(R:Rm)(t:Nat):List Nat:=(List.range R.length).filter fun i=>(R.getD i (0,0)).1==t
theorem Lx(R:Rm)(t:Nat):((aS R t).map fun i=>(R.getD i (0,0)).2).sum=bF R t:=by
 unfold aS bF;rw[ou R (0,0) (fun r=>r.1==t) (fun r=>r.2)]
theorem dy{R:Rm}{t i:Nat}(h:i∈aS R t):i<R.length:=List.mem_range.mp (List.mem_filter.mp h).1
theorem iU(R:Rm)(t:Nat):(aS R t).length≤R.length:=by
 unfold aS;refine Nat.le_trans (List.length_filter_le _ _) ?_;rw[List.length_range];exact Nat.le_refl _
def bc(R:Rm)(i:Nat):Nat:=bF (R.take i) (R.getD i (0,0)).1
def cH(R:Rm)(rs:aY)(n:Nat):bG:=(aS R n).map fun i=>(Sum.inl (bc R i:Int),V.ref (rs.getD i 0))
structure HA where
 f:Addr
 pa:Addr
 ta:Addr
 fa:Addr
 la:Addr
 own:aY
def RM(kv:bG):Prop:=∀p∈kv,∃(n:Nat) (b:Addr),p=(.inl (n:Int),.ref b)∧bN kv (.inl (n:Int))=some (.ref b)
theorem Jy{kv:bG}(h:RM kv){t:Nat}{b:Addr}(hv:bN kv (.inl (t:Int))=none):RM (wp kv (.inl (t:Int)) (.ref b)):=by
 intro p hp;rw[ql _ hv] at hp;rcases List.mem_append.mp hp with hp|hp
 ·obtain⟨n,c,e1,e2⟩:=h p hp;refine⟨n,c,e1,?_⟩;rw[m4,if_neg (fun q=> ?_)]
  ·exact e2
  ·rw[q,hv] at e2;cases e2
 ·have hp:p=(.inl (t:Int),.ref b):=by simpa using hp
  exact⟨t,b,hp,by rw[m4,if_pos rfl]⟩
structure aQ(C:Addr)(H:Hp)(a:HA)(ps ts:ay)(L pk:Nat)(R:Rm)(N:Nat)(rs:aY)(cs:cE):Prop where
 ob:∃dx,H a.f=some (.ins C dx (i5 a.pa a.ta ⟨.int L,.ref a.fa,.ref a.la,.int pk⟩))
 pl:H a.pa=some (.lst (ps.map oV))
 tl:H a.ta=some (.lst (ts.map oV))
 ne:a.pa≠a.ta
 fl:∃kv,H a.fa=some (.dK kv)∧(kv.length≤N∧RM kv)∧(∀n:Nat,(bN kv (.inl (n:Int))=none∧aS R n=[])∨∃b,bN kv (.inl (n:Int))=some (.ref b)∧b∈a.own∧b≠a.fa∧b≠a.la∧H b=some (.dK (cH R rs n)))∧∀(n n' :Nat) (b:Addr),bN kv (.inl (n:Int))=some (.ref b)→bN kv (.inl (n' :Int))=some (.ref b)→n=n'
 ln:∃kv,H a.la=some (.dK kv)∧kv.length≤N∧∀n:Nat,(bN kv (.inl (n:Int))).getD (.int 0)= .int (bF R n)
 FA:a.fa≠a.la
 rl:rs.length=R.length
 rm:∀(i:Nat) (b:Addr),rs[i]? =some b→b∈a.own∧b≠a.pa∧b≠a.ta∧∃vs,cs[i]? =some vs∧H b=some (.lst vs)
 rn:rs.Nodup
 Aj:a.f∈a.own∧a.pa∈a.own∧a.ta∈a.own∧a.fa∈a.own∧a.la∈a.own
 al:∀c∈a.own,∃o,H c=some o
section
variable{C:Addr}{H H' :Hp}{a:HA}{ps ts FC ts' :ay}{L pk:Nat}{R:Rm}{N:Nat}{rs:aY}{cs:cE}
theorem aQ.fr(h:aQ C H a ps ts L pk R N rs cs):iS C H a.f a.pa a.ta ps ts:=⟨h.ob.imp fun _ e=>⟨_,e⟩,h.pl,h.tl,h.ne⟩
theorem aQ.kept(h:aQ C H a ps ts L pk R N rs cs)(k:∀c o,c∈a.own→H c=some o→H' c=some o):aQ C H' a ps ts L pk R N rs cs:=by
 obtain⟨⟨dx,ob⟩,pl,tl,ne,⟨kv,f1,f2,f3,f4⟩,⟨kw,l1,l2,l3⟩,FA,rl,rm,rn,⟨o1,o2,o3,o4,o5⟩,al⟩:=h;refine⟨⟨dx,k _ _ o1 ob⟩,k _ _ o2 pl,k _ _ o3 tl,ne,⟨kv,k _ _ o4 f1,f2,fun n=> ?_,f4⟩,⟨kw,k _ _ o5 l1,l2,l3⟩,FA,rl,fun i b e=> ?_,rn,⟨o1,o2,o3,o4,o5⟩,fun c hc=>(al c hc).imp fun o e=>k c o hc e⟩
 ·rcases f3 n with h|⟨b,e1,e2,e3,e4,e5⟩
  ·exact .inl h
  ·exact .inr ⟨b,e1,e2,e3,e4,k _ _ e2 e5⟩
 ·obtain⟨e1,e2,e3,vs,e4,e5⟩:=rm i b e;exact⟨e1,e2,e3,vs,e4,k _ _ e1 e5⟩
theorem aQ.same(h:aQ C H a ps ts L pk R N rs cs)(s:aw H H'):aQ C H' a ps ts L pk R N rs cs:=h.kept fun c o _ e=>s c o e
theorem aQ.frames(h:aQ C H a ps ts L pk R N rs cs)(F:iS C H' a.f a.pa a.ta FC ts')(k:ma a.pa a.ta H H'):aQ C H' a FC ts' L pk R N rs cs:=by
 obtain⟨⟨dx,ob⟩,pl,tl,ne,⟨kv,f1,f2,f3,f4⟩,⟨kw,l1,l2,l3⟩,FA,rl,rm,rn,o,al⟩:=h;have dif:∀{c:Addr} {kv:bG},H c=some (.dK kv)→H' c=some (.dK kv):=fun e=>k _ _ (aG e pl (by intro z;cases z)) (aG e tl (by intro z;cases z)) e;refine⟨⟨dx,k _ _ (aG ob pl (by intro z;cases z)) (aG ob tl (by intro z;cases z)) ob⟩,F.pl,F.tl,ne,⟨kv,dif f1,f2,fun n=> ?_,f4⟩,⟨kw,dif l1,l2,l3⟩,FA,rl,fun i b e=> ?_,rn,o,fun c hc=> ?_⟩
 ·rcases f3 n with h|⟨b,e1,e2,e3,e4,e5⟩
  ·exact .inl h
  ·exact .inr ⟨b,e1,e2,e3,e4,dif e5⟩
 ·obtain⟨e1,e2,e3,vs,e4,e5⟩:=rm i b e;exact⟨e1,e2,e3,vs,e4,k _ _ e2 e3 e5⟩
 ·by_cases z1:c=a.pa
  ·exact⟨_,z1▸F.pl⟩
  ·by_cases z2:c=a.ta
   ·exact⟨_,z2▸F.tl⟩
   ·exact(al c hc).imp fun o e=>k c o z1 z2 e
end
structure Good(ps ts:ay)(L pk:Nat)(R:Rm):Prop where
 W:WF ps ts
 g:ts[0]? =some none
 rw:∀r∈R,1≤r.2∧r.2≤6∧r.1<ps.length
 lo:1≤L
 hi:L≤1000
 use:cg ts R≤L
 pk:pk≤1000
theorem Good.ts{ps ts:ay}{L pk:Nat}{R:Rm}(G:Good ps ts L pk R):ts.length≤101:=by
 have:=G.W.le;have:=G.W.len
 lia
theorem gk(ts:ay):(au ts).length≤ts.length:=by
 unfold au;refine Nat.le_trans (List.length_filter_le _ _) ?_;rw[List.length_range];exact Nat.le_refl _
section
variable{P:Program}{w:World}{K:Frag}{mg:Str→aN}{base:Heap}{A:qH}
def RT(C:Addr):Sp:=fun vs H Q _=>∃a ps ts L pk R N rs cs,vs=[.ref a.f]∧aQ C H a ps ts L pk R N rs cs∧(∀r∈R,r.2≤6)∧R.length≤2000∧ts.length≤101∧∀H',aw H H'→Q (.int (cg ts R)) H'
theorem nY(T:Txt K mg A):bu P w K mg base eF 2 A.kE A.lT ["self"] (RT A.aj):=by
 have bS:=dA (P:=P) (w:=w) (base:=base) T;refine T.yE.ok vO (fun vs H Q E h=> ?_) (fun cJ Ar outer s H vs Q E hr h=> ?_)
 ·obtain⟨a,ps,ts,L,pk,R,N,rs,cs,rfl,_⟩:=h;rfl
 ·obtain⟨a,ps,ts,L,pk,R,N,rs,cs,rfl,F,h6,hR,hT,k⟩:=h;obtain⟨dx,ho⟩:=F.ob;have hu:=dv hr;refine⟨_,(aq (aH (aT (zy rfl) (by rfl) T.Dc Boot.«sum» (aa (b9 (N:=["number","self"]) (k:=1) (js:=[0]) rfl (bq (by kernel_rfl)) (cQ (dP (pv 0) T.az T.d7 bS hr T.dZ .nil aB)) (fun _ _ _ _ _=>⟨(a_ (i:=0) (show(["number","self"]:aO).Nodup by decide+kernel) rfl (Or.inl rfl) (Or.inr rfl)),qF,(pK hu (Mm (K:=K) rfl (pv 1) rfl) (pv 0) ao ⟨rfl,rfl,rfl,rfl⟩)⟩)) ae)))),?_⟩;refine⟨_,rfl,a.f,dx,_,rfl,ho,aR (by decide+kernel),a.f,a.pa,a.ta,ps,ts,rfl,F.fr,by lia,fun sl H1 mq s1 zI=> ?_⟩;refine⟨sl,rfl,⟨_,bD.of zI⟩,?_⟩;have F1:=F.same s1
  have hle:((au ts).map nV).length≤101:=by
   rw[List.length_map];exact Nat.le_trans (gk ts) hT
  refine wc (fun _=>true) (fun v=>match v with| .int i=> .int (bF R i.toNat)|_=> .bC) (gJ (bD.of zI)) (Nat.le_trans hle (by decide)) ?_ fun p hp=> ?_
  ·intro i x H' C1 C0 hx sm c1 c0;rw[List.getElem?_map] at hx
   cases en:(au ts)[i]? with
   |none=>rw[en] at hx;cases hx
   |some n=>
    rw[en] at hx;cases hx;have F' :=F1.same sm;obtain⟨NY,yS⟩:=F'.ob;obtain⟨kv,l1,l2,l3⟩:=F'.ln;refine⟨(dU.refl _).own (by decide),eT (B:=C0 H') ⟨_,rfl,a.f,A.aj,NY,_,_,rfl,yS,T.az,T.fk,Be _ _ _,a.la,rfl,.inl ⟨_,.inl l1⟩,_,rfl,_,eK.k (k:= .inl (n:Int)) l1,?_⟩⟩;have e:=l3 n;have c:=c1 rfl;show C1 ((bN kv (.inl (n:Int))).getD (V.int 0)) H';rw[e];exact c
  ·have el:(((au ts).map nV).filter fun _=>true).map (fun v=>match v with| .int i=>V.int (bF R i.toNat)|_=> .bC)=((au ts).map fun n=>((bF R n:Nat):Int)).map V.int:=by
    rw[List.filter_eq_self.mpr (fun _ _=>rfl),List.map_map,List.map_map];rfl
   rw[el];refine⟨p,_,rfl,af,?_,?_,?_⟩
   ·rw[List.length_map];exact Nat.le_trans (gk ts) (by lia)
   ·intro n hn;obtain⟨m,_,rfl⟩:=List.mem_map.mp hn;have:=CH h6 m
    lia
   ·rw[IF];have:=k _ (s1.trans (aw.upd (o:= .lst (((au ts).map fun n=>((bF R n:Nat):Int)).map V.int)) hp));rw[←C5] at this;exact this
def RE(C:Addr):Sp:=fun vs H Q _=>∃a ps ts L pk R N rs cs,vs=[.ref a.f]∧aQ C H a ps ts L pk R N rs cs∧(∀r∈R,r.2≤6)∧R.length≤2000∧ts.length≤101∧∀H',aw H H'→Q (.int ((L:Int) - (cg ts R:Nat))) H'
theorem vF(T:Txt K mg A):bu P w K mg base eF 3 A.k_ A.ku ["self"] (RE A.aj):=by
 have lP:=nY (P:=P) (w:=w) (base:=base) T;refine T.xt.ok vo (fun vs H Q E h=> ?_) (fun cJ Ar outer s H vs Q E hr h=> ?_)
 ·obtain⟨a,ps,ts,L,pk,R,N,rs,cs,rfl,_⟩:=h;rfl
 ·obtain⟨a,ps,ts,L,pk,R,N,rs,cs,rfl,F,h6,hR,hT,k⟩:=h;obtain⟨dx,ho⟩:=F.ob;refine⟨_,(aq (aH (bt mI (dr (pv 0) rfl) (dP (pv 0) T.az T.qz lP hr T.qG .nil aB)))),?_⟩;exact⟨_,rfl,a.f,A.aj,dx,_,_,rfl,ho,T.az,T.jG,GR _ _ _,_,rfl,a.f,dx,_,rfl,ho,aR (by decide+kernel),a,ps,ts,L,pk,R,N,rs,cs,rfl,F,h6,hR,hT,fun H' s1=>⟨_,_,rfl,rfl,k H' s1⟩⟩
end
theorem tX(f:Str)(v w:V):∀fs:jz,cF f v (cF f w fs)=cF f v fs
 |[]=>by
  show(if f=f then(f,v)::[] else _)=_;rw[if_pos rfl];rfl
 |(g,x)::r=>by
  show cF f v (if g=f then(g,w)::r else(g,x)::cF f w r)=if g=f then(g,v)::r else(g,x)::cF f v r
  by_cases h:g=f
  ·rw[if_pos h,if_pos h];show(if g=f then(g,v)::r else _)=_;rw[if_pos h]
  ·rw[if_neg h,if_neg h];show(if g=f then _ else(g,x)::cF f v (cF f w r))=_;rw[if_neg h,tX f v w r]
theorem Fj(pa ta:Addr)(z:HX)(v:V):cF "peak" v (i5 pa ta z)=i5 pa ta {z with pk:=v}:=tX _ _ _ _
theorem wM(pa ta:Addr):(jv pa ta).length≤2:=Nat.le_trans (b4 _ _ _) (Nat.succ_le_succ (b4 _ _ _))
theorem FW(pa ta:Addr)(z:HX):(i5 pa ta z).length≤6:=Nat.le_trans (b4 _ _ _) (Nat.succ_le_succ (Nat.le_trans (b4 _ _ _) (Nat.succ_le_succ (Nat.le_trans (b4 _ _ _) (Nat.succ_le_succ (Nat.le_trans (b4 _ _ _) (Nat.succ_le_succ (wM pa ta))))))))
section
variable{P:Program}{w:World}{K:Frag}{mg:Str→aN}{base:Heap}{A:qH}
def MG(C:Addr):Sp:=fun vs H Q _=>∃(p dx:Addr) (L:Nat),vs=[.ref p,.int L]∧H p=some (.ins C dx [])∧1≤L∧L≤1000∧
 ∀a H',a.f=p→(∀c∈a.own,c=p∨H c=none)→aQ C H' a [none] [none] L 0 [] 0 [] []→(∀b o,H b=some o→b≠p→H' b=some o)→Q .bC H'
theorem qe(T:Txt K mg A):bu P w K mg base eF 3 A.gN A.gQ ["self","limit"] (MG A.aj):=by
 have fG:=jC (P:=P) (w:=w) (base:=base) T;have qq:=(o9 (P:=P) (w:=w) (base:=base) T).mono (by decide:_≤2);refine T.qY.ok p5 (fun vs H Q E h=> ?_) (fun cJ Ar outer s H vs Q E hr h=> ?_)
 ·obtain⟨p,dx,L,rfl,_⟩:=h;rfl
 ·obtain⟨p,dx,L,rfl,hp,h1,h2,k⟩:=h;obtain⟨u1,pS⟩:=T.lh;refine⟨_,(ai (b_ (eS (dW (aA fG hr rfl T.lq T.iW.kp T.ky .nil aB (aa (pv 1) (aa ao (aa (lx rfl pS.2 pS.1) ae)))))) (aq dD) bh) (ai (bB (Ic T.qk rfl T.IC qq hr T.qb .nil aB (aa (pv 0) ae))) (ai (oY (pv 0) (pv 1) rfl) (ai (oY (pv 0) j8 rfl) (ai (oY (pv 0) j8 rfl) (aq (oY (pv 0) ao rfl))))))),?_⟩;refine⟨_,rfl,(L:Int),1,1000,rfl,_,rfl,?_⟩;rw[decide_eq_true (show(1:Int)≤(L:Int) by lia),decide_eq_true (show(L:Int)≤1000 by lia)];refine dH ⟨_,rfl,p,dx,rfl,hp,fun pa ta H1 Xj Uy e1 e2 e3 Vy kp=> ?_⟩;have XO:pa≠p:=aG e2 e1 (by intro z;cases z);have XZ:ta≠p:=aG e3 e1 (by intro z;cases z);have apo:=wM pa ta;refine⟨_,rfl,_,rfl,p,A.aj,dx,_,rfl,e1,T.az,T.jG,by lia,fun fa WN=> ?_⟩;have nf:fa≠p:=(ak af WN).symm;have MM:H1 fa=none:=by rw[ah nf] at WN;exact WN
  have Zz:pa≠fa:=ak e2 MM;have ntf:ta≠fa:=ak e3 MM;have apS:=b4 "bound" (.int L) (jv pa ta);refine⟨_,rfl,p,A.aj,dx,_,rfl,(by rw[ah nf.symm,af]),T.az,T.eB,by lia,fun la hla=> ?_⟩;have nl:la≠p:=(ak af hla).symm;have Q9:upd (upd H1 p (.ins A.aj dx (cF "bound" (.int L) (jv pa ta)))) fa (.dK []) la=none:=by rw[ah nl] at hla;exact hla
  have nlf:la≠fa:=(ak af Q9).symm;have LV:H1 la=none:=by rw[ah nlf,ah nl] at Q9;exact Q9
  have npl:pa≠la:=ak e2 LV;have ntl:ta≠la:=ak e3 LV;have amU:=b4 "floors" (.ref fa) (cF "bound" (.int L) (jv pa ta));refine⟨_,rfl,p,A.aj,dx,_,rfl,(by rw[ah nl.symm,af]),T.az,T.fk,by lia,?_⟩;have aql:=b4 "lengths" (.ref la) (cF "floors" (.ref fa) (cF "bound" (.int L) (jv pa ta)));refine⟨_,rfl,p,A.aj,dx,_,rfl,af,T.az,T.iN,by lia,?_⟩
  have old:∀c,H1 c=none→c=p∨H c=none:=fun c e=>by
   by_cases z:c=p
   ·exact .inl z
   ·refine .inr ?_
    cases q:H c with
    |none=>rfl
    |some o=>rw[kp c o q z] at e;cases e
  generalize Kk:upd (upd (upd (upd (upd (upd H1 p (.ins A.aj dx (cF "bound" (.int L) (jv pa ta)))) fa (.dK [])) p (.ins A.aj dx (cF "floors" (.ref fa) (cF "bound" (.int L) (jv pa ta))))) la (.dK [])) p (.ins A.aj dx (cF "lengths" (.ref la) (cF "floors" (.ref fa) (cF "bound" (.int L) (jv pa ta)))))) p (.ins A.aj dx (cF "peak" (.int 0) (cF "lengths" (.ref la) (cF "floors" (.ref fa) (cF "bound" (.int L) (jv pa ta))))))=H6
  have q1:H6 p=some (.ins A.aj dx (i5 pa ta ⟨.int L,.ref fa,.ref la,.int (0:Nat)⟩)):=by
   rw[←Kk];exact af
  have q2:H6 pa=some (.lst [.bC]):=by
   rw[←Kk,ah XO,ah XO,ah npl,ah XO,ah Zz,ah XO];exact e2
  have q3:H6 ta=some (.lst [.bC]):=by
   rw[←Kk,ah XZ,ah XZ,ah ntl,ah XZ,ah ntf,ah XZ];exact e3
  have q4:H6 fa=some (.dK []):=by
   rw[←Kk,ah nf,ah nf,ah nlf.symm,ah nf,af]
  have q5:H6 la=some (.dK []):=by
   rw[←Kk,ah nl,ah nl,af]
  refine k ⟨p,pa,ta,fa,la,[p,pa,ta,fa,la]⟩ _ rfl ?_ ⟨⟨dx,q1⟩,q2,q3,Vy,⟨[],q4,⟨Nat.le_refl _,fun _ z=>nomatch z⟩,fun n=> .inl ⟨rfl,rfl⟩,(fun n n' b e=>by cases e)⟩,⟨[],q5,Nat.le_refl _,fun n=>rfl⟩,nlf.symm,rfl,(fun i b e=>by cases e),.nil,(by simp),fun c hc=> ?_⟩ fun b o e hb=> ?_
  ·intro c hc;simp only[List.mem_cons,List.not_mem_nil,or_false] at hc;rcases hc with rfl|rfl|rfl|rfl|rfl
   ·exact .inl rfl
   ·exact .inr Xj
   ·exact .inr Uy
   ·exact old _ MM
   ·exact old _ LV
  ·simp only[List.mem_cons,List.not_mem_nil,or_false] at hc;rcases hc with rfl|rfl|rfl|rfl|rfl
   ·exact⟨_,q1⟩
   ·exact⟨_,q2⟩
   ·exact⟨_,q3⟩
   ·exact⟨_,q4⟩
   ·exact⟨_,q5⟩
  ·have b1:=kp b o e hb;rw[←Kk,ah hb,ah hb,ah (ak b1 LV),ah hb,ah (ak b1 MM),ah hb];exact b1
end
theorem DT(n:Nat):(List.replicate n [V.bC]).flatten=List.replicate n .bC:=by
 induction n with
 |zero=>rfl
 |succ n ih=>
  rw[List.replicate_succ,List.flatten_cons,ih];rfl
theorem jaf{R:Rm}{x:Nat×Nat}{i:Nat}(h:i<R.length):(R++[x]).take i=R.take i:=by
 rw[List.take_append_of_le_length (by lia)]
theorem wx{R:Rm}{i:Nat}{r:Nat×Nat}(h:R[i]? =some r)(h1:1≤r.2):bF (R.take i) r.1<bF R r.1:=by
 have hi:=(List.getElem?_eq_some_iff.mp h).1
 have e:R=R.take i++(r::R.drop (i+1)):=by
  have:=(List.getElem?_eq_some_iff.mp h).2;rw[←this,List.getElem_cons_drop,List.take_append_drop]
 have:bF R r.1=bF (R.take i) r.1+bF (r::R.drop (i+1)) r.1:=by
  conv=>lhs;rw[e]
  unfold bF;rw[List.filter_append,List.map_append,List.sum_append]
 rw[this,rB];simp
 lia
theorem d4{α:Type}{R:List α}{x d:α}{i:Nat}(h:i<R.length):(R++[x]).getD i d=R.getD i d:=by
 rw[List.getD_eq_getElem?_getD,List.getD_eq_getElem?_getD,List.getElem?_append_left h]
theorem wv{α:Type}(R:List α)(x d:α):(R++[x]).getD R.length d=x:=by
 rw[List.getD_eq_getElem?_getD,List.getElem?_append_right (Nat.le_refl _),Nat.sub_self];rfl
theorem cj{α:Type}{R:List α}{i:Nat}(d:α)(h:i<R.length):R[i]? =some (R.getD i d):=by simp[List.getD_eq_getElem?_getD,h]
theorem mP(R:Rm)(t k n:Nat):aS (R++[(t,k)]) n=if t=n then aS R n++[R.length] else aS R n:=by
 unfold aS;rw[List.length_append,List.length_singleton,List.range_succ,List.filter_append]
 have e1:((List.range R.length).filter fun i=>((R++[(t,k)]).getD i (0,0)).1==n)=(List.range R.length).filter fun i=>(R.getD i (0,0)).1==n:=
  List.filter_congr fun i hi=>by rw[d4 (List.mem_range.mp hi)]
 rw[e1];by_cases h:t=n
 ·rw[if_pos h,List.filter_cons_of_pos (by rw[wv];simpa using h)];rfl
 ·rw[if_neg h,List.filter_cons_of_neg (by rw[wv];simpa using h)];exact List.append_nil _
theorem gH{R:Rm}{t i:Nat}(h:i∈aS R t):(R.getD i (0,0)).1=t:=by simpa using(List.mem_filter.mp h).2
theorem eW{R:Rm}{x:Nat×Nat}{i:Nat}(h:i<R.length):bc (R++[x]) i=bc R i:=by
 unfold bc;rw[jaf h,d4 h]
theorem jX(R:Rm)(t k:Nat):bc (R++[(t,k)]) R.length=bF R t:=by
 unfold bc;rw[List.take_left,wv]
theorem HF{R:Rm}{rs:aY}(hl:rs.length=R.length){t k n:Nat}{b:Addr}(h:t≠n):cH (R++[(t,k)]) (rs++[b]) n=cH R rs n:=by
 unfold cH;rw[mP,if_neg h];refine List.map_congr_left fun i hi=> ?_;have:=dy hi;rw[eW this,d4 (by lia)]
theorem Jj{R:Rm}{rs:aY}(hl:rs.length=R.length)(t k:Nat)(b:Addr):cH (R++[(t,k)]) (rs++[b]) t=cH R rs t++[(.inl (bF R t:Int),.ref b)]:=by
 unfold cH;rw[mP,if_pos rfl,List.map_append,List.map_singleton,jX,←hl,wv]
 congr 1
 refine List.map_congr_left fun i hi=> ?_;have:=dy hi;rw[eW this,d4 (by lia)]
theorem jaa{R:Rm}(hr:∀r∈R,1≤r.2){t i:Nat}(h:i∈aS R t):bc R i<bF R t:=by
 have hi:=dy h;have e:=cj (0,0) hi;have:=wx e (hr _ (List.mem_of_getElem? e));rw[gH h] at this;unfold bc;rw[gH h];exact this
theorem w4{R:Rm}(hr:∀r∈R,1≤r.2){t i j:Nat}(h:i∈aS R t)(h' :j∈aS R t)(e:bc R i=bc R j):i=j:=by
 have key:∀{i j:Nat},i∈aS R t→j∈aS R t→i<j→bc R i<bc R j:=fun{i j} h h' gB=>by
  have hi:=dy h;have hj:=dy h';have e1:=cj (0,0) hi
  have e2:(R.take j)[i]? =some (R.getD i (0,0)):=by
   rw[List.getElem?_take_of_lt gB];exact e1
  have:=wx e2 (hr _ (List.mem_of_getElem? e1));rw[List.take_take,Nat.min_eq_left (Nat.le_of_lt gB),gH h] at this;unfold bc;rw[gH h,gH h'];exact this
 rcases Nat.lt_trichotomy i j with z|z|z
 ·have:=key h h' z
  lia
 ·exact z
 ·have:=key h' h z
  lia
theorem En{l:bG}{k:wn}(h:∀p∈l,¬p.1=k):bN l k=none:=by
 induction l with
 |nil=>rfl
 |cons p l ih=>
  rw[cC (h p List.mem_cons_self)];exact ih fun q hq=>h q (List.mem_cons_of_mem _ hq)
theorem wB(k:Nat→wn)(v:Nat→V){j:Nat}:∀{l:List Nat},j∈l→(∀i∈l,k i=k j→i=j)→bN (l.map fun i=>(k i,v i)) (k j)=some (v j)
 |i::l,h,inj=>by
  rw[List.map_cons];by_cases z:k i=k j
  ·rw[cT z,inj i List.mem_cons_self z]
  ·rw[cC z];rcases List.mem_cons.mp h with h|h
   ·exact absurd (by rw[h]) z
   ·exact wB k v h fun i hi=>inj i (List.mem_cons_of_mem _ hi)
theorem Ek{R:Rm}(hr:∀r∈R,1≤r.2)(rs:aY)(t:Nat):bN (cH R rs t) (.inl (bF R t:Int))=none:=by
 refine En fun p hp z=> ?_;obtain⟨i,hi,rfl⟩:=List.mem_map.mp hp;injection z with z;have:=jaa hr hi
 lia
theorem Ew{R:Rm}(hr:∀r∈R,1≤r.2)(rs:aY){t i:Nat}(h:i∈aS R t):bN (cH R rs t) (.inl (bc R i:Int))=some (.ref (rs.getD i 0)):=
 wB (fun i=>Sum.inl (bc R i:Int)) (fun i=>V.ref (rs.getD i 0)) h fun j hj z=>by
  injection z with z;exact w4 hr hj h (by lia)
theorem D7(R:Rm)(rs:aY)(t:Nat):(cH R rs t).length≤R.length:=by
 unfold cH;rw[List.length_map];exact iU R t
theorem bJ{n:Nat}(h:n≤100000):n<sizeLine:=Nat.lt_of_le_of_lt h (by decide)
def lU(t p:Nat):ax:=[nV t,nV p]
def WJ(C:Addr):TS:=fun D σ H=>∃(a:HA) (ps ts:ay) (L pk:Nat) (R:Rm) (N:Nat) (rs:aY) (cs:cE) (t n:Nat) (x3:Option V) (b:Addr) (kv:bG),σ=[some (.ref a.f),some (.int t),some (.int n),x3,some (.int (bF R t)),some (.ref b)]∧aQ C H a ps ts L pk R N rs cs∧cs.length=R.length∧Good ps ts L pk R∧ts[t]? =some none∧1≤n∧n≤6∧R.length≤1000∧N≤10000∧cg ts R+n≤L∧
 H a.fa=some (.dK kv)∧bN kv (.inl (t:Int))=some (.ref b)∧
 ∀r H' l,H r=none→aQ C H' {a with own:=r::a.own} ps ts L (max pk (cg ts R+n)) (R++[(t,n)]) (N+1) (rs++[r]) (cs++[List.replicate n .bC])→(∀c o,¬c∈a.own→H c=some o→H' c=some o)→(∀c xs,H c=some (.tup xs)→H' c=some (.tup xs))→H l=none→H' l=some (.tup (lU t (bF R t)))→D.rt (.ref l) H'
section
variable{P:Program}{w:World}{K:Frag}{mg:Str→aN}{base:Heap}{A:qH}
def QL(C:Addr):Sp:=fun vs H Q _=>∃(a:HA) (ps ts:ay) (L pk:Nat) (R:Rm) (N:Nat) (rs:aY) (cs:cE) (t n:Nat),vs=[.ref a.f,.int t,.int n]∧aQ C H a ps ts L pk R N rs cs∧cs.length=R.length∧Good ps ts L pk R∧ts[t]? =some none∧1≤n∧n≤6∧R.length≤1000∧N≤9000∧cg ts R+n≤L∧
 ∀Ss r H' l,aQ C H' {a with own:=Ss} ps ts L (max pk (cg ts R+n)) (R++[(t,n)]) (N+2) (rs++[r]) (cs++[List.replicate n .bC])→(∀c∈a.own,c∈Ss)→(∀c∈Ss,c∈a.own∨H c=none)→(∀c o,¬c∈a.own→H c=some o→H' c=some o)→(∀c xs,H c=some (.tup xs)→H' c=some (.tup xs))→H l=none→H' l=some (.tup (lU t (bF R t)))→Q (.ref l) H'
theorem vq(T:Txt K mg A):bu P w K mg base eF 6 A.kK A.lI ["self","frame","size"] (QL A.aj):=by
 have bA:=cc (P:=P) (w:=w) (base:=base) T;have fG:=(jC (P:=P) (w:=w) (base:=base) T).mono (by decide:_≤5);have xV:=(vF (P:=P) (w:=w) (base:=base) T).mono (by decide:_≤5);have lP:=(nY (P:=P) (w:=w) (base:=base) T).mono (by decide:_≤5);refine T.yq.ok gY (fun vs H Q E h=> ?_) (fun cJ Ar outer s H vs Q E hr h=> ?_)
 ·obtain⟨a,ps,ts,L,pk,R,N,rs,cs,t,n,rfl,_⟩:=h;rfl
 ·obtain⟨a,ps,ts,L,pk,R,N,rs,cs,t,n,rfl,F,sP,G,pF,n1,n6,hR,hN,hle,k1⟩:=h;have hu:=dv hr;obtain⟨dx,ho⟩:=F.ob;obtain⟨u1,hX⟩:=T.eC
  have iP:cB ts (t:Int)=true:=by
   unfold cB;rw[decide_eq_true (show(0:Int)≤t by lia),Int.toNat_natCast,pF];rfl
  refine⟨_,(ai (bB (bg (pv 0) T.az T.cq bA hr T.cu .nil aB (aa (pv 1) ae))) (ai (b_ (eS (dW (aA fG hr rfl T.lq T.iW.kp T.ky .nil aB (aa (pv 2) (aa ao (aa (lx rfl hX.2 hX.1) ae)))))) (aq dD) bh) (ai (aZ (i:=3) gY.nd rfl (Or.inl rfl) (dP (pv 0) T.az T.yN xV hr T.xJ .nil aB)) (ai (b_ (ba CG (pv 2) (pv 3) (br _)) (aq dD) bh) (ai (aZ (i:=4) gY.nd rfl (Or.inl rfl) (pK hu (dr (pv 0) rfl) (pv 1) ao ⟨rfl,rfl,rfl,rfl⟩)) (ai (aZ (i:=5) gY.nd rfl (Or.inl rfl) (Gm (dr (pv 0) rfl) (pv 1) j8 ⟨rfl,rfl,rfl,rfl⟩)) (lr (WJ A.aj) (ai (tT hu (pv 5) (pv 4) (bt Gd (b7 (aa cG ae)) (pv 2)) rfl) (ai (tT hu (dr (pv 0) rfl) (pv 1) (bt fz (pv 4) (pv 2)) rfl) (ai (oY (pv 0) (aT (nE rfl) (by rfl) T.wA Boot.«max» (aa (dr (pv 0) rfl) (aa (dP (pv 0) T.az T.qz lP hr T.qG .nil aB) ae))) rfl) (aq (aH (gT (aa (pv 1) (aa (pv 4) ae)))))))) ?RG))))))),?_⟩
  case RG=>
   rintro D σ H ⟨a,ps,ts,L,pk,R,N,rs,cs,t,n,x3,b,kv,rfl,F,sP,G,pF,n1,n6,hR,hN,hle,Pe,Ki,k⟩
   have sJ:∀r∈R,1≤r.2:=fun r hr=>(G.rw r hr).1;obtain⟨dx,ho⟩:=F.ob;obtain⟨of,op,ot,XY,YI⟩:=F.Aj;obtain⟨kv0,f1,f2,f3,f4⟩:=F.fl
   have ekv:kv0=kv:=by
    rw[Pe] at f1;injection f1 with f1;injection f1 with f1;exact f1.symm
   subst ekv;obtain⟨kl,SD,l2',l3'⟩:=F.ln
   have hbx:b∈a.own∧b≠a.fa∧b≠a.la∧H b=some (.dK (cH R rs t)):=by
    rcases f3 t with h|⟨b',e1,e2,e3,e4,e5⟩
    ·rw[h.1] at Ki;cases Ki
    ·rw[e1] at Ki;injection Ki with Ki;injection Ki with Ki;subst Ki;exact⟨e2,e3,e4,e5⟩
   obtain⟨bo,bf,bl,hb⟩:=hbx;have BE:=D7 R rs t;refine⟨(show 1≤sizeLine by decide),fun l1 Bu=>⟨_,rfl,l1,(n:Int),_,rfl,rfl,af,by lia,by lia,?_,fun l2 vi=> ?_⟩⟩
   ·show 1*(n:Int).toNat≤sizeLine;exact Nat.le_of_lt (bJ (by lia))
   rw[Int.toNat_natCast,DT];have s1:=(aw.upd (o:= .lst [V.bC]) Bu).trans (aw.upd (o:= .lst (List.replicate n .bC)) vi);have hr2:upd (upd H l1 (.lst [V.bC])) l2 (.lst (List.replicate n .bC)) l2=some (.lst (List.replicate n .bC)):=af;have Mb:H l2=none:=(aw.upd (o:= .lst [V.bC]) Bu).free vi;generalize hH2:upd (upd H l1 (.lst [V.bC])) l2 (.lst (List.replicate n .bC))=H2 at s1 hr2;refine⟨_,rfl,_,rfl,b,_,rfl,vz.k (k:= .inl (bF R t:Int)) (s1 _ _ hb) (bJ (by lia)),?_⟩;have fb:a.f≠b:=aG ho hb (by intro z;cases z);have lb:a.la≠b:=bl.symm;have gb:a.fa≠b:=bf.symm;refine⟨_,rfl,_,rfl,_,_,rfl,rfl,_,rfl,a.f,A.aj,dx,_,_,rfl,(by rw[ah fb];exact s1 _ _ ho),T.az,T.fk,Be _ _ _,_,rfl,a.la,_,rfl,vz.k (k:= .inl (t:Int)) (by rw[ah lb];exact s1 _ _ SD) (bJ (by lia)),?_⟩;have fl:a.f≠a.la:=aG ho SD (by intro z;cases z);have pal:a.pa≠a.la:=aG F.pl SD (by intro z;cases z);have tal:a.ta≠a.la:=aG F.tl SD (by intro z;cases z);have pab:a.pa≠b:=aG F.pl hb (by intro z;cases z);have tab:a.ta≠b:=aG F.tl hb (by intro z;cases z);dsimp only;rw[ql (.ref l2) (Ek sJ rs t),←Jj F.rl t n l2];generalize hv:V.int ((bF R t:Int)+(n:Int))=nv;generalize Vh:upd (upd H2 b (.dK (cH (R++[(t,n)]) (rs++[l2]) t))) a.la (.dK (wp kl (.inl (t:Int)) nv))=H4
   have Qd:∀c o,c≠b→c≠a.la→H2 c=some o→H4 c=some o:=fun c o h1 h2 e=>by
    rw[←Vh,ah h2,ah h1];exact e
   have VP:∀c xs,H2 c=some (.lst xs)→H4 c=some (.lst xs):=fun c xs e=>Qd _ _ (aG e (s1 _ _ hb) (by intro z;cases z)) (aG e (s1 _ _ SD) (by intro z;cases z)) e
   have F4:aQ A.aj H4 {a with own:=l2::a.own} ps ts L pk (R++[(t,n)]) (N+1) (rs++[l2]) (cs++[List.replicate n .bC]):=by
    refine⟨⟨dx,Qd _ _ fb fl (s1 _ _ ho)⟩,VP _ _ (s1 _ _ F.pl),VP _ _ (s1 _ _ F.tl),F.ne,⟨kv0,Qd _ _ gb F.FA (s1 _ _ Pe),⟨by lia,f2.2⟩,fun m=> ?_,f4⟩,⟨_,(by rw[←Vh];exact af),?_,fun m=> ?_⟩,F.FA,by rw[List.length_append,List.length_append,F.rl];rfl,fun i c e=> ?_,?_,⟨.tail _ of,.tail _ op,.tail _ ot,.tail _ XY,.tail _ YI⟩,fun c hc=> ?_⟩
    ·by_cases z:t=m
     ·subst z;exact .inr ⟨b,Ki,.tail _ bo,bf,bl,by rw[←Vh,ah bl];exact af⟩
     ·rw[mP,if_neg z,HF F.rl z];rcases f3 m with h|⟨c,e1,e2,e3,e4,e5⟩
      ·exact .inl h
      ·refine .inr ⟨c,e1,.tail _ e2,e3,e4,Qd _ _ (fun q=> ?_) e4 (s1 _ _ e5)⟩;subst q;exact z (f4 t m c Ki e1)
    ·have:=fI kl (.inl (t:Int)) nv
     lia
    ·rw[m4,rb];by_cases z:m=t
     ·subst z;rw[if_pos rfl];show nv=_;rw[←hv];simp
     ·rw[if_neg (fun q=>z (by injection q with q;lia)),l3' m];have:(t==m)=false:=by simp;lia
      rw[this];rfl
    ·by_cases hi:i<rs.length
     ·rw[List.getElem?_append_left hi] at e;obtain⟨e1,e2,e3,vs,e4,e5⟩:=F.rm i c e;refine⟨.tail _ e1,e2,e3,vs,?_,VP _ _ (s1 _ _ e5)⟩;rw[List.getElem?_append_left (by rw[sP,←F.rl];exact hi)];exact e4
     ·have Kl :=(List.getElem?_eq_some_iff.mp e).1;rw[List.length_append] at Kl;have hi:i=rs.length:=by simp at Kl;lia
      subst hi;rw[List.getElem?_append_right (Nat.le_refl _),Nat.sub_self] at e;cases e;refine⟨.head _,(ak F.pl Mb).symm,(ak F.tl Mb).symm,List.replicate n .bC,?_,VP _ _ hr2⟩;rw[List.getElem?_append_right (by rw[sP,F.rl];exact Nat.le_refl _),sP,F.rl,Nat.sub_self];rfl
    ·refine List.nodup_append.mpr ⟨F.rn,List.nodup_cons.mpr ⟨by simp,.nil⟩,fun x hx y hy=> ?_⟩;simp only[List.mem_singleton] at hy;subst hy;obtain⟨i,hi,rfl⟩:=List.mem_iff_getElem.mp hx;obtain⟨e1,e2,e3,vs,e4,e5⟩:=F.rm i _ (List.getElem?_eq_getElem hi);exact ak e5 Mb
    ·rcases List.mem_cons.mp hc with rfl|hc
     ·exact⟨_,VP _ _ hr2⟩
     ·by_cases z1:c=a.la
      ·exact⟨_,by rw[←Vh];exact j_ z1⟩
      ·by_cases z2:c=b
       ·exact⟨_,by rw[←Vh,ah z1];exact j_ z2⟩
       ·exact(F.al c hc).imp fun o e=>Qd c o z2 z1 (s1 _ _ e)
   have ho4:=Qd _ _ fb fl (s1 _ _ ho);refine⟨_,rfl,a.f,A.aj,dx,_,_,rfl,ho4,T.az,T.iN,HV _ _ _,_,rfl,a.f,dx,_,rfl,ho4,aR (by decide+kernel),{a with own:=l2::a.own},ps,ts,L,pk,R++[(t,n)],N+1,_,_,rfl,F4,?_,?_,G.ts,fun H5 s5=> ?_⟩
   ·intro r hr;rcases List.mem_append.mp hr with hr|hr
    ·exact(G.rw r hr).2.1
    ·simp only[List.mem_singleton] at hr;subst hr;exact n6
   ·rw[List.length_append];simp
    lia
   have F5:=F4.same s5;obtain⟨Uj,G0⟩:=F5.ob;have G0:H5 a.f=_:=G0;refine⟨_,_,rfl,_,rfl,a.f,A.aj,Uj,_,rfl,G0,T.az,T.iN,Nat.lt_of_le_of_lt (FW _ _ _) (by decide),?_⟩;rw[Fj,oB R n pF]
   have em:V.int (if((cg ts R+n:Nat):Int)>(pk:Int) then((cg ts R+n:Nat):Int) else(pk:Int))=V.int ((max pk (cg ts R+n):Nat):Int):=by
    congr 1
    split<;>lia
   dsimp only;rw[em];generalize Kk:upd H5 a.f (.ins A.aj Uj (i5 a.pa a.ta ⟨.int L,.ref a.fa,.ref a.la,.int (max pk (cg ts R+n):Nat)⟩))=H6
   have D0:∀c o,c≠a.f→H5 c=some o→H6 c=some o:=fun c o h1 e=>by
    rw[←Kk,ah h1];exact e
   have F6:aQ A.aj H6 {a with own:=l2::a.own} ps ts L (max pk (cg ts R+n)) (R++[(t,n)]) (N+1) (rs++[l2]) (cs++[List.replicate n .bC]):=by
    obtain⟨kf5,O_,Se,QZ,SO⟩:=F5.fl;obtain⟨kl5,Vk,YM,XX⟩:=F5.ln;refine⟨⟨Uj,by rw[←Kk];exact af⟩,D0 _ _ (aG F5.pl G0 (by intro z;cases z)) F5.pl,D0 _ _ (aG F5.tl G0 (by intro z;cases z)) F5.tl,F.ne,⟨kf5,D0 _ _ (aG O_ G0 (by intro z;cases z)) O_,Se,fun m=> ?_,SO⟩,⟨kl5,D0 _ _ (aG Vk G0 (by intro z;cases z)) Vk,YM,XX⟩,F.FA,F5.rl,fun i c e=> ?_,F5.rn,F5.Aj,fun c hc=>(if z:c=a.f then⟨_,by rw[←Kk];exact j_ z⟩ else(F5.al c hc).imp fun o e=>D0 c o z e)⟩
    ·rcases QZ m with h|⟨c,e1,e2,e3,e4,e5⟩
     ·exact .inl h
     ·exact .inr ⟨c,e1,e2,e3,e4,D0 _ _ (aG e5 G0 (by intro z;cases z)) e5⟩
    ·obtain⟨e1,e2,e3,vs,e4,e5⟩:=F5.rm i c e;exact⟨e1,e2,e3,vs,e4,D0 _ _ (aG e5 G0 (by intro z;cases z)) e5⟩
   refine⟨_,rfl,_,rfl,(show 2≤sizeLine by decide),fun l hl=> ?_⟩;have s7:=aw.upd (o:= .tup [V.int t,V.int (bF R t)]) hl;have kp:∀c o,¬c∈a.own→H c=some o→H6 c=some o:=fun c o hc e=>D0 c o (fun z=>hc (z▸of)) (s5 _ _ (Qd c o (fun z=>hc (z▸bo)) (fun z=>hc (z▸YI)) (s1 _ _ e)));refine k l2 _ l Mb (F6.same s7) (fun c o hc e=>s7 _ _ (kp c o hc e)) (fun c xs e=>s7 _ _ (D0 _ _ (aG e ho (by intro z;cases z)) (s5 _ _ (Qd c _ (aG e hb (by intro z;cases z)) (aG e SD (by intro z;cases z)) (s1 _ _ e))))) ?_ af
   cases q:H l with
   |none=>rfl
   |some o=>
    by_cases hc:l∈a.own
    ·obtain⟨o',e⟩:=F6.al l (.tail _ hc);rw[hl] at e;cases e
    ·have:=kp l o hc q;rw[hl] at this;cases this
  refine⟨_,rfl,a.f,dx,_,rfl,ho,aR (by decide+kernel),_,rfl,a.f,a.pa,a.ta,ps,ts,t,rfl,F.fr,G.W.len,iP,?_⟩;refine⟨_,rfl,(n:Int),1,6,rfl,_,rfl,?_⟩;rw[decide_eq_true (show(1:Int)≤(n:Int) by lia),decide_eq_true (show(n:Int)≤6 by lia)];refine dH ?_;refine⟨_,rfl,a.f,dx,_,rfl,ho,aR (by decide+kernel),a,ps,ts,L,pk,R,N,rs,cs,rfl,F,fun r hr=>(G.rw r hr).2.1,by lia,G.ts,fun H1 s1=> ?_⟩;have F1:=F.same s1;obtain⟨Io,BK⟩:=F1.ob;refine⟨_,rfl,_,rfl,_,_,rfl,rfl,_,rfl,?_⟩;rw[decide_eq_false (show ¬((L:Int) - ((cg ts R:Nat):Int)<(n:Int)) by lia)];refine dH ?_;obtain⟨kf,f1,f2,f3,f4⟩:=F1.fl;obtain⟨kl,l1,l2,l3⟩:=F1.ln;obtain⟨of,op,ot,XY,YI⟩:=F1.Aj;refine⟨_,rfl,a.f,A.aj,Io,_,_,rfl,BK,T.az,T.fk,Be _ _ _,a.la,rfl,.inl ⟨_,.inl l1⟩,_,rfl,_,eK.k (k:= .inl (t:Int)) l1,?_⟩;show _;rw[l3 t];refine⟨_,rfl,a.f,A.aj,Io,_,_,rfl,BK,T.az,T.eB,yk _ _ _,a.fa,rfl,.inl ⟨_,.inl f1⟩,_,rfl,fun b hb=> ?_⟩;have s2:=aw.upd (o:= .dK []) hb;have F2:=F1.same s2;have bfa:b≠a.fa:=(ak f1 hb).symm;have bla:b≠a.la:=(ak l1 hb).symm;refine⟨kf,.inl (t:Int),s2 _ _ f1,rfl,bJ (by lia),fun v hv=> ?_,fun hv=> ?_⟩
  ·have SY :=hv;rcases f3 t with h|⟨c,e1,e2,e3,e4,e5⟩
   ·rw[h.1] at SY;cases SY
   rw[e1] at SY;cases SY;refine⟨a,ps,ts,L,pk,R,N+1,rs,cs,t,n,_,c,kf,rfl,?_,sP,G,pF,n1,n6,hR,by lia,hle,s2 _ _ f1,e1,fun r H' l hr F' kp kt hl e=> ?_⟩
   ·obtain⟨kf2,Sl,Rn,Sh,SG⟩:=F2.fl;obtain⟨kl2,X3,l22,Yb⟩:=F2.ln;exact⟨F2.ob,F2.pl,F2.tl,F2.ne,⟨kf2,Sl,⟨by lia,Rn.2⟩,Sh,SG⟩,⟨kl2,X3,by lia,Yb⟩,F2.FA,F2.rl,F2.rm,F2.rn,F2.Aj,F2.al⟩
   ·refine k1 (r::a.own) r H' l F' (fun c hc=> .tail _ hc) (fun c hc=> ?_) (fun c o hc e=>kp c o hc (s2 _ _ (s1 _ _ e))) (fun c xs e=>kt c xs (s2 _ _ (s1 _ _ e))) (s1.free (s2.free hl)) e;rcases List.mem_cons.mp hc with rfl|hc
    ·exact .inr (s1.free (s2.free hr))
    ·exact .inl hc
  ·have h0:aS R t=[]:=by
    rcases f3 t with h|⟨c,e1,_⟩
    ·exact h.2
    ·rw[e1] at hv;cases hv
   have fb:a.f≠b:=ak BK hb;have ffa:a.f≠a.fa:=aG BK f1 (by intro z;cases z);have pfa:a.pa≠a.fa:=aG F1.pl f1 (by intro z;cases z);have tfa:a.ta≠a.fa:=aG F1.tl f1 (by intro z;cases z);generalize SE:upd (upd H1 b (.dK [])) a.fa (.dK (wp kf (.inl (t:Int)) (.ref b)))=H3
   have Kp:∀c o,c≠a.fa→H1 c=some o→H3 c=some o:=fun c o h1 e=>by
    rw[←SE,ah h1];exact s2 _ _ e
   have UO:H3 b=some (.dK []):=by
    rw[←SE,ah bfa];exact af
   have KN:H3 a.fa=some (.dK (wp kf (.inl (t:Int)) (.ref b))):=by
    rw[←SE];exact af
   have vb:bN (wp kf (.inl (t:Int)) (.ref b)) (.inl (t:Int))=some (.ref b):=by
    rw[m4,if_pos rfl]
   have vn:∀m:Nat,m≠t→bN (wp kf (.inl (t:Int)) (.ref b)) (.inl (m:Int))=bN kf (.inl (m:Int)):=fun m hm=>by
    rw[m4,if_neg (fun q=>hm (by injection q with q;lia))]
   have nob:∀m:Nat,bN kf (.inl (m:Int))≠some (.ref b):=fun m z=>by
    rcases f3 m with h|⟨c,e1,e2,e3,e4,e5⟩
    ·rw[h.1] at z;cases z
    ·rw[e1] at z;cases z;rw[e5] at hb;cases hb
   have F3:aQ A.aj H3 {a with own:=b::a.own} ps ts L pk R (N+1) rs cs:=by
    refine⟨⟨Io,Kp _ _ ffa BK⟩,Kp _ _ pfa F1.pl,Kp _ _ tfa F1.tl,F.ne,⟨_,KN,?_,fun m=> ?_,fun m m' c e e' => ?_⟩,⟨kl,Kp _ _ F.FA.symm l1,by lia,l3⟩,F.FA,F.rl,fun i c e=> ?_,F.rn,⟨.tail _ of,.tail _ op,.tail _ ot,.tail _ XY,.tail _ YI⟩,fun c hc=> ?_⟩
    ·have:=fI kf (.inl (t:Int)) (.ref b);exact⟨by lia,Jy f2.2 hv⟩
    ·by_cases z:m=t
     ·subst z;refine .inr ⟨b,vb,.head _,bfa,bla,?_⟩;unfold cH;rw[h0];exact UO
     ·rw[vn m z];rcases f3 m with h|⟨c,e1,e2,e3,e4,e5⟩
      ·exact .inl h
      ·exact .inr ⟨c,e1,.tail _ e2,e3,e4,Kp _ _ e3 e5⟩
    ·by_cases z:m=t<;>by_cases z' :m' =t
     ·lia
     ·subst z;rw[vb] at e;cases e;rw[vn m' z'] at e';exact absurd e' (nob m')
     ·subst z';rw[vb] at e';cases e';rw[vn m z] at e;exact absurd e (nob m)
     ·rw[vn m z] at e;rw[vn m' z'] at e';exact f4 m m' c e e'
    ·obtain⟨e1,e2,e3,vs,e4,e5⟩:=F1.rm i c e;exact⟨.tail _ e1,e2,e3,vs,e4,Kp _ _ (aG e5 f1 (by intro z;cases z)) e5⟩
    ·rcases List.mem_cons.mp hc with rfl|hc
     ·exact⟨_,UO⟩
     ·by_cases z:c=a.fa
      ·exact⟨_,by rw[←SE];exact j_ z⟩
      ·exact(F1.al c hc).imp fun o e=>Kp c o z e
   have Qt:∀c,H3 c=none→H1 c=none:=fun c e=>by
    cases q:H1 c with
    |none=>rfl
    |some o=>
     by_cases z:c=a.fa
     ·rw[z,KN] at e;cases e
     ·rw[Kp c o z q] at e;cases e
   refine⟨{a with own:=b::a.own},ps,ts,L,pk,R,N+1,rs,cs,t,n,_,b,_,rfl,F3,sP,G,pF,n1,n6,hR,by lia,hle,KN,vb,fun r H' l hr F' kp kt hl e=> ?_⟩;refine k1 (r::b::a.own) r H' l F' (fun c hc=> .tail _ (.tail _ hc)) (fun c hc=> ?_) (fun c o hc e=>kp c o (fun z=> ?_) (Kp c o (fun z=>hc (z▸XY)) (s1 _ _ e))) (fun c xs e=>kt c xs (Kp c _ (aG (s1 _ _ e) f1 (by intro z;cases z)) (s1 _ _ e))) (s1.free (Qt l hl)) e
   ·rcases List.mem_cons.mp hc with rfl|hc
    ·exact .inr (s1.free (Qt _ hr))
    ·rcases List.mem_cons.mp hc with rfl|hc
     ·exact .inr (s1.free hb)
     ·exact .inl hc
   ·rcases List.mem_cons.mp z with rfl|z
    ·have:=s1 _ _ e;rw[hb] at this;cases this
    ·exact hc z
end
section
variable{C:Addr}{H:Hp}{a:HA}{ps ts:ay}{L pk:Nat}{R:Rm}{N:Nat}{rs:aY}{cs:cE}
theorem Eu{l:aY}(h:l.Nodup){i j:Nat}{b:Addr}(e:l[i]? =some b)(e' :l[j]? =some b):i=j:=by
 have h1:=(List.getElem?_eq_some_iff.mp e).1;exact(List.getElem?_inj h1 h).mp (e.trans e'.symm)
theorem tP{cs:cE}{i j:Nat}{vs vs' :ax}(e:cs[i]? =some vs):(cs.set i vs')[j]? =if i=j then some vs' else cs[j]? :=by
 have h1:=(List.getElem?_eq_some_iff.mp e).1;rw[List.getElem?_set];by_cases z:i=j
 ·rw[if_pos z,if_pos z,if_pos h1]
 ·rw[if_neg z,if_neg z]
theorem aQ.put(h:aQ C H a ps ts L pk R N rs cs){i:Nat}{b:Addr}{vs vs' :ax}(hb:rs[i]? =some b)(hc:cs[i]? =some vs):aQ C (upd H b (.lst vs')) a ps ts L pk R N rs (cs.set i vs'):=by
 obtain⟨o1,o2,o3,vs0,o4,o5⟩:=h.rm i b hb
 have kp:∀{c:Addr} {o:HO},(∀xs,o≠.lst xs)→H c=some o→upd H b (.lst vs') c=some o:=fun ho e=>by
  rw[ah (fun z=>by rw[z,o5] at e;injection e with e;exact ho _ e.symm)];exact e
 obtain⟨⟨dx,ob⟩,pl,tl,ne,⟨kv,f1,f2,f3,f4⟩,⟨kw,l1,l2,l3⟩,FA,rl,rm,rn,ow,al⟩:=h;refine⟨⟨dx,kp (by intro _ z;cases z) ob⟩,by rw[ah o2.symm];exact pl,by rw[ah o3.symm];exact tl,ne,⟨kv,kp (by intro _ z;cases z) f1,f2,fun n=> ?_,f4⟩,⟨kw,kp (by intro _ z;cases z) l1,l2,l3⟩,FA,rl,fun j c e=> ?_,rn,ow,fun c hc=> ?_⟩
 ·rcases f3 n with h|⟨c,e1,e2,e3,e4,e5⟩
  ·exact .inl h
  ·exact .inr ⟨c,e1,e2,e3,e4,kp (by intro _ z;cases z) e5⟩
 ·rw[tP hc];by_cases z:i=j
  ·subst z;rw[hb] at e;cases e;exact⟨o1,o2,o3,vs',if_pos rfl,af⟩
  ·obtain⟨e1,e2,e3,us,e4,e5⟩:=rm j c e;refine⟨e1,e2,e3,us,by rw[if_neg z];exact e4,?_⟩;rw[ah (fun q=>z (Eu rn hb (by rw[←q];exact e)))];exact e5
 ·by_cases z:c=b
  ·exact⟨_,j_ z⟩
  ·rw[ah z];exact al c hc
theorem jj{R:Rm}{i:Nat}(hi:i<R.length):i∈aS R (R.getD i (0,0)).1:=List.mem_filter.mpr ⟨List.mem_range.mpr hi,beq_self_eq_true _⟩
theorem aQ.floor(h:aQ C H a ps ts L pk R N rs cs)(hr:∀r∈R,1≤r.2){i:Nat}(hi:i<R.length):∃kv b,H a.fa=some (.dK kv)∧bN kv (.inl ((R.getD i (0,0)).1:Int))=some (.ref b)∧H b=some (.dK (cH R rs (R.getD i (0,0)).1))∧bN (cH R rs (R.getD i (0,0)).1) (.inl (bc R i:Int))=some (.ref (rs.getD i 0)):=by
 obtain⟨kv,f1,f2,f3,f4⟩:=h.fl;rcases f3 (R.getD i (0,0)).1 with z|⟨b,e1,e2,e3,e4,e5⟩
 ·have:=jj hi;rw[z.2] at this;cases this
 ·exact⟨kv,b,f1,e1,e5,Ew hr rs (jj hi)⟩
theorem aQ.room(h:aQ C H a ps ts L pk R N rs cs){i:Nat}(hi:i<R.length):rs[i]? =some (rs.getD i 0)∧rs.getD i 0∈a.own∧∃vs,cs[i]? =some vs∧H (rs.getD i 0)=some (.lst vs):=by
 have e:=cj 0 (show i<rs.length by rw[h.rl];exact hi);obtain⟨e1,e2,e3,vs,e4,e5⟩:=h.rm i _ e;exact⟨e,e1,vs,e4,e5⟩
end
section
variable{P:Program}{w:World}{K:Frag}{mg:Str→aN}{base:Heap}{A:qH}
def Gq:Sp:=fun vs H Q _=>∃t xs,vs=[.ref t]∧H t=some (.tup xs)∧Q (.bl false) H
theorem om(T:Txt K mg A):bu P w K mg base eF 1 A.ip A.ib ["thing"] Gq:=by
 refine T.ik.ok qo (fun vs H Q E h=> ?_) (fun cJ Ar outer s H vs Q E hr h=> ?_)
 ·obtain⟨t,xs,rfl,_⟩:=h;rfl
 ·obtain⟨t,xs,rfl,e,k⟩:=h;refine⟨_,(aq (aH (iB (aT dw (by rfl) T.bY Boot.«isinstance» (aa (pv 0) (aa (jE (v:= .ty "int") rfl T.Di Boot.«int» rfl) ae))) (iG (J7 (aT dw (by rfl) T.bY Boot.«isinstance» (aa (pv 0) (aa (jE (v:= .ty "bool") rfl T.xu Boot.«bool» rfl) ae)))))))),?_⟩;exact⟨_,rfl,_,_,_,_,rfl,.tup e,rfl,_,rfl,dH k⟩
def J9:Sp:=fun vs H Q _=>∃n:Nat,vs=[nV n]∧Q (.bl true) H
theorem Af(T:Txt K mg A):bu P w K mg base eF 2 A.oN A.oJ ["thing"] J9:=by
 have ie:=iT (P:=P) (w:=w) (base:=base) T;refine T.oZ.ok zl (fun vs H Q E h=> ?_) (fun cJ Ar outer s H vs Q E hr h=> ?_)
 ·obtain⟨n,rfl,_⟩:=h;rfl
 ·obtain⟨n,rfl,k⟩:=h;refine⟨_,(aq (aH (iB (aA ie hr rfl T.mW T.ik.kp T.nr .nil aB (aa (pv 0) ae)) (iG (fq Xn (pv 0) ao (br _)))))),?_⟩;refine⟨_,rfl,(n:Int),rfl,_,rfl,eT ⟨_,rfl,(n:Int),0,rfl,rfl,?_⟩⟩;have e:decide ((0:Int)≤(n:Int))=true:=decide_eq_true (by lia);show Q (V.bl (decide ((0:Int)≤(n:Int)))) H;rw[e];exact k
def Ln:Sp:=fun vs H Q _=>∃t f p,vs=[.ref t]∧H t=some (.tup (lU f p))∧Q (.bl true) H
theorem BF(T:Txt K mg A):bu P w K mg base eF 3 A.qJ A.q0 ["thing"] Ln:=by
 have uF:=Af (P:=P) (w:=w) (base:=base) T;refine T.wV.ok Bj (fun vs H Q E h=> ?_) (fun cJ Ar outer s H vs Q E hr h=> ?_)
 ·obtain⟨t,f,p,rfl,_⟩:=h;rfl
 ·obtain⟨t,f,p,rfl,e,k⟩:=h;refine⟨_,(ai (b_ (eS (dW (aT dw (by rfl) T.bY Boot.«isinstance» (aa (pv 0) (aa (jE (v:= .ty "tuple") rfl T.gW Boot.«tuple» rfl) ae))))) (aq (aH qC)) bh) (aq (aH (iB (fq j9 (aT bp (by rfl) T.fK Boot.«len» (aa (pv 0) ae)) ao (br _)) (iB (aA uF hr rfl T.u_ T.oZ.kp T.u7 .nil aB (aa (bb du (pv 0) ao (fun _ _=>rfl)) ae)) (iG (aA uF hr rfl T.u_ T.oZ.kp T.u7 .nil aB (aa (bb du (pv 0) ao (fun _ _=>rfl)) ae)))))))),?_⟩;refine⟨_,rfl,_,_,_,_,rfl,.tup e,rfl,_,rfl,?_⟩;refine⟨_,rfl,t,_,rfl,.inr (mr.of e),rfl,_,rfl,?_⟩;refine eT ⟨_,rfl,t,_,_,nV f,rfl,rfl,mr.of e,rfl,f,rfl,_,rfl,?_⟩;exact eT ⟨_,rfl,t,_,_,nV p,rfl,rfl,mr.of e,rfl,p,rfl,k⟩
def Mr(C:Addr):Sp:=fun vs H Q _=>∃a ps ts L pk R N rs cs i t,vs=[.ref a.f,.ref t]∧aQ C H a ps ts L pk R N rs cs∧(∀r∈R,1≤r.2)∧i<R.length∧H t=some (.tup (lU (R.getD i (0,0)).1 (bc R i)))∧∀H',aw H H'→Q (.bl true) H'
theorem md(T:Txt K mg A):bu P w K mg base eF 4 A.jo A.jr ["self","thing"] (Mr A.aj):=by
 have D8:=BF (P:=P) (w:=w) (base:=base) T;refine T.ub.ok tu (fun vs H Q E h=> ?_) (fun cJ Ar outer s H vs Q E hr h=> ?_)
 ·obtain⟨a,ps,ts,L,pk,R,N,rs,cs,i,t,rfl,_⟩:=h;rfl
 ·obtain⟨a,ps,ts,L,pk,R,N,rs,cs,i,t,rfl,F,sJ,hi,e,k⟩:=h;have hu:=dv hr;obtain⟨dx,ho⟩:=F.ob;obtain⟨kv,b,f1,f2,f3,f4⟩:=F.floor sJ hi;refine⟨_,(aq (aH (iB (aA D8 hr rfl T.Fh T.wV.kp T.Fn .nil aB (aa (pv 1) ae)) (iG (Sx (Q_ hu (bb du (pv 1) ao (fun _ _=>rfl)) (pK hu (dr (pv 0) rfl) (bb du (pv 1) ao (fun _ _=>rfl)) j8 ⟨rfl,rfl,rfl,rfl⟩))))))),?_⟩;refine⟨_,rfl,t,_,_,rfl,e,_,rfl,eT ⟨_,rfl,t,_,1,_,rfl,rfl,mr.of e,rfl,_,rfl,a.f,A.aj,dx,_,_,rfl,ho,T.az,T.eB,yk _ _ _,a.fa,rfl,.inl ⟨_,.inl f1⟩,_,rfl,t,_,0,_,rfl,rfl,mr.of e,rfl,fun e0 Fp=> ?_⟩⟩;have s1:=aw.upd (o:= .dK []) Fp;refine⟨_,eK.k (k:= .inl ((R.getD i (0,0)).1:Int)) (s1 _ _ f1),?_⟩;rw[f2];refine⟨b,_,rfl,eK.k (k:= .inl (bc R i:Int)) (s1 _ _ f3),?_⟩;rw[f4];exact k _ s1
def LL(C:Addr):Sp:=fun vs H Q _=>∃a ps ts L pk R N rs cs v,vs=[.ref a.f,v]∧aQ C H a ps ts L pk R N rs cs∧(∀r∈R,1≤r.2)∧(v= .bC∨(∃i:Int,v= .int i)∨∃i t,v= .ref t∧i<R.length∧H t=some (.tup (lU (R.getD i (0,0)).1 (bc R i))))∧∀H',aw H H'→Q (.bl true) H'
def QD:Sp:=fun vs H Q E=>Hw vs H Q E∨Gq vs H Q E
theorem vH(T:Txt K mg A):bu P w K mg base eF 1 A.ip A.ib ["thing"] QD:=
 ⟨fun vs H Q E h=>h.elim ((iT (P:=P) (w:=w) (base:=base) T).len vs H Q E) ((om (P:=P) (w:=w) (base:=base) T).len vs H Q E),fun A outer s H args us vs Q E hr he hb hv hs=>hs.elim ((iT T).run A outer s H args us vs Q E hr he hb hv) ((om T).run A outer s H args us vs Q E hr he hb hv)⟩
theorem jA(T:Txt K mg A):bu P w K mg base eF 5 A.gK A.gP ["self","thing"] (LL A.aj):=by
 have jt:=md (P:=P) (w:=w) (base:=base) T;have ie:=(vH (P:=P) (w:=w) (base:=base) T).mono (by decide:_≤4);refine T.rS.ok pH (fun vs H Q E h=> ?_) (fun cJ Ar outer s H vs Q E hr h=> ?_)
 ·obtain⟨a,ps,ts,L,pk,R,N,rs,cs,v,rfl,_⟩:=h;rfl
 ·obtain⟨a,ps,ts,L,pk,R,N,rs,cs,v,rfl,F,sJ,hv,k⟩:=h;obtain⟨dx,ho⟩:=F.ob;refine⟨_,(aq (aH (Qq (fq rM (pv 1) cG (br _)) (Qq (aA ie hr rfl T.mW T.ik.kp T.nr .nil aB (aa (pv 1) ae)) (iG (bg (pv 0) T.az T.m6 jt hr T.nB .nil aB (aa (pv 1) ae))))))),?_⟩;rcases hv with rfl|⟨i,rfl⟩|⟨i,t,rfl,hi,e⟩
  ·exact⟨_,rfl,rfl,_,rfl,eT (k _ (aw.refl H))⟩
  ·exact⟨_,rfl,rfl,_,rfl,dH ⟨_,rfl,.inl ⟨i,rfl,_,rfl,eT (k _ (aw.refl H))⟩⟩⟩
  ·exact⟨_,rfl,rfl,_,rfl,dH ⟨_,rfl,.inr ⟨t,_,rfl,e,_,rfl,dH ⟨_,rfl,a.f,dx,_,rfl,ho,aR (by decide+kernel),_,rfl,a,ps,ts,L,pk,R,N,rs,cs,i,t,rfl,F,sJ,hi,e,k⟩⟩⟩⟩
def A_(C:Addr):Sp:=fun vs H Q _=>∃a ps ts L pk R N rs cs i t,vs=[.ref a.f,.ref t]∧aQ C H a ps ts L pk R N rs cs∧(∀r∈R,1≤r.2)∧ps.length=ts.length∧i<R.length∧ts[(R.getD i (0,0)).1]? =some none∧H t=some (.tup (lU (R.getD i (0,0)).1 (bc R i)))∧∀H',aw H H'→Q (.ref (rs.getD i 0)) H'
theorem jn(T:Txt K mg A):bu P w K mg base eF 6 A.gc A.gs ["self","thing"] (A_ A.aj):=by
 have jt:=(md (P:=P) (w:=w) (base:=base) T).mono (by decide:_≤5);have pJ:=oQ (P:=P) (w:=w) (base:=base) T;refine T.qy.ok ja (fun vs H Q E h=> ?_) (fun cJ Ar outer s H vs Q E hr h=> ?_)
 ·obtain⟨a,ps,ts,L,pk,R,N,rs,cs,i,t,rfl,_⟩:=h;rfl
 ·obtain⟨a,ps,ts,L,pk,R,N,rs,cs,i,t,rfl,F,sJ,hl,hi,iP,e,k⟩:=h;have hu:=dv hr;obtain⟨dx,ho⟩:=F.ob;refine⟨_,(ai (b_ (eS (dW (bg (pv 0) T.az T.m6 jt hr T.nB .nil aB (aa (pv 1) ae)))) (aq dD) bh) (ai (aZ (i:=2) ja.nd rfl (Or.inl rfl) (bg (pv 0) T.az T.pP pJ hr T.pG .nil aB (aa (bb du (pv 1) ao (fun _ _=>rfl)) ae))) (ai (b_ (ba tM (pv 2) cG (br _)) (aq dD) bh) (aq (aH (aX hu (aX hu (dr (pv 0) rfl) (bb du (pv 1) ao (fun _ _=>rfl)) (fun _ _=>rfl)) (bb du (pv 1) ao (fun _ _=>rfl)) (fun _ _=>rfl))))))),?_⟩;refine⟨_,rfl,a.f,dx,_,rfl,ho,aR (by decide+kernel),_,rfl,a,ps,ts,L,pk,R,N,rs,cs,i,t,rfl,F,sJ,hi,e,fun H1 s1=>⟨_,rfl,?_⟩⟩;have F1:=F.same s1;have e1:=s1 _ _ e;obtain⟨Io,BK⟩:=F1.ob;obtain⟨kv,b,f1,f2,f3,f4⟩:=F1.floor sJ hi;refine⟨_,rfl,a.f,Io,_,rfl,BK,aR (by decide+kernel),_,rfl,t,_,0,_,rfl,rfl,mr.of e1,rfl,a.f,a.pa,a.ta,ps,ts,(R.getD i (0,0)).1,none,rfl,F1.fr,hl,iP,?_⟩;refine⟨_,rfl,rfl,_,rfl,?_⟩;refine⟨_,rfl,a.f,A.aj,Io,_,_,rfl,BK,T.az,T.eB,yk _ _ _,_,rfl,t,_,0,_,rfl,rfl,mr.of e1,rfl,a.fa,.ref b,rfl,?_,_,rfl,t,_,1,_,rfl,rfl,mr.of e1,rfl,b,.ref (rs.getD i 0),rfl,?_,k H1 s1⟩
  ·have:=eK.k (k:= .inl ((R.getD i (0,0)).1:Int)) f1;rw[f2] at this;exact this
  ·have:=eK.k (k:= .inl (bc R i:Int)) f3;rw[f4] at this;exact this
def BL:Sp:=fun vs H Q _=>∃(b:Addr) (xs:ax) (k:Nat),vs=[.ref b,.int k]∧H b=some (.lst xs)∧k<xs.length∧Q .bC H
theorem yM(T:Txt K mg A):bu P w K mg base eF 3 A.m9 A.mx ["room","thing"] BL:=by
 have fG:=jC (P:=P) (w:=w) (base:=base) T;refine T.so.ok yz (fun vs H Q E h=> ?_) (fun cJ Ar outer s H vs Q E hr h=> ?_)
 ·obtain⟨b,xs,k,rfl,_⟩:=h;rfl
 ·obtain⟨b,xs,k,rfl,hb,hk,q⟩:=h;refine⟨_,(aq (b_ (eS (dW (aA fG hr rfl T.lq T.iW.kp T.ky .nil aB (aa (pv 1) (aa ao (aa (bt mI (aT bp (by rfl) T.fK Boot.«len» (aa (pv 0) ae)) ao) ae)))))) (aq dD) bh)),?_⟩;refine⟨_,rfl,_,rfl,b,_,rfl,.inl (bD.of hb),_,1,rfl,rfl,(k:Int),0,_,rfl,_,rfl,?_⟩;rw[decide_eq_true (show(0:Int)≤(k:Int) by lia),decide_eq_true (show(k:Int)≤(xs.length:Int) - 1 by lia)];exact q
structure uN(H:Hp)(ts:ay)(R:Rm)(i:Nat)(t:Addr):Prop where
 hi:i<R.length
 st:ts[(R.getD i (0,0)).1]? =some none
 e:H t=some (.tup (lU (R.getD i (0,0)).1 (bc R i)))
theorem uN.same{H H' :Hp}{ts:ay}{R:Rm}{i:Nat}{t:Addr}(w:uN H ts R i t)(s:aw H H'):uN H' ts R i t:=⟨w.hi,w.st,s _ _ w.e⟩
def Lp(C:Addr):Sp:=fun vs H Q _=>∃a ps ts L pk R N rs cs i t xs,vs=[.ref a.f,.ref t]∧aQ C H a ps ts L pk R N rs cs∧(∀r∈R,1≤r.2)∧ps.length=ts.length∧uN H ts R i t∧cs[i]? =some xs∧∀l H',H l=none→aw H H'→H' l=some (.lst xs)→Q (.ref l) H'
theorem mv(T:Txt K mg A):bu P w K mg base eF 7 A.jY A.jO ["self","way"] (Lp A.aj):=by
 have fV:=jn (P:=P) (w:=w) (base:=base) T;refine T.vW.ok uA (fun vs H Q E h=> ?_) (fun cJ Ar outer s H vs Q E hr h=> ?_)
 ·obtain⟨a,ps,ts,L,pk,R,N,rs,cs,i,t,xs,rfl,_⟩:=h;rfl
 ·obtain⟨a,ps,ts,L,pk,R,N,rs,cs,i,t,xs,rfl,F,sJ,hl,wa,hc,q⟩:=h;obtain⟨dx,ho⟩:=F.ob;refine⟨_,(aq (aH (cx yr (by rfl) T.pE Boot.«list» (aa (bg (pv 0) T.az T.jD fV hr T.jx .nil aB (aa (pv 1) ae)) ae)))),?_⟩;refine⟨_,rfl,a.f,dx,_,rfl,ho,aR (by decide+kernel),_,rfl,a,ps,ts,L,pk,R,N,rs,cs,i,t,rfl,F,sJ,hl,wa.hi,wa.st,wa.e,fun H1 s1=> ?_⟩;obtain⟨r1,r2,ys,r3,r4⟩:=(F.same s1).room wa.hi;rw[hc] at r3;cases r3;exact⟨rs.getD i 0,_,rfl,.inl (bD.of r4),fun l hl=>q l _ (s1.free hl) (s1.trans (aw.upd hl)) af⟩
def wR(H:Hp)(R:Rm)(v:V):Prop:=v= .bC∨(∃i:Int,v= .int i)∨∃i t,v= .ref t∧i<R.length∧H t=some (.tup (lU (R.getD i (0,0)).1 (bc R i)))
theorem wR.same{H H' :Hp}{R:Rm}{v:V}(h:wR H R v)(s:aw H H'):wR H' R v:=by
 rcases h with h|h|⟨i,t,h1,h2,h3⟩
 ·exact .inl h
 ·exact .inr (.inl h)
 ·exact .inr (.inr ⟨i,t,h1,h2,s _ _ h3⟩)
def WE(C:Addr):Sp:=fun vs H Q _=>∃a ps ts L pk R N rs cs i t xs k v,vs=[.ref a.f,.ref t,.int (k:Nat),v]∧aQ C H a ps ts L pk R N rs cs∧(∀r∈R,1≤r.2)∧ps.length=ts.length∧uN H ts R i t∧cs[i]? =some xs∧k<xs.length∧wR H R v∧∀H2,aw H H2→Q .bC (upd H2 (rs.getD i 0) (.lst (xs.set k v)))
theorem xl(T:Txt K mg A):bu P w K mg base eF 7 A.ny A.mD ["self","way","k","value"] (WE A.aj):=by
 have fV:=jn (P:=P) (w:=w) (base:=base) T;have yT:=(yM (P:=P) (w:=w) (base:=base) T).mono (by decide:_≤6);have gL:=(jA (P:=P) (w:=w) (base:=base) T).mono (by decide:_≤6);refine T.AG.ok qu (fun vs H Q E h=> ?_) (fun cJ Ar outer s H vs Q E hr h=> ?_)
 ·obtain⟨a,ps,ts,L,pk,R,N,rs,cs,i,t,xs,k,v,rfl,_⟩:=h;rfl
 ·obtain⟨a,ps,ts,L,pk,R,N,rs,cs,i,t,xs,k,v,rfl,F,sJ,hl,wa,hc,hk,hv,q⟩:=h;obtain⟨dx,ho⟩:=F.ob;refine⟨_,(ai (aZ (i:=4) qu.nd rfl (Or.inl rfl) (bg (pv 0) T.az T.jD fV hr T.jx .nil aB (aa (pv 1) ae))) (ai (bB (aA yT hr rfl T.zY T.so.kp T.zf .nil aB (aa (pv 4) (aa (pv 2) ae)))) (ai (b_ (eS (dW (bg (pv 0) T.az T.j2 gL hr T.ki .nil aB (aa (pv 3) ae)))) (aq dD) bh) (aq (oF (pv 3) (o8 (pv 4) (pv 2) wS)))))),?_⟩;refine⟨_,rfl,a.f,dx,_,rfl,ho,aR (by decide+kernel),_,rfl,a,ps,ts,L,pk,R,N,rs,cs,i,t,rfl,F,sJ,hl,wa.hi,wa.st,wa.e,fun H1 s1=> ?_⟩;have F1:=F.same s1;obtain⟨r1,r2,ys,r3,r4⟩:=F1.room wa.hi;rw[hc] at r3;cases r3;refine⟨_,rfl,_,rfl,rs.getD i 0,xs,k,rfl,r4,hk,?_⟩;obtain⟨Io,BK⟩:=F1.ob;refine⟨_,rfl,a.f,Io,_,rfl,BK,aR (by decide+kernel),_,rfl,a,ps,ts,L,pk,R,N,rs,cs,v,rfl,F1,sJ,hv.same s1,fun H2 s2=>⟨_,rfl,?_⟩⟩;have F2:=F1.same s2;refine⟨_,rfl,_,rfl,_,rfl,rs.getD i 0,xs,_,k,rfl,rfl,s2 _ _ r4,pR hk,?_⟩;exact q H2 (s1.trans s2)
end
def eL(f p:Nat):PyData:= .tuple [.int f,.int p]
theorem WF.begun{ps ts:ay}(W:WF ps ts){t:Nat}(ht:t<ps.length)(hle:ps.length≤100):WF (ps++[some t]) (ts++[none]):=by
 have hl:=W.len;refine⟨by simp[hl],by simp,by simp;lia,?_,fun i h0 hi=> ?_,fun i j e=> ?_⟩
 ·rw[List.getElem?_append_left W.pos];exact W.root
 ·by_cases YJ:i<ps.length
  ·rw[List.getElem?_append_left YJ];exact W.par i h0 YJ
  ·have e:i=ps.length:=by simp at hi;lia
   subst e;exact⟨t,by simp,ht⟩
 ·rw[List.length_append];by_cases YJ:i<ts.length
  ·rw[List.getElem?_append_left YJ] at e;have:=W.tk i j e
   lia
  ·rw[List.getElem?_append_right (by lia)] at e
   cases q:i - ts.length with
   |zero=>rw[q] at e;cases e
   |succ m=>rw[q] at e;simp at e
theorem qc(t:Nat):∀(E:List Nat) (ts:ay) (i:Nat),(wP t E ts)[i]? =ts[i]?∨(i∈E∧(wP t E ts)[i]? =some (some t))
 |[],ts,i=> .inl rfl
 |n::r,ts,i=>by
  rcases qc t r (ts.set n (some t)) i with h|⟨h1,h2⟩
  ·by_cases e:n=i
   ·subst e;by_cases hn:n<ts.length
    ·exact .inr ⟨List.mem_cons_self,by show(wP t r (ts.set n (some t)))[n]? =_;rw[h,List.getElem?_set_self hn]⟩
    ·refine .inl ?_;show(wP t r (ts.set n (some t)))[n]? =_;rw[h,List.getElem?_eq_none (by rw[List.length_set];lia),List.getElem?_eq_none (by lia)]
   ·refine .inl ?_;show(wP t r (ts.set n (some t)))[i]? =_;rw[h,List.getElem?_set_ne e]
  ·exact .inr ⟨List.mem_cons_of_mem _ h1,h2⟩
theorem WF.ended{ps ts:ay}(W:WF ps ts){t:Nat}(ht:t<ps.length)(E:List Nat):WF ps (wP t E ts):=by
 refine⟨by rw[mK];exact W.len,W.pos,W.le,W.root,W.par,fun i j e=> ?_⟩;rcases qc t E ts i with h|⟨_,h⟩
 ·rw[h] at e;exact W.tk i j e
 ·rw[h] at e;cases e;exact ht
theorem Ht{ps ts:ay}(W:WF ps ts){t:Nat}(h:t≠0):¬0∈bx ps ts t:=fun hm=>by
 have h1:=(List.mem_filter.mp hm).2;have h1:=of_decide_eq_true h1
 have e:hZ ps 0=[0]:=by
  show(yO ps 0 0).reverse=[0];rfl
 rw[e] at h1;simp at h1;exact h h1
structure Fits(B k:Nat)(d:PyData):Prop where
 sh:d.showable=true
 dp:d.depth≤k
 ln:d.shown.length≤B
theorem Fits.mono{B B' k k' :Nat}{d:PyData}(g:Fits B k d)(h:B≤B')(h' :k≤k'):Fits B' k' d:=⟨g.sh,Nat.le_trans g.dp h',Nat.le_trans g.ln h⟩
theorem uD{B k:Nat}:∀{ds:List PyData},(∀d∈ds,Fits B k d)→PyData.showableAll ds=true∧PyData.depthAll ds≤k∧((PyData.shownAll ds).map (·.length)).sum≤B*ds.length∧(PyData.shownAll ds).length=ds.length
 |[],_=>by simp[PyData.showableAll,PyData.depthAll,PyData.shownAll]
 |d::r,h=>by
  obtain⟨h1,h2,h3,h4⟩:=uD (ds:=r) fun x hx=>h x (List.mem_cons_of_mem _ hx);have g:=h d List.mem_cons_self;have gl:=g.ln;refine⟨?_,?_,?_,?_⟩
  ·simp only[PyData.showableAll,g.sh,h1,Bool.and_self]
  ·simp only[PyData.depthAll];exact Nat.max_le.mpr ⟨g.dp,h2⟩
  ·simp only[PyData.shownAll,List.map_cons,List.sum_cons,List.length_cons,Nat.mul_add,Nat.mul_one]
   lia
  ·simp only[PyData.shownAll,List.length_cons,h4]
theorem Fits.list{B k:Nat}{ds:List PyData}(h:∀d∈ds,Fits B k d):Fits (B*ds.length+2*ds.length+3) (k+1) (.list ds):=by
 obtain⟨h1,h2,h3,h4⟩:=uD h;refine⟨?_,?_,?_⟩
 ·simp only[PyData.showable,h1]
 ·simp only[PyData.depth]
  lia
 ·simp only[PyData.shown];have:=listText_len_le (PyData.shownAll ds);rw[h4] at this
  lia
theorem uw{n:Nat}(h:n≤1000):Fits 5 1 (.int n):=by
 refine⟨?_,?_,?_⟩
 ·simp only[PyData.showable];exact decide_eq_true (Fb h)
 ·simp[PyData.depth]
 ·simp only[PyData.shown];rw[PySem.ofString_length];exact PySem.int_text_length_le10 (k:=4) (by decide) (by rw[Int.natAbs_natCast];lia)
theorem Fits.tup{B k:Nat}{ds:List PyData}(h:∀d∈ds,Fits B k d):Fits (B*ds.length+2*ds.length+3) (k+1) (.tuple ds):=by
 obtain⟨h1,h2,h3,h4⟩:=uD h;refine⟨?_,?_,?_⟩
 ·simp only[PyData.showable,h1]
 ·simp only[PyData.depth]
  lia
 ·simp only[PyData.shown];have:=tupleText_len_le (PyData.shownAll ds);rw[h4] at this
  lia
theorem Fits.rep{B k:Nat}{d:PyData}(g:Fits B k d)(hB:B≤100000)(hk:k≤90):d.showable=true∧d.depth≤90∧d.shown.length≤sizeLine:=⟨g.sh,Nat.le_trans g.dp hk,Nat.le_trans g.ln (Nat.le_of_lt (bJ hB))⟩
theorem wk{x:Str}(h:(PyData.str x).shown.length≤10):Fits 100 3 (.str x):=by
 refine⟨?_,?_,Nat.le_trans h (by decide)⟩
 ·simp only[PyData.showable]
 ·simp[PyData.depth]
theorem Xb{n p:Nat}(h1:n≤1000)(h2:p≤1000):Fits 100 3 (.tuple [.int n,.int p]):=by
 refine(Fits.tup (B:=5) (k:=1) fun d hd=> ?_).mono (by show 5*2+2*2+3≤100;decide) (by decide);simp only[List.mem_cons,List.not_mem_nil,or_false] at hd;rcases hd with rfl|rfl
 ·exact uw h1
 ·exact uw h2
theorem Il{i:Int}(h:i.natAbs<10 ^ 40):Fits 100 3 (.int i):=by
 refine⟨?_,?_,?_⟩
 ·simp only[PyData.showable];refine decide_eq_true ?_;by_cases h0:i.natAbs=0
  ·rw[h0];decide
  ·refine(Nat.log2_lt h0).mpr (Nat.lt_trans h ?_);decide+kernel
 ·simp[PyData.depth]
 ·simp only[PyData.shown];rw[PySem.ofString_length];exact Nat.le_trans (PySem.int_text_length_le10 (k:=40) (by decide) h) (by decide)
theorem Ei:Fits 100 3 .none:=by
 refine⟨?_,?_,?_⟩
 ·simp only[PyData.showable]
 ·simp[PyData.depth]
 ·simp only[PyData.shown];decide+kernel
theorem Hy{f p:Nat}(h1:f≤100000)(h2:p≤100000):Fits 1000 4 (eL f p):=by
 have h:∀n:Nat,n≤100000→Fits 100 3 (.int (n:Int)):=fun n hn=>Il (Nat.lt_of_le_of_lt (show(n:Int).natAbs≤100000 by rw[Int.natAbs_natCast];exact hn) (by decide+kernel));refine(Fits.tup (B:=100) (k:=3) fun d hd=> ?_).mono (by show 100*2+2*2+3≤1000;decide) (by decide);simp only[List.mem_cons,List.not_mem_nil,or_false] at hd;rcases hd with rfl|rfl
 ·exact h f h1
 ·exact h p h2
theorem xz{R:Rm}{i:Nat}(hi:i<R.length):R.getD i (0,0)∈R:=List.mem_of_getElem? (cj (0,0) hi)
theorem IZ(R:Rm)(h:∀r∈R,r.2≤6)(i:Nat):bc R i≤6*R.length:=by
 unfold bc;refine Nat.le_trans (CH (R:=R.take i) (fun r hr=>h r (List.mem_of_mem_take hr)) _) ?_;rw[List.length_take]
 lia
def xv(R:Rm)(cs:cE)(H:Hp)(n:Nat)(o:Option Nat)(v:V):Prop:=∃t tt xs,v= .ref t∧H t=some (.tup [.int n,oV o,.ref tt])∧H tt=some (.tup xs)∧xs.length=(aS R n).length∧∀(j:Nat) x,xs[j]? =some x→∃u m vs,x= .ref u∧(aS R n)[j]? =some m∧cs[m]? =some vs∧H u=some (.tup vs)
theorem xv.kept{R:Rm}{cs:cE}{H H' :Hp}{n:Nat}{o:Option Nat}{v:V}(h:xv R cs H n o v)(k:∀c xs,H c=some (.tup xs)→H' c=some (.tup xs)):xv R cs H' n o v:=by
 obtain⟨t,tt,xs,h1,h2,h3,h4,h5⟩:=h;refine⟨t,tt,xs,h1,k _ _ h2,k _ _ h3,h4,fun j x e=> ?_⟩;obtain⟨u,m,vs,e1,e2,e3,e4⟩:=h5 j x e;exact⟨u,m,vs,e1,e2,e3,k _ _ e4⟩
def vg(ps ts:ay)(L:Nat)(R:Rm)(cs:cE)(H:Hp)(v:V):Prop:=∃t tt xs,v= .ref t∧H t=some (.tup [.int L,.ref tt])∧H tt=some (.tup xs)∧xs.length=(au ts).length∧∀(j:Nat) x,xs[j]? =some x→∃n o,(au ts)[j]? =some n∧ps[n]? =some o∧xv R cs H n o x
theorem vg.kept{ps ts:ay}{L:Nat}{R:Rm}{cs:cE}{H H' :Hp}{v:V}(h:vg ps ts L R cs H v)(k:∀c xs,H c=some (.tup xs)→H' c=some (.tup xs)):vg ps ts L R cs H' v:=by
 obtain⟨t,tt,xs,h1,h2,h3,h4,h5⟩:=h;refine⟨t,tt,xs,h1,k _ _ h2,k _ _ h3,h4,fun j x e=> ?_⟩;obtain⟨n,o,e1,e2,e3⟩:=h5 j x e;exact⟨n,o,e1,e2,e3.kept k⟩
section
variable{P:Program}{w:World}{K:Frag}{mg:Str→aN}{base:Heap}{A:qH}
def Iw(C:Addr):Sp:=fun vs H Q _=>∃f pa ta ps ts,∃(t:Nat) (o:Option Nat),vs=[.ref f,.int t]∧iS C H f pa ta ps ts∧ps[t]? =some o∧Q (oV o) H
theorem qU(T:Txt K mg A):bu P w K mg base eF 5 A.ix A.iD ["self","frame"] (Iw A.aj):=by
 have bL:=cR (P:=P) (w:=w) (base:=base) T;refine T.tI.ok qS (fun vs H Q E h=> ?_) (fun cJ Ar outer s H vs Q E hr h=> ?_)
 ·obtain⟨f,pa,ta,ps,ts,t,o,rfl,_⟩:=h;rfl
 ·obtain⟨f,pa,ta,ps,ts,t,o,rfl,F,hx,k⟩:=h;obtain⟨⟨dx,z,ho⟩,hp,ht,ne⟩:=id F;have hj:t<ps.length:=(List.getElem?_eq_some_iff.mp hx).1
  have hb:gO ps (t:Int)=true:=by
   unfold gO;rw[decide_eq_true (show(0:Int)≤t by lia),decide_eq_true (show(t:Int)≤(ps.length:Int) - 1 by lia)];rfl
  refine⟨_,(ai (bB (bg (pv 0) T.az T.cW bL hr T.cX .nil aB (aa (pv 1) ae))) (aq (aH (bb bj (dr (pv 0) rfl) (pv 1) (fun _ _=>rfl))))),?_⟩;refine⟨_,rfl,f,dx,_,rfl,ho,aR (by decide+kernel),_,rfl,f,pa,ta,ps,ts,t,rfl,F,hb,?_⟩;exact⟨_,rfl,f,A.aj,dx,_,_,rfl,ho,T.az,T.dR,yB _ _ _,_,rfl,pa,_,_,_,rfl,rfl,bD.of hp,mU hx,k⟩
def Mj(C:Addr):Sp:=fun vs H Q _=>∃a ps ts L pk R N rs cs,∃t:Nat,vs=[.ref a.f,.int t]∧aQ C H a ps ts L pk R N rs cs∧ps.length=ts.length∧ts[t]? =some none∧R.length≤1000∧
 ∀l ys H',H l=none→aw H H'→H' l=some (.lst ys)→ys.length=(aS R t).length→(∀j v,ys[j]? =some v→∃wt,v= .ref wt∧H' wt=some (.tup (lU t (bc R ((aS R t).getD j 0)))))→Q (.ref l) H'
theorem mF(T:Txt K mg A):bu P w K mg base eF 6 A.jL A.jW ["self","frame"] (Mj A.aj):=by
 have bA:=cc (P:=P) (w:=w) (base:=base) T;refine T.vZ.ok uK (fun vs H Q E h=> ?_) (fun cJ Ar outer s H vs Q E hr h=> ?_)
 ·obtain⟨a,ps,ts,L,pk,R,N,rs,cs,t,rfl,_⟩:=h;rfl
 ·obtain⟨a,ps,ts,L,pk,R,N,rs,cs,t,rfl,F,hl,iP,hR,q⟩:=h;have hu:=dv hr;obtain⟨dx,ho⟩:=F.ob
  have WX:cB ts (t:Int)=true:=by
   unfold cB;rw[decide_eq_true (show(0:Int)≤t by lia),Int.toNat_natCast,iP];rfl
  obtain⟨kv,f1,f2,f3,f4⟩:=F.fl;have An:=iU R t;refine⟨_,(ai (bB (bg (pv 0) T.az T.cq bA hr T.cu .nil aB (aa (pv 1) ae))) (aq (aH (DG (b9 (N:=["place","frame"]) (k:=1) (js:=[1]) rfl (bq (by kernel_rfl)) (CB (pK hu (dr (pv 0) rfl) (pv 1) j8 ⟨rfl,rfl,rfl,rfl⟩)) (fun _ _ _ _ _=>⟨(a_ (i:=0) (show(["place","frame"]:aO).Nodup by decide+kernel) rfl (Or.inl rfl) (Or.inr rfl)),qF,(gT (aa (pv 1) (aa (pv 0) ae)))⟩)))))),?_⟩;refine⟨_,rfl,a.f,dx,_,rfl,ho,aR (by decide+kernel),_,rfl,a.f,a.pa,a.ta,ps,ts,t,rfl,F.fr,hl,WX,?_⟩;refine⟨_,rfl,a.f,A.aj,dx,_,_,rfl,ho,T.az,T.eB,yk _ _ _,a.fa,rfl,.inl ⟨_,.inl f1⟩,_,rfl,fun e0 Fp=> ?_⟩;have s1:=aw.upd (o:= .dK []) Fp
  have hd:∃d,((bN kv (.inl (t:Int))).getD (V.ref e0))= .ref d∧upd H e0 (.dK []) d=some (.dK (cH R rs t)):=by
   rcases f3 t with⟨h1,h2⟩|⟨b,e1,e2,e3,e4,e5⟩
   ·rw[h1];refine⟨e0,rfl,?_⟩;unfold cH;rw[h2];exact af
   ·rw[e1];exact⟨b,rfl,s1 _ _ e5⟩
  obtain⟨d,yP,hd2⟩:=hd;generalize upd H e0 (.dK [])=H1 at s1 hd2;refine⟨_,eK.k (k:= .inl (t:Int)) (s1 _ _ f1),?_⟩;show ∃a kvs,(bN kv (.inl (t:Int))).getD (V.ref e0)= .ref a∧_;rw[yP];refine⟨d,_,rfl,hd2,fun o nf=> ?_⟩;have tq:upd H1 d (.fB o (.dK (cH R rs t))) d=some (.fB o (.dK (cH R rs t))):=af;have BE:(cH R rs t).length=(aS R t).length:=List.length_map ..;refine qD (fun j v H' =>∃wt,v= .ref wt∧H' wt=some (.tup (lU t (bc R ((aS R t).getD j 0))))) (t_ tq) (by rw[BE];exact Nat.le_of_lt (bJ (by lia))) ?_ ?_ ?_
  ·rintro j v Ha Hb k ⟨wt,h1,h2⟩
   exact⟨wt,h1,k _ _ h2⟩
  ·intro j x H' C1 hj sm hx c1;rw[BE] at hj;obtain⟨kk,vv,h1,rfl⟩:=hx;unfold cH at h1;rw[List.getElem?_map,cj 0 hj] at h1;cases h1;exact⟨(dU.refl _).own (by decide),_,rfl,_,rfl,(show 2≤sizeLine by decide),fun wt Kr=>c1 _ _ (aw.upd Kr) ⟨wt,rfl,af⟩⟩
  ·intro p H' ys hp sm QE ju YL;refine⟨d,o,_,sm _ _ tq,nf,?_⟩;have pd:p≠d:=fun z=>by rw[z,tq] at hp;cases hp
   have L8:H1 p=none:=by rw[ah pd] at hp;exact hp
   refine q p ys _ (s1.free L8) (fun c oo e=> ?_) (by rw[ah pd];exact QE) (by rw[ju,BE]) fun j v e=> ?_
   ·by_cases z:c=d
    ·subst z;have:=s1 _ _ e;rw[hd2] at this;cases this;exact af
    ·rw[ah z];exact sm _ _ (by rw[ah z];exact s1 _ _ e)
   ·obtain⟨wt,h1,h2⟩:=YL j v e;refine⟨wt,h1,?_⟩;rw[ah (fun z=>by rw[z,sm _ _ tq] at h2;cases h2)];exact h2
def Lu(C:Addr):Sp:=fun vs H Q _=>∃a ps ts L pk R N rs cs,∃(n:Nat) (o:Option Nat),vs=[.ref a.f,.int n]∧aQ C H a ps ts L pk R N rs cs∧(∀r∈R,1≤r.2)∧cs.length=R.length∧ps.length=ts.length∧ts[n]? =some none∧ps[n]? =some o∧R.length≤1000∧
 ∀v H',aw H H'→xv R cs H' n o v→Q v H'
theorem nP(T:Txt K mg A):bu P w K mg base eF 8 A.fE A.fC ["self","frame"] (Lu A.aj):=by
 have tD:=(qU (P:=P) (w:=w) (base:=base) T).mono (by decide:_≤7);have jQ:=(mF (P:=P) (w:=w) (base:=base) T).mono (by decide:_≤7);have jK:=mv (P:=P) (w:=w) (base:=base) T;refine T.oA.ok nO (fun vs H Q E h=> ?_) (fun cJ Ar outer s H vs Q E hr h=> ?_)
 ·obtain⟨a,ps,ts,L,pk,R,N,rs,cs,n,o,rfl,_⟩:=h;rfl
 ·obtain⟨a,ps,ts,L,pk,R,N,rs,cs,n,o,rfl,F,sJ,sP,hl,iP,SX,hR,q⟩:=h;have hu:=dv hr;obtain⟨dx,ho⟩:=F.ob;have An:=iU R n;refine⟨_,(aq (aH (gT (aa (pv 1) (aa (bg (pv 0) T.az T.tf tD hr T.tF .nil aB (aa (pv 1) ae)) (aa (cx eV (by rfl) T.gW Boot.«tuple» (aa (b9 (N:=["way","self"]) (k:=1) (js:=[0]) rfl (bq (by kernel_rfl)) (cQ (bg (pv 0) T.az T.nT jQ hr T.nQ .nil aB (aa (pv 1) ae))) (fun _ _ _ _ _=>⟨(a_ (i:=0) (show(["way","self"]:aO).Nodup by decide+kernel) rfl (Or.inl rfl) (Or.inr rfl)),qF,(cx (mH (K:=K) rfl) (by rfl) T.gW Boot.«tuple» (aa (bg (pv 1) T.az T.oq jK hr T.oe .nil aB (aa (pv 0) ae)) ae))⟩)) ae)) ae)))))),?_⟩;refine⟨_,rfl,_,rfl,a.f,dx,_,rfl,ho,aR (by decide+kernel),_,rfl,a.f,a.pa,a.ta,ps,ts,n,o,rfl,F.fr,SX,?_⟩;refine⟨_,rfl,a.f,dx,_,rfl,ho,aR (by decide+kernel),_,rfl,a,ps,ts,L,pk,R,N,rs,cs,n,rfl,F,hl,iP,hR,fun l ys H1 Ec s1 Bu ju YL=> ?_⟩;refine⟨l,rfl,⟨_,bD.of Bu⟩,?_⟩;refine qD (fun j v H' =>∃u m vs,v= .ref u∧(aS R n)[j]? =some m∧cs[m]? =some vs∧H' u=some (.tup vs)) (gJ (bD.of Bu)).g (by rw[ju];exact Nat.le_of_lt (bJ (by lia))) ?_ ?_ ?_
  ·rintro j v Ha Hb kt ⟨u,m,vs,h1,h2,h3,h4⟩
   exact⟨u,m,vs,h1,h2,h3,kt _ _ h4⟩
  ·intro j x H' C1 hj sm hx c1;obtain⟨wt,rfl,hw⟩:=YL j x hx;rw[ju] at hj;have ei:=cj 0 hj;generalize (aS R n).getD j 0=m at ei hw;have hm:=dy (List.mem_of_getElem? ei);have Yl:=gH (List.mem_of_getElem? ei);have F' :=(F.same s1).same sm;obtain⟨NY,yS⟩:=F'.ob;have hcm:cs[m]? =some cs[m]:=by simp
   refine⟨(dU.refl _).own (by decide),?_⟩;refine⟨_,rfl,a.f,NY,_,rfl,yS,aR (by decide+kernel),_,rfl,a,ps,ts,L,pk,R,N,rs,cs,m,wt,cs[m],rfl,F',sJ,hl,⟨hm,(by rw[Yl];exact iP),(by rw[Yl];exact sm _ _ hw)⟩,hcm,fun l2 H2 vi s2 e2=> ?_⟩;exact⟨l2,_,rfl,.inl ⟨bD.of e2,fun u hu=>c1 _ _ (s2.trans (aw.upd hu)) ⟨u,m,_,rfl,ei,hcm,af⟩⟩⟩
  ·intro p H2 Ef hp sm A3 Bq hE;refine⟨p,_,rfl,.inl ⟨bD.of A3,fun tt Sk=>⟨(show 3≤sizeLine by decide),fun t ht=> ?_⟩⟩⟩;have s3:=aw.upd (o:= .tup Ef) Sk;have s4:=aw.upd (o:= .tup [V.int n,oV o,.ref tt]) ht;refine q _ _ (s1.trans (sm.trans (s3.trans s4))) ⟨t,tt,Ef,rfl,af,s4 _ _ af,by rw[Bq,ju],fun j x e=> ?_⟩;obtain⟨u,m,vs,e1,e2,e3,e4⟩:=hE j x e;exact⟨u,m,vs,e1,e2,e3,s4 _ _ (s3 _ _ e4)⟩
def Ej(C:Addr):Sp:=fun vs H Q _=>∃a ps ts L pk R N rs cs,vs=[.ref a.f]∧aQ C H a ps ts L pk R N rs cs∧(∀r∈R,1≤r.2)∧cs.length=R.length∧ps.length=ts.length∧ts.length≤101∧R.length≤1000∧
 ∀v H',aw H H'→vg ps ts L R cs H' v→Q v H'
theorem rj(T:Txt K mg A):bu P w K mg base eF 9 A.iE A.iy ["self"] (Ej A.aj):=by
 have oG:=nP (P:=P) (w:=w) (base:=base) T;have bS:=(dA (P:=P) (w:=w) (base:=base) T).mono (by decide:_≤8);refine T.sW.ok rh (fun vs H Q E h=> ?_) (fun cJ Ar outer s H vs Q E hr h=> ?_)
 ·obtain⟨a,ps,ts,L,pk,R,N,rs,cs,rfl,_⟩:=h;rfl
 ·obtain⟨a,ps,ts,L,pk,R,N,rs,cs,rfl,F,sJ,sP,hl,YG,hR,q⟩:=h;have hu:=dv hr;obtain⟨dx,ho⟩:=F.ob;have mq:=gk ts;refine⟨_,(aq (aH (gT (aa (dr (pv 0) rfl) (aa (cx eV (by rfl) T.gW Boot.«tuple» (aa (b9 (N:=["number","self"]) (k:=1) (js:=[0]) rfl (bq (by kernel_rfl)) (cQ (dP (pv 0) T.az T.d7 bS hr T.dZ .nil aB)) (fun _ _ _ _ _=>⟨(a_ (i:=0) (show(["number","self"]:aO).Nodup by decide+kernel) rfl (Or.inl rfl) (Or.inr rfl)),qF,(bg (pv 1) T.az T.oK oG hr T.pq .nil aB (aa (pv 0) ae))⟩)) ae)) ae))))),?_⟩;refine⟨_,rfl,a.f,A.aj,dx,_,_,rfl,ho,T.az,T.jG,GR _ _ _,?_⟩;refine⟨_,rfl,a.f,dx,_,rfl,ho,aR (by decide+kernel),a.f,a.pa,a.ta,ps,ts,rfl,F.fr,by lia,fun sl H1 Wz s1 zI=> ?_⟩;refine⟨sl,rfl,⟨_,bD.of zI⟩,?_⟩;refine qD (fun j v H' =>∃n o,(au ts)[j]? =some n∧ps[n]? =some o∧xv R cs H' n o v) (gJ (bD.of zI)).g (by rw[List.length_map];exact Nat.le_of_lt (bJ (by lia))) ?_ ?_ ?_
  ·rintro j v Ha Hb kt ⟨n,o,h1,h2,h3⟩
   exact⟨n,o,h1,h2,h3.kept kt⟩
  ·intro j x H' C1 hj sm hx c1;rw[List.getElem?_map] at hx
   cases en:(au ts)[j]? with
   |none=>rw[en] at hx;cases hx
   |some n=>
    rw[en] at hx;cases hx;have F' :=(F.same s1).same sm;obtain⟨NY,yS⟩:=F'.ob;have iP:ts[n]? =some none:=eq_of_beq (cw.mp (List.mem_of_getElem? en))
    have AW:n<ps.length:=by
     have:=(List.getElem?_eq_some_iff.mp iP).1
     lia
    have Lf:ps[n]? =some ps[n]:=by simp[AW]
    exact⟨(dU.refl _).own (by decide),_,rfl,a.f,NY,_,rfl,yS,aR (by decide+kernel),_,rfl,a,ps,ts,L,pk,R,N,rs,cs,n,_,rfl,F',sJ,sP,hl,iP,Lf,hR,fun v H2 s2 pf=>c1 _ _ s2 ⟨n,_,en,Lf,pf⟩⟩
  ·intro p H2 Ef hp sm A3 Bq hE;rw[List.length_map] at Bq;refine⟨p,_,rfl,.inl ⟨bD.of A3,fun tt Sk=>⟨(show 2≤sizeLine by decide),fun t ht=> ?_⟩⟩⟩;have s3:=aw.upd (o:= .tup Ef) Sk;have s4:=aw.upd (o:= .tup [V.int L,.ref tt]) ht;refine q _ _ (s1.trans (sm.trans (s3.trans s4))) ⟨t,tt,Ef,rfl,af,s4 _ _ af,Bq,fun j x e=> ?_⟩;obtain⟨n,o,e1,e2,e3⟩:=hE j x e;exact⟨n,o,e1,e2,e3.kept fun c xs e=>s4 _ _ (s3 _ _ e)⟩
def Bf(C:Addr):Sp:=fun vs H Q _=>∃a ps ts L pk R N rs cs,vs=[.ref a.f]∧aQ C H a ps ts L pk R N rs cs∧Q (.int pk) H
theorem p_(T:Txt K mg A):bu P w K mg base eF 1 A.gG A.gM ["self"] (Bf A.aj):=by
 refine T.rL.ok p6 (fun vs H Q E h=> ?_) (fun cJ Ar outer s H vs Q E hr h=> ?_)
 ·obtain⟨a,ps,ts,L,pk,R,N,rs,cs,rfl,_⟩:=h;rfl
 ·obtain⟨a,ps,ts,L,pk,R,N,rs,cs,rfl,F,q⟩:=h;obtain⟨dx,ho⟩:=F.ob;refine⟨_,(aq (aH (dr (pv 0) rfl))),?_⟩;exact⟨_,rfl,a.f,A.aj,dx,_,_,rfl,ho,T.az,T.iN,HV _ _ _,q⟩
end
mutual
inductive mi (H:Hp):V→PyData→Prop
 |bC:mi H .bC .none
 |int (i:Int):mi H (.int i) (.int i)
 |str (x:Str):mi H (.str x) (.str x)
 |tup {a:Addr} {xs:ax} {ds:List PyData} (e:H a=some (.tup xs)) (h:bK H xs ds):mi H (.ref a) (.tuple ds)
inductive bK (H:Hp):ax→List PyData→Prop
 |nil:bK H [] []
 |cons {x:V} {xs:ax} {d:PyData} {ds:List PyData} (h:mi H x d) (t:bK H xs ds):bK H (x::xs) (d::ds)
end
mutual
theorem mi.dat{H:Hp}:∀{v:V} {d:PyData},mi H v d→Dat H v d
 |_,_,.bC=> .bC
 |_,_,.int i=> .int i
 |_,_,.str x=> .str x
 |_,_,.tup e h=> .tup e (bK.dat h)
theorem bK.dat{H:Hp}:∀{xs:ax} {ds:List PyData},bK H xs ds→DatAll H xs ds
 |_,_,.nil=> .nil
 |_,_,.cons h t=> .cons (mi.dat h) (bK.dat t)
end
mutual
theorem mi.kt{H H' :Hp}(k:∀c xs,H c=some (.tup xs)→H' c=some (.tup xs)):∀{v:V} {d:PyData},mi H v d→mi H' v d
 |_,_,.bC=> .bC
 |_,_,.int i=> .int i
 |_,_,.str x=> .str x
 |_,_,.tup e h=> .tup (k _ _ e) (bK.kt k h)
theorem bK.kt{H H' :Hp}(k:∀c xs,H c=some (.tup xs)→H' c=some (.tup xs)):∀{xs:ax} {ds:List PyData},bK H xs ds→bK H' xs ds
 |_,_,.nil=> .nil
 |_,_,.cons h t=> .cons (mi.kt k h) (bK.kt k t)
end
theorem bK.append{H:Hp}:∀{xs ys:ax} {ds es:List PyData},bK H xs ds→bK H ys es→bK H (xs++ys) (ds++es)
 |_,_,_,_,.nil,h=>h
 |_,_,_,_,.cons a t,h=> .cons a (t.append h)
theorem bI{H H' :Hp}(s:aw H H'):∀c xs,H c=some (.tup xs)→H' c=some (.tup xs):=fun c xs e=>s c _ e
theorem tN{J:It}{n k:Nat}{js:List Nat}{Y:Nat→V→Hp→Prop}{g:TG}{tt:TT}{te:TE}{σ:L2.St}{H:Hp}{Q:VK}(pb:Nat→Bool)(d:Nat→PyData)(F:nD J H n Y)(hlen:n≤sizeLine)
 (h8:∀(i:Nat) (x:V) (H' :Hp) (C1:V→Hp→Prop) (C0:Hp→Prop),i<n→aw H H'→Y i x H'→(pb i=true→∀v gi,aw H' gi→mi gi v (d i)→C1 v gi)→(pb i=false→∀gi,aw H' gi→C0 gi)→
  g x (rO k js σ) H' fun me H2=>dU (rO k js σ) me∧tt me H2 fun b H3=>if b=true then te me H3 C1 else C0 H3)
 (hq:∀p H' ys,H p=none→aw H H'→H' p=some (.lst ys)→bK H' ys (((List.range n).filter pb).map d)→ys.length≤n→Q (.ref p) H'):
 jf J k js g tt te σ H Q:=by
 intro p hp;refine⟨fun i m ys H' =>m=n - i∧i≤n∧ys.length≤i∧bK H' ys (((List.range i).filter pb).map d)∧H' p=some (.lst ys)∧aw H H',⟨n,rfl,Nat.zero_le _,Nat.le_refl _,.nil,af,aw.upd hp⟩,?_⟩
 rintro i m ys H' ⟨rfl,hi,hy,hd,hl,hs⟩
 refine⟨hl,?_⟩;by_cases gB:i<n
 ·refine .inr ⟨F.go i _ hs gB,by lia,fun x gi ju=> ?_⟩;obtain⟨s1,y1⟩:=F.tJ i _ x gi hs gB ju
  have et:(List.range (i+1)).filter pb=(List.range i).filter pb++(if pb i=true then[i] else[]):=by
   rw[List.range_succ,List.filter_append];cases hb:pb i<;>simp[hb]
  refine h8 i x gi _ _ gB (hs.trans s1) y1 (fun hb v H3 s3 e3=> ?_) (fun hb H3 s3=>⟨n - (i+1),by lia,rfl,gB,by lia,?_,s3 _ _ (s1 _ _ hl),(hs.trans s1).trans s3⟩)
  ·have QA:H3 p=some (.lst ys):=s3 _ _ (s1 _ _ hl)
   have kt:∀c xs,H3 c=some (.tup xs)→upd H3 p (.lst (ys++[v])) c=some (.tup xs):=fun c xs e=>by
    rw[ah (aG e QA (by intro z;cases z))];exact e
   refine⟨QA,n - (i+1),by lia,rfl,gB,by rw[List.length_append];show ys.length+1≤i+1;lia,?_,af,fun c o e=> ?_⟩
   ·rw[et,if_pos hb,List.map_append];exact((hd.kt (bI (s1.trans s3))).kt kt).append (.cons (e3.kt kt) .nil)
   ·rw[ah (ak e hp)];exact s3 _ _ (s1 _ _ (hs _ _ e))
  ·rw[et,hb];simp only[Bool.false_eq_true,if_false,List.append_nil];exact hd.kt (bI (s1.trans s3))
 ·have e:i=n:=by lia
  subst e;exact .inl ⟨F.stop _ _ hs (Nat.le_refl _),hq p H' ys hp hs hl hd hy⟩
def dY(c:Nat):Bool:=decide (97≤c)&&decide (c≤122)
def cV(x:Str):Bool:=decide (1≤x.length)&&decide (x.length≤6)&&x.cps.toList.all dY
theorem Es(c:Nat):(!(Builtin.Str.occurrences ("abcdefghijklmnopqrstuvwxyz" :Str) ⟨#[c]⟩ 0 ("abcdefghijklmnopqrstuvwxyz" :Str).length 1).isEmpty)=dY c:=by
 rw[PySem.StrLaws.found_one];have e:("abcdefghijklmnopqrstuvwxyz" :Str).cps.toList=(List.range 26).map (· +97):=by decide+kernel
 rw[e,Bool.eq_iff_iff,decide_eq_true_iff,List.mem_map];unfold dY;rw[Bool.and_eq_true,decide_eq_true_iff,decide_eq_true_iff];constructor
 ·rintro ⟨i,hi,rfl⟩
  have:=List.mem_range.mp hi
  lia
 ·rintro ⟨h1,h2⟩
  exact⟨c - 97,List.mem_range.mpr (by lia),by lia⟩
def c_(H:Hp)(R:Rm)(v:V)(o:Option Nat):Prop:=(o=none∧(v= .bC∨∃i:Int,v= .int i))∨∃i t,o=some i∧v= .ref t∧i<R.length∧H t=some (.tup (lU (R.getD i (0,0)).1 (bc R i)))
def jF(R:Rm)(S:List Nat):Option Nat→Bool
 |none=>false
 |some i=>decide ((R.getD i (0,0)).1∈S)
def wD(R:Rm):Option Nat→PyData
 |none=> .none
 |some i=>eL (R.getD i (0,0)).1 (bc R i)
theorem c_.kt{H H' :Hp}{R:Rm}{v:V}{o:Option Nat}(h:c_ H R v o)(k:∀c xs,H c=some (.tup xs)→H' c=some (.tup xs)):c_ H' R v o:=by
 rcases h with h|⟨i,t,h1,h2,h3,h4⟩
 ·exact .inl h
 ·exact .inr ⟨i,t,h1,h2,h3,k _ _ h4⟩
theorem c_.at{H:Hp}{R:Rm}{v:V}{o:Option Nat}(h:c_ H R v o):wR H R v:=by
 rcases h with⟨_,h|h⟩|⟨i,t,h1,h2,h3,h4⟩
 ·exact .inl h
 ·exact .inr (.inl h)
 ·exact .inr (.inr ⟨i,t,h2,h3,h4⟩)
theorem rP{H:Hp}{t:Addr}{f p:Nat}(h:H t=some (.tup (lU f p))):mi H (.ref t) (eL f p):= .tup h (.cons (.int _) (.cons (.int _) .nil))
theorem c_.td{H:Hp}{R:Rm}{v:V}{i:Nat}(h:c_ H R v (some i)):mi H v (wD R (some i)):=by
 rcases h with⟨h,_⟩|⟨j,t,h1,h2,h3,h4⟩
 ·cases h
 ·cases h1;subst h2;exact rP h4
section
variable{P:Program}{w:World}{K:Frag}{mg:Str→aN}{base:Heap}{A:qH}
def Su:Sp:=fun vs H Q _=>∃x:Str,vs=[.str x]∧cV x=true∧∀H',aw H H'→Q (.bl true) H'
theorem Bb(T:Txt K mg A):bu P w K mg base eF 1 A.qL A.rD ["thing"] Su:=by
 refine T.wW.ok Bk (fun vs H Q E h=> ?_) (fun cJ Ar outer s H vs Q E hr h=> ?_)
 ·obtain⟨x,rfl,_⟩:=h;rfl
 ·obtain⟨x,rfl,p,k⟩:=h;obtain⟨u1,wm⟩:=T.qO;obtain⟨u2,mB⟩:=T.i_;unfold cV at p;rw[Bool.and_eq_true,Bool.and_eq_true,decide_eq_true_iff,decide_eq_true_iff] at p;obtain⟨⟨h1,h6⟩,KY⟩:=p;refine⟨_,(ai (b_ (eS (dW (aT dw (by rfl) T.bY Boot.«isinstance» (aa (pv 0) (aa (jE (v:= .ty "str") rfl T.IV Boot.«str» rfl) ae))))) (aq (aH qC)) bh) (aq (aH (iB (zG DF DF ao (aT qh (by rfl) T.fK Boot.«len» (aa (pv 0) ae)) (lx rfl mB.2 mB.1)) (iG (aT (zV rfl) (by rfl) T.Dn Boot.«all» (aa (b9 (N:=["sign"]) (k:=1) (js:=[]) rfl (bq (by kernel_rfl)) (Rc (pv 0) rfl) (fun _ _ _ _ _=>⟨(a_ (i:=0) (show(["sign"]:aO).Nodup by decide+kernel) rfl (Or.inl rfl) (Or.inr rfl)),qF,(fq EU (pv 0) (lx rfl wm.2 wm.1) (by with_unfolding_all rfl))⟩)) ae))))))),?_⟩;refine⟨_,rfl,_,_,_,_,rfl,.str x,rfl,_,rfl,dH ?_⟩;refine⟨_,rfl,x,rfl,Nat.le_trans h6 (by decide),1,x.length,rfl,rfl,_,rfl,?_⟩;rw[decide_eq_true (show(1:Int)≤(x.length:Int) by lia)];refine eT ⟨x.length,6,rfl,rfl,_,rfl,?_⟩;rw[decide_eq_true (show(x.length:Int)≤6 by lia)];refine eT ⟨_,rfl,x,rfl,?_⟩;refine wc (fun _=>true) (fun v=>match v with| .str z=> .bl (dY (z.cps.getD 0 0))|_=> .bC) (D2 x H) ?_ ?_ fun p hp=> ?_
  ·simp;exact Nat.le_trans h6 (by decide)
  ·intro i y H' C1 C0 hy sm c1 c0;rw[List.getElem?_map] at hy
   cases ec:x.cps.toList[i]? with
   |none=>rw[ec] at hy;cases hy
   |some c=>
    rw[ec] at hy;cases hy;refine⟨(dU.refl _).own (by decide),⟨_,rfl,_,_,rfl,rfl,?_⟩⟩;rw[Es];exact c1 rfl
  ·refine⟨p,x.cps.toList.map dY,rfl,?_,?_⟩
   ·rw[af,List.filter_eq_self.mpr (fun _ _=>rfl),List.map_map,List.map_map];rfl
   ·rw[List.all_map];rw[show(x.cps.toList.all (id ∘ dY))=true from KY];exact k _ (aw.upd hp)
def MY:Sp:=fun vs H Q _=>∃v l R S,∃o:Option Nat,vs=[v,.ref l]∧c_ H R v o∧H l=some (.lst (S.map nV))∧Q (.bl (jF R S o)) H
theorem si(T:Txt K mg A):bu P w K mg base eF 1 A.pj A.oy ["value","part"] MY:=by
 refine T.pD.ok z0 (fun vs H Q E h=> ?_) (fun cJ Ar outer s H vs Q E hr h=> ?_)
 ·obtain⟨v,l,R,S,o,rfl,_⟩:=h;rfl
 ·obtain⟨v,l,R,S,o,rfl,hv,hl,q⟩:=h;refine⟨_,(aq (aH (iB (aT dw (by rfl) T.bY Boot.«isinstance» (aa (pv 0) (aa (jE (v:= .ty "tuple") rfl T.gW Boot.«tuple» rfl) ae))) (iG (fq wq (bb du (pv 0) ao (fun _ _=>rfl)) (pv 1) (by with_unfolding_all rfl)))))),?_⟩;rcases hv with⟨rfl,rfl|⟨i,rfl⟩⟩|⟨i,t,rfl,rfl,hi,ht⟩
  ·exact⟨_,rfl,_,_,_,_,rfl,.bC,rfl,_,rfl,dH q⟩
  ·exact⟨_,rfl,_,_,_,_,rfl,.int i,rfl,_,rfl,dH q⟩
  ·refine⟨_,rfl,_,_,_,_,rfl,.tup ht,rfl,_,rfl,eT ⟨_,rfl,t,_,0,_,rfl,rfl,mr.of ht,rfl,_,rfl,l,_,rfl,.inl (bD.of hl),rfl,lF _,?_⟩⟩;have e:EC (nV (R.getD i (0,0)).1) (S.map nV)=decide ((R.getD i (0,0)).1∈S):=ug _ _;show Q (V.bl (EC (nV (R.getD i (0,0)).1) (S.map nV))) H;rw[e];exact q
def Gb(R:Rm)(S:List Nat)(h:PyData)(os:ay):List PyData:=((List.range os.length).filter fun k=>jF R S (os.getD k none)).map fun k:Nat=> .tuple [.str "room",h,.int (k:Int),wD R (os.getD k none)]
def Ms(C:Addr):Sp:=fun vs H Q _=>∃a ps ts L pk R N rs cs i t xs l S,∃os:ay,vs=[.ref a.f,.ref t,.ref l]∧aQ C H a ps ts L pk R N rs cs∧(∀r∈R,1≤r.2)∧ps.length=ts.length∧uN H ts R i t∧cs[i]? =some xs∧xs.length≤6∧os.length=xs.length∧(∀(k:Nat) v,xs[k]? =some v→c_ H R v (os.getD k none))∧H l=some (.lst (S.map nV))∧
 ∀l2 ys H',H l2=none→aw H H'→H' l2=some (.lst ys)→bK H' ys (Gb R S (wD R (some i)) os)→ys.length≤6→Q (.ref l2) H'
theorem AV(T:Txt K mg A):bu P w K mg base eF 8 A.oE A.oW ["house","holder","part"] (Ms A.aj):=by
 have jK:=mv (P:=P) (w:=w) (base:=base) T;have pB:=(si (P:=P) (w:=w) (base:=base) T).mono (by decide:_≤7);refine T.t8.ok Am (fun vs H Q E h=> ?_) (fun cJ Ar outer s H vs Q E hr h=> ?_)
 ·obtain⟨a,ps,ts,L,pk,R,N,rs,cs,i,t,xs,l,S,os,rfl,_⟩:=h;rfl
 ·obtain⟨a,ps,ts,L,pk,R,N,rs,cs,i,t,xs,l,S,os,rfl,F,sJ,hl,wa,hc,hx6,S2,hv,hS,q⟩:=h;obtain⟨dx,ho⟩:=F.ob;have V8:(4:Nat)≤sizeLine:=by decide
  refine⟨_,(aq (aH (b9 (N:=["k","value","holder","part"]) (k:=2) (js:=[1,2]) rfl (bq (by kernel_rfl)) (qx rfl T.jB (aa (bg (pv 0) T.az T.oq jK hr T.oe .nil aB (aa (pv 1) ae)) ae)) (fun _ _ _ _ _=>⟨(tQ (K:=K) (n:=2) rfl rfl (g9 (a_ (i:=0) (show(["k","value","holder","part"]:aO).Nodup by decide+kernel) rfl (Or.inl rfl) (Or.inr rfl)) (g9 (a_ (i:=1) (show(["k","value","holder","part"]:aO).Nodup by decide+kernel) rfl (Or.inl rfl) (Or.inr rfl)) tO)) rfl rfl),(xm (dW (aA pB hr rfl T.u5 T.pD.kp T.uC .nil aB (aa (pv 1) (aa (pv 3) ae))))),(gT (aa aM (aa (pv 2) (aa (pv 0) (aa (pv 1) ae)))))⟩)))),?_⟩;refine⟨_,rfl,a.f,dx,_,rfl,ho,aR (by decide+kernel),_,rfl,a,ps,ts,L,pk,R,N,rs,cs,i,t,xs,rfl,F,sJ,hl,wa,hc,fun cl H1 sP s1 Wm=> ?_⟩;refine⟨cl,_,rfl,Wm,?_⟩;refine tN (fun k=>jF R S (os.getD k none)) (fun k=> .tuple [.str "room",wD R (some i),.int k,wD R (os.getD k none)]) (uY (bD.of Wm)) (Nat.le_trans hx6 (by decide)) ?_ fun p H2 ys hp s2 hy hd ju=> ?_
  ·rintro k x H' C1 C0 hk sm ⟨tt,y,rfl,hT,hy⟩ c1 c0
   have s1' :=s1.trans sm;have Gv:=(hv k y hy).kt (bI s1');refine⟨tt,_,rfl,mr.of hT,rfl,_,_,rfl,_,_,rfl,rfl,((dU.refl _).own (by decide)).own (by decide),_,rfl,_,rfl,y,l,R,S,_,rfl,Gv,s1' _ _ hS,_,rfl,?_⟩
   cases eo:os.getD k none with
   |none=>
    rw[eo] at c0;exact dH (c0 rfl H' (aw.refl H'))
   |some j=>
    rw[eo] at c1 c0 Gv
    cases hb:jF R S (some j) with
    |false=>exact dH (c0 hb H' (aw.refl H'))
    |true=>
     refine eT ⟨_,rfl,_,rfl,_,rfl,V8,fun t2 Ft=> ?_⟩;have s3:=aw.upd (o:= .tup [V.str "room",.ref t,.int (k:Int),y]) Ft;exact c1 hb _ _ s3 (.tup af (.cons (.str _) (.cons ((rP (s1' _ _ wa.e)).kt (bI s3)) (.cons (.int _) (.cons (Gv.td.kt (bI s3)) .nil)))))
  ·refine q p ys H2 (s1.free hp) (s1.trans s2) hy ?_ (Nat.le_trans ju hx6);rw[←S2] at hd;exact hd
end
structure cf(H:Hp)(R:Rm)(d:Addr)(kv:bG)(ns:aO)(oh:ay):Prop where
 ob:H d=some (.dK kv)
 ln:kv.length=ns.length
 lo:oh.length=ns.length
 at_:∀(j:Nat) k v,kv[j]? =some (k,v)→k= .inr (ns.getD j "")∧cV (ns.getD j "")=true∧c_ H R v (oh.getD j none)
theorem cf.kept{H H' :Hp}{R:Rm}{d:Addr}{kv:bG}{ns:aO}{oh:ay}(h:cf H R d kv ns oh)(hd:H' d=some (.dK kv))(kt:∀c xs,H c=some (.tup xs)→H' c=some (.tup xs)):cf H' R d kv ns oh:=
 ⟨hd,h.ln,h.lo,fun j k v e=>⟨(h.at_ j k v e).1,(h.at_ j k v e).2.1,(h.at_ j k v e).2.2.kt kt⟩⟩
theorem cf.same{H H' :Hp}{R:Rm}{d:Addr}{kv:bG}{ns:aO}{oh:ay}(h:cf H R d kv ns oh)(s:aw H H'):cf H' R d kv ns oh:=h.kept (s _ _ h.ob) (bI s)
def sr(R:Rm)(S:List Nat)(ns:aO)(oh:ay):List PyData:=((List.range ns.length).filter fun j=>jF R S (oh.getD j none)).map fun j:Nat=> .tuple [.str "hand",.str (ns.getD j ""),wD R (oh.getD j none)]
def mJ(R:Rm)(S:List Nat)(oS:Nat→ay)(I:List Nat):List PyData:=I.flatMap fun i=>Gb R S (wD R (some i)) (oS i)
def n_(ts:ay)(R:Rm)(S:List Nat)(ns:aO)(oh:ay)(oS:Nat→ay):List PyData:=sr R S ns oh++mJ R S oS (((au ts).filter fun n=> !decide (n∈S)).flatMap (aS R))
def fY(H:Hp)(R:Rm)(cs:cE)(oS:Nat→ay):Prop:=∀(i:Nat) xs,cs[i]? =some xs→xs.length≤6∧(oS i).length=xs.length∧∀(k:Nat) v,xs[k]? =some v→c_ H R v ((oS i).getD k none)
theorem fY.kt{H H' :Hp}{R:Rm}{cs:cE}{oS:Nat→ay}(h:fY H R cs oS)(kt:∀c xs,H c=some (.tup xs)→H' c=some (.tup xs)):fY H' R cs oS:=
 fun i xs e=>⟨(h i xs e).1,(h i xs e).2.1,fun k v e' =>((h i xs e).2.2 k v e').kt kt⟩
section
variable{P:Program}{w:World}{K:Frag}{mg:Str→aN}{base:Heap}{A:qH}
def Ba(C:Addr):Sp:=fun vs H Q _=>∃a ps ts L pk R N rs cs d kv ns oh,vs=[.ref a.f,.ref d]∧aQ C H a ps ts L pk R N rs cs∧(∀r∈R,1≤r.2)∧¬d∈a.own∧cf H R d kv ns oh∧ns.length≤1000∧∀H',aw H H'→Q (.bl true) H'
theorem xw(T:Txt K mg A):bu P w K mg base eF 6 A.mE A.nA ["house","thing"] (Ba A.aj):=by
 have Ep:=(Bb (P:=P) (w:=w) (base:=base) T).mono (by decide:_≤5);have gL:=jA (P:=P) (w:=w) (base:=base) T;refine T.sx.ok yb (fun vs H Q E h=> ?_) (fun cJ Ar outer s H vs Q E hr h=> ?_)
 ·obtain⟨a,ps,ts,L,pk,R,N,rs,cs,d,kv,ns,oh,rfl,_⟩:=h;rfl
 ·obtain⟨a,ps,ts,L,pk,R,N,rs,cs,d,kv,ns,oh,rfl,F,sJ,nd,hd,hn,q⟩:=h;have hu:=dv hr;refine⟨_,(ai (b_ (eS (dW (aT dw (by rfl) T.bY Boot.«isinstance» (aa (pv 1) (aa (jE (v:= .ty "dict") rfl T.qW Boot.«dict» rfl) ae))))) (aq (aH qC)) bh) (aq (aH (aT (zV rfl) (by rfl) T.Dn Boot.«all» (aa (DG (b9 (N:=["name","value","house"]) (k:=2) (js:=[0]) rfl (bq (by kernel_rfl)) (Ao (oT plainAttrs_dict slot_dict_items type_dict_items mN (pv 1))) (fun _ _ _ _ _=>⟨(tQ (K:=K) (n:=2) rfl rfl (g9 (a_ (i:=0) (show(["name","value","house"]:aO).Nodup by decide+kernel) rfl (Or.inl rfl) (Or.inr rfl)) (g9 (a_ (i:=1) (show(["name","value","house"]:aO).Nodup by decide+kernel) rfl (Or.inl rfl) (Or.inr rfl)) tO)) rfl rfl),qF,(iB (aA Ep hr rfl T.Fd T.wW.kp T.Ey .nil aB (aa (pv 0) ae)) (iG (bg (pv 2) T.az T.j2 gL hr T.ki .nil aB (aa (pv 1) ae))))⟩))) ae))))),?_⟩;refine⟨_,rfl,_,_,_,_,rfl,.dK hd.ob,rfl,_,rfl,?_⟩;refine⟨_,rfl,.inr (.inr (.inl ⟨rfl,.inl ⟨_,hd.ob⟩⟩)),d,kv,rfl,rfl,hd.ob,fun v hv=> ?_⟩;have s1:=aw.upd (o:=j3 v d) hv;refine⟨v,d,kv,rfl,af,s1 _ _ hd.ob,fun o nf=> ?_⟩;have F1:=F.same s1;have yP:=hd.same s1;generalize upd H v (j3 v d)=H1 at s1 F1 yP;have tq:upd H1 d (.fB o (.dK kv)) d=some (.fB o (.dK kv)):=af
  have F2:aQ A.aj (upd H1 d (.fB o (.dK kv))) a ps ts L pk R N rs cs:=F1.kept fun c oo hc e=>by
   rw[ah (show c≠d from fun z=>nd (z▸hc))];exact e
  have XU:∀c xs,H1 c=some (.tup xs)→upd H1 d (.fB o (.dK kv)) c=some (.tup xs):=fun c xs e=>by
   rw[ah (aG e yP.ob (by intro z;cases z))];exact e
  refine gU (fun _=>true) (fun _=>V.bl true) (su tq) (Nat.le_of_lt (bJ (by rw[hd.ln];lia))) ?_ fun p H2 hp s2 hl=> ?_
  ·rintro i x H' C1 C0 hi sm ⟨tt,k,y,rfl,hT,hy⟩ c1 c0
   obtain⟨rfl,hnm,Sr⟩:=yP.at_ i k y hy;have F' :=F2.same sm;obtain⟨NY,yS⟩:=F'.ob;refine⟨tt,_,rfl,mr.of hT,rfl,_,_,rfl,_,_,rfl,rfl,((dU.refl _).own (by decide)).own (by decide),@eT _ (C0 H') ?_⟩;refine⟨_,rfl,ns.getD i "",rfl,hnm,fun H3 s3=>⟨_,rfl,eT ?_⟩⟩;obtain⟨dx3,X0⟩:=(F'.same s3).ob;exact⟨_,rfl,a.f,dx3,_,rfl,X0,aR (by decide+kernel),_,rfl,a,ps,ts,L,pk,R,N,rs,cs,y,rfl,F'.same s3,sJ,((Sr.kt XU).kt (bI (sm.trans s3))).at,fun H4 s4=>c1 rfl H4 (s3.trans s4)⟩
  ·refine⟨d,o,kv,s2 _ _ tq,nf,?_⟩;have pd:p≠d:=fun z=>by rw[z,tq] at hp;cases hp
   refine⟨p,List.replicate kv.length true,rfl,?_,?_⟩
   ·rw[ah pd,hl,List.filter_eq_self.mpr (fun _ _=>rfl)]
    congr 2
    rw[List.map_replicate];apply List.ext_getElem?;intro i;rw[List.getElem?_map,List.getElem?_replicate];by_cases hi:i<kv.length
    ·rw[List.getElem?_range hi,if_pos hi];rfl
    ·rw[List.getElem?_eq_none (by rw[List.length_range];lia),if_neg hi];rfl
   ·rw[show(List.replicate kv.length true).all id=true by rw[List.all_eq_true];intro b hb;rw[List.eq_of_mem_replicate hb];rfl];refine q _ fun c oo e=> ?_;by_cases z:c=d
    ·subst z;rw[af,←hd.ob];exact e
    ·rw[ah z];refine s2 _ _ ?_;rw[ah z];exact s1 _ _ e
def Az(C:Addr):Sp:=fun vs H Q _=>∃a ps ts L pk R N rs cs d kv ns oh,∃t:Nat,vs=[.ref a.f,.int t,.ref d]∧aQ C H a ps ts L pk R N rs cs∧(∀r∈R,1≤r.2)∧¬d∈a.own∧cf H R d kv ns oh∧ns.length≤1000∧ps.length=ts.length∧cB ts (t:Int)=true∧t≠0∧∀H',aw H H'→Q .bC H'
theorem vI(T:Txt K mg A):bu P w K mg base eF 7 A.kD A.kI ["house","frame","hands"] (Az A.aj):=by
 have dt:=eY (P:=P) (w:=w) (base:=base) T;have zU:=xw (P:=P) (w:=w) (base:=base) T;refine T.pT.ok vP (fun vs H Q E h=> ?_) (fun cJ Ar outer s H vs Q E hr h=> ?_)
 ·obtain⟨a,ps,ts,L,pk,R,N,rs,cs,d,kv,ns,oh,t,rfl,_⟩:=h;rfl
 ·obtain⟨a,ps,ts,L,pk,R,N,rs,cs,d,kv,ns,oh,t,rfl,F,sJ,nd,hd,hn,hl,iP,h0,q⟩:=h;obtain⟨dx,ho⟩:=F.ob;refine⟨_,(ai (bB (bg (pv 0) T.az T.fJ dt hr T.fH .nil aB (aa (pv 1) ae))) (aq (b_ (eS (dW (aA zU hr rfl T.zL T.sx.kp T.Ay .nil aB (aa (pv 0) (aa (pv 2) ae))))) (aq dD) bh))),?_⟩;refine⟨_,rfl,a.f,dx,_,rfl,ho,aR (by decide+kernel),_,rfl,a.f,a.pa,a.ta,ps,ts,t,rfl,F.fr,hl,iP,h0,?_⟩;exact⟨_,rfl,_,rfl,a,ps,ts,L,pk,R,N,rs,cs,d,kv,ns,oh,rfl,F,sJ,nd,hd,hn,fun H1 s1=>⟨_,rfl,q H1 s1⟩⟩
def JJ(C:Addr):Sp:=fun vs H Q _=>∃a ps ts L pk R N rs cs d kv ns oh oS,∃t:Nat,vs=[.ref a.f,.int t,.ref d]∧aQ C H a ps ts L pk R N rs cs∧(∀r∈R,1≤r.2)∧cs.length=R.length∧¬d∈a.own∧cf H R d kv ns oh∧ns.length≤1000∧WF ps ts∧cB ts (t:Int)=true∧t≠0∧R.length≤1000∧fY H R cs oS∧
 ∀l ys H',H l=none→aw H H'→H' l=some (.lst ys)→bK H' ys (n_ ts R (bx ps ts t) ns oh oS)→ys.length≤700000→Q (.ref l) H'
theorem By(T:Txt K mg A):bu P w K mg base eF 9 A.qT A.rH ["house","frame","hands"] (JJ A.aj):=by
 have w_:=(vI (P:=P) (w:=w) (base:=base) T).mono (by decide:_≤8);have jP:=(mM (P:=P) (w:=w) (base:=base) T).mono (by decide:_≤8);have bS:=(dA (P:=P) (w:=w) (base:=base) T).mono (by decide:_≤8);have jQ:=(mF (P:=P) (w:=w) (base:=base) T).mono (by decide:_≤8);have pB:=(si (P:=P) (w:=w) (base:=base) T).mono (by decide:_≤8);have BH:=AV (P:=P) (w:=w) (base:=base) T;refine T.wJ.ok jq (fun vs H Q E h=> ?_) (fun cJ Ar outer s H vs Q E hr h=> ?_)
 ·obtain⟨a,ps,ts,L,pk,R,N,rs,cs,d,kv,ns,oh,oS,t,rfl,_⟩:=h;rfl
 ·obtain⟨a,ps,ts,L,pk,R,N,rs,cs,d,kv,ns,oh,oS,t,rfl,F,sJ,sP,nd,hd,hn,W,iP,h0,hR,hC,q⟩:=h;have hl:=W.len;have ah_:=W.le;have Wo:(3:Nat)≤sizeLine:=by decide
  refine⟨_,(ai (bB (aA w_ hr rfl T.xG T.pT.kp T.yH .nil aB (aa (pv 0) (aa (pv 1) (aa (pv 2) ae))))) (ai (aZ (i:=3) jq.nd rfl (Or.inr rfl) (bg (pv 0) T.az T.nS jP hr T.nR .nil aB (aa (pv 1) ae))) (ai (C4 (xx (i:=4) jq.nd rfl (Or.inl rfl) (N:=["name","value","part"]) (k:=2) (js:=[3]) rfl (bq (by kernel_rfl)) (Ao (oT plainAttrs_dict slot_dict_items type_dict_items mN (pv 2))) (fun _ _ _ _ _=>⟨(tQ (K:=K) (n:=2) rfl rfl (g9 (a_ (i:=0) (show(["name","value","part"]:aO).Nodup by decide+kernel) rfl (Or.inl rfl) (Or.inr rfl)) (g9 (a_ (i:=1) (show(["name","value","part"]:aO).Nodup by decide+kernel) rfl (Or.inl rfl) (Or.inr rfl)) tO)) rfl rfl),(xm (dW (aA pB hr rfl T.u5 T.pD.kp T.uC .nil aB (aa (pv 1) (aa (pv 2) ae))))),(gT (aa aM (aa (pv 0) (aa (pv 1) ae))))⟩))) (ai (ir PassesOwn.never rfl (cQ (dP (pv 0) T.az T.d7 bS hr T.dZ .nil aB)) (a_ (i:=5) jq.nd rfl (Or.inl rfl) (Or.inl rfl)) (aq (b_ (ba xX (pv 5) (pv 3) (by with_unfolding_all rfl)) (aq (ir PassesOwn.never rfl (cQ (bg (pv 0) T.az T.nT jQ hr T.nQ .nil aB (aa (pv 5) ae))) (a_ (i:=6) jq.nd rfl (Or.inl rfl) (Or.inl rfl)) (aq (bB (iq plainAttrs_list slot_list_extend type_list_extend sd (pv 4) (aa (aA BH hr rfl T.BD T.t8.kp T.B8 .nil aB (aa (pv 0) (aa (pv 6) (aa (pv 3) ae)))) ae)))))) bh))) (aq (aH (pv 4))))))),?_⟩;refine⟨_,rfl,_,rfl,_,rfl,a,ps,ts,L,pk,R,N,rs,cs,d,kv,ns,oh,t,rfl,F,sJ,nd,hd,hn,hl,iP,h0,fun H1 s1=> ?_⟩;have F1:=F.same s1;obtain⟨Io,BK⟩:=F1.ob;refine⟨_,rfl,a.f,Io,_,rfl,BK,aR (by decide+kernel),_,rfl,a.f,a.pa,a.ta,ps,ts,t,rfl,F1.fr,W,fun pl H2 tS s2 A3=> ?_⟩;have s02:=s1.trans s2;have F2:=F.same s02;have hd2:=hd.same s02;refine⟨_,rfl,.inr (.inr (.inl ⟨rfl,.inl ⟨_,hd2.ob⟩⟩)),d,kv,rfl,rfl,hd2.ob,fun v hv=> ?_⟩;have s3:=aw.upd (o:=j3 v d) hv;refine⟨v,d,kv,rfl,af,s3 _ _ hd2.ob,fun o nf=> ?_⟩;have Kn:=hd2.same s3;have QA:=s3 _ _ A3;have s03:=s02.trans s3;generalize upd H2 v (j3 v d)=H3 at s3 Kn QA s03;have tq:upd H3 d (.fB o (.dK kv)) d=some (.fB o (.dK kv)):=af
  have kt3:∀c xs,H3 c=some (.tup xs)→upd H3 d (.fB o (.dK kv)) c=some (.tup xs):=fun c xs e=>by
   rw[ah (aG e Kn.ob (by intro z;cases z))];exact e
  have QB :upd H3 d (.fB o (.dK kv)) pl=some (.lst ((bx ps ts t).map nV)):=by
   rw[ah (aG QA Kn.ob (by intro z;cases z))];exact QA
  refine tN (fun j=>jF R (bx ps ts t) (oh.getD j none)) (fun j=> .tuple [.str "hand",.str (ns.getD j ""),wD R (oh.getD j none)]) (su tq) (Nat.le_of_lt (bJ (by rw[hd.ln];lia))) ?_ fun ll H4 ys xQ s4 hy Vw ju=> ?_
  ·rintro j x H' C1 C0 hj sm ⟨tt,k,y,rfl,hT,hy⟩ c1 c0
   obtain⟨rfl,hnm,Sr⟩:=Kn.at_ j k y hy;have Gv:=(Sr.kt kt3).kt (bI sm);refine⟨tt,_,rfl,mr.of hT,rfl,_,_,rfl,_,_,rfl,rfl,((dU.refl _).own (by decide)).own (by decide),_,rfl,_,rfl,y,pl,R,bx ps ts t,_,rfl,Gv,sm _ _ QB,_,rfl,?_⟩
   cases eo:oh.getD j none with
   |none=>
    rw[eo] at c0;exact dH (c0 rfl H' (aw.refl H'))
   |some i=>
    rw[eo] at c1 c0 Gv
    cases hb:jF R (bx ps ts t) (some i) with
    |false=>exact dH (c0 hb H' (aw.refl H'))
    |true=>
     refine eT ⟨_,rfl,_,rfl,Wo,fun t2 Ft=> ?_⟩;have s5:=aw.upd (o:= .tup [V.str "hand",.str (ns.getD j ""),y]) Ft;exact c1 hb _ _ s5 (.tup af (.cons (.str _) (.cons (.str _) (.cons (Gv.td.kt (bI s5)) .nil))))
  ·refine⟨d,o,kv,s4 _ _ tq,nf,?_⟩
   have ya:H ll=none:=by
    cases z:H ll with
    |none=>rfl
    |some oo=>
     by_cases zd:ll=d
     ·rw[zd,tq] at xQ;cases xQ
     ·rw[ah zd,s03 _ _ z] at xQ;cases xQ
   have Ye:ll≠d:=fun z=>by rw[z,tq] at xQ;cases xQ
   have sX:aw H (upd H4 d (.dK kv)):=fun c oo e=>by
    by_cases z:c=d
    ·subst z;rw[af,←hd.ob];exact e
    ·rw[ah z];refine s4 _ _ ?_;rw[ah z];exact s03 _ _ e
   have QV:upd H4 d (.dK kv) ll=some (.lst ys):=by rw[ah Ye];exact hy
   have pX:upd H4 d (.dK kv) pl=some (.lst ((bx ps ts t).map nV)):=by
    rw[ah (aG QA Kn.ob (by intro z;cases z))];exact s4 _ _ QB
   have dX:=Vw.kt (H' :=upd H4 d (.dK kv)) fun c xs e=>by
    rw[ah (aG e (s4 _ _ tq) (by intro z;cases z))];exact e
   rw[hd.ln] at dX ju;generalize upd H4 d (.dK kv)=H5 at sX QV pX dX;have F5:=F.same sX;obtain⟨Uj,G0⟩:=F5.ob
   have vm:∀c∈a.own,c≠ll:=fun c hc z=>by
    obtain⟨oo,e⟩:=F.al c hc;rw[z,ya] at e;cases e
   refine⟨_,rfl,a.f,Uj,_,rfl,G0,aR (by decide+kernel),a.f,a.pa,a.ta,ps,ts,rfl,F5.fr,by lia,fun sl H6 mq s6 Sn=> ?_⟩;refine⟨sl,rfl,⟨_,bD.of Sn⟩,?_⟩;have Rq:=sX.trans s6;have back:∀{H' :Hp},(∀c o,c≠ll→H6 c=some o→H' c=some o)→aQ A.aj H' a ps ts L pk R N rs cs:=fun k=>F.kept fun c o hc e=>k c o (vm c hc) (Rq _ _ e);have QG:∀{H' :Hp},(∀c o,c≠ll→H6 c=some o→H' c=some o)→∀c xs,H c=some (.tup xs)→H' c=some (.tup xs):=fun k c xs e=>k c _ (ak e ya) (Rq _ _ e);have RV:sl≠ll:=(ak QV mq).symm
   have Vb:pl≠ll:=fun z=>by
    subst z;rw[QB] at xQ;cases xQ
   have stl:=gk ts;refine fi (K:=K) (a:=sl) (xs:=(au ts).map nV) (fun i σ H' =>∃(x5 x6:Option V) (ys:ax),σ=[some (.ref a.f),some (.int t),some (.ref d),some (.ref pl),some (.ref ll),x5,x6]∧H' ll=some (.lst ys)∧bK H' ys (sr R (bx ps ts t) ns oh++mJ R (bx ps ts t) oS ((((au ts).take i).filter fun n=> !decide (n∈bx ps ts t)).flatMap (aS R)))∧ys.length≤1000+6000*i∧∀c o,c≠ll→H6 c=some o→H' c=some o) ⟨_,_,ys,rfl,s6 _ _ QV,?_,by lia,fun _ _ _ e=>e⟩ ?_ ?_ ?_
   ·rw[List.take_zero];show bK H6 ys (sr R (bx ps ts t) ns oh++[]);rw[List.append_nil];exact dX.kt (bI s6)
   ·rintro i σ H' _ ⟨x5,x6,ys,_,_,_,_,k⟩
    exact bD.of (k _ _ RV Sn)
   ·rintro i v σ H7 hv ⟨x5,x6,ys,rfl,E1,D6,WA,k7⟩
    rw[List.getElem?_map] at hv
    cases en:(au ts)[i]? with
    |none=>rw[en] at hv;cases hv
    |some n=>
     rw[en] at hv;cases hv;have An:i<(au ts).length:=(List.getElem?_eq_some_iff.mp en).1;have AY:ts[n]? =some none:=eq_of_beq (cw.mp (List.mem_of_getElem? en));have OY:(au ts).take (i+1)=(au ts).take i++[n]:=by rw[List.take_add_one,en];rfl
     refine⟨_,rfl,_,rfl,pl,_,rfl,.inl (bD.of (k7 _ _ Vb (s6 _ _ pX))),rfl,lF _,_,rfl,?_⟩;show if(!EC (nV n) ((bx ps ts t).map nV))=true then _ else _
     rw[ug]
     cases Vj:decide (n∈bx ps ts t) with
     |true=>
      refine dH ⟨_,_,ys,rfl,E1,?_,by lia,k7⟩;rw[OY,List.filter_append,List.filter_cons,Vj];simp only[Bool.not_true,Bool.false_eq_true,if_false,List.filter_nil,List.append_nil];exact D6
     |false=>
      refine eT ?_;have F7:=back k7;obtain⟨dx7,ho7⟩:=F7.ob;refine⟨_,rfl,a.f,dx7,_,rfl,ho7,aR (by decide+kernel),_,rfl,a,ps,ts,L,pk,R,N,rs,cs,n,rfl,F7,hl,AY,hR,fun rl zs H8 Ij s8 U2 SF aaS=> ?_⟩;refine⟨rl,rfl,⟨_,bD.of U2⟩,?_⟩;have abk:rl≠ll:=(ak E1 Ij).symm;have idl:=iU R n;refine fi (K:=K) (a:=rl) (xs:=zs) (fun j σ H' =>∃(x6:Option V) (ys:ax),σ=[some (.ref a.f),some (.int t),some (.ref d),some (.ref pl),some (.ref ll),some (nV n),x6]∧H' ll=some (.lst ys)∧bK H' ys (sr R (bx ps ts t) ns oh++mJ R (bx ps ts t) oS (((((au ts).take i).filter fun n=> !decide (n∈bx ps ts t)).flatMap (aS R))++(aS R n).take j))∧ys.length≤1000+6000*i+6*j∧∀c o,c≠ll→H8 c=some o→H' c=some o) ⟨_,ys,rfl,s8 _ _ E1,?_,by lia,fun _ _ _ e=>e⟩ ?_ ?_ ?_
      ·rw[List.take_zero,List.append_nil];exact D6.kt (bI s8)
      ·rintro j σ H' _ ⟨x6,ys,_,_,_,_,k⟩
       exact bD.of (k _ _ abk U2)
      ·rintro j v σ H9 hv ⟨x6,ys,rfl,WV,YH,hl9,k9⟩
       obtain⟨wt,rfl,Kr⟩:=aaS j v hv
       have FD:j<(aS R n).length:=by
        rw[←SF];exact(List.getElem?_eq_some_iff.mp hv).1
       have ei:=cj 0 FD;generalize hii:(aS R n).getD j 0=ii at ei Kr;have VD:=List.mem_of_getElem? ei;have hif:=gH VD;have k69:∀c o,c≠ll→H6 c=some o→H9 c=some o:=fun c o h e=>k9 c o h (s8 _ _ (k7 c o h e));have F9:=back k69;obtain⟨r1,r2,xs,hcs,r4⟩:=F9.room (dy VD);obtain⟨c6,cln,cvi⟩:=(hC.kt (QG k69)) ii xs hcs
       have hw9:H9 wt=some (.tup (lU (R.getD ii (0,0)).1 (bc R ii))):=by
        rw[hif];exact k9 _ _ (aG Kr (s8 _ _ E1) (by intro z;cases z)) Kr
       have etj:(aS R n).take (j+1)=(aS R n).take j++[ii]:=by rw[List.take_add_one,ei];rfl
       refine⟨_,rfl,.inl ⟨rfl,_,bD.of WV⟩,_,rfl,_,rfl,_,rfl,a,ps,ts,L,pk,R,N,rs,cs,ii,wt,xs,pl,bx ps ts t,oS ii,rfl,F9,sJ,hl,⟨dy VD,by rw[hif];exact AY,hw9⟩,hcs,c6,cln,cvi,k69 _ _ Vb (s6 _ _ pX),fun l2 us Si vi Fe aad hud hul=>⟨ll,l2,_,_,rfl,rfl,Fe _ _ WV,aad,?_,?_⟩⟩
       ·have hL:sizeLine=16777216:=by decide
        lia
       ·refine⟨_,_,rfl,af,?_,by rw[List.length_append];lia,fun c o h e=>by rw[ah h];exact Fe _ _ (k9 c o h e)⟩;rw[etj,←List.append_assoc];unfold mJ;rw[List.flatMap_append,←List.append_assoc]
        have Wr:∀c xs,Si c=some (.tup xs)→upd Si ll (.lst (ys++us)) c=some (.tup xs):=fun c xs e=>by
         rw[ah (aG e (Fe _ _ WV) (by intro z;cases z))];exact e
        refine((YH.kt (bI Fe)).kt Wr).append ?_;rw[List.flatMap_singleton];exact hud.kt Wr
      ·rintro σ H9 ⟨x6,ys,rfl,WV,YH,hl9,k9⟩
       refine⟨_,_,ys,rfl,WV,?_,by lia,fun c o h e=>k9 c o h (s8 _ _ (k7 c o h e))⟩;rw[OY,List.filter_append,List.filter_cons,Vj];simp only[Bool.not_false,if_true,List.filter_nil];rw[List.flatMap_append,List.flatMap_singleton];rw[SF,List.take_length] at YH;exact YH
   ·rintro σ H7 ⟨x5,x6,ys,rfl,E1,D6,WA,k7⟩
    rw[List.length_map] at D6 WA;rw[List.take_length] at D6;exact⟨_,rfl,q ll ys H7 ya (fun c o e=>k7 c o (ak e ya) (Rq _ _ e)) E1 D6 (by lia)⟩
end
abbrev kL:wn:=Sum.inr "limit"
abbrev kA:wn:=Sum.inr "around"
abbrev kB:wn:=Sum.inr "by"
abbrev kR:wn:=Sum.inr "rooms"
abbrev kG:wn:=Sum.inr "given"
abbrev kC:wn:=Sum.inr "cells"
abbrev kN:wn:=Sum.inr "gone"
abbrev kP:wn:=Sum.inr "top"
structure MW where
 d:Addr
 ar:Addr
 bl:Addr
 rl:Addr
 gv:Addr
 ca:Addr
 gn:Addr
 mj:aY
 own:aY
def CC(m:MW)(L top:Nat):bG:=[(kL,.int L),(kA,.ref m.ar),(kB,.ref m.bl),(kR,.ref m.rl),(kG,.ref m.gv),(kC,.ref m.ca),(kN,.ref m.gn),(kP,.int top)]
abbrev qX(t p:Nat):List wn:=[.inl (t:Int),.inl (p:Int)]
def wf(ws:aY)(I:List Nat):ax:=I.map fun i=>V.ref (ws.getD i 0)
def bT(ts:ay)(R:Rm):List Nat:=(List.range R.length).filter fun i=>ts[(R.getD i (0,0)).1]? ==some none
def vE(ts:ay)(R:Rm)(ms:aY):eA:=(bT ts R).map fun i=>(qX (R.getD i (0,0)).1 (bc R i),V.ref (ms.getD i 0))
def MW.ls(m:MW)(ms:aY):aY:=m.ar::m.bl::m.rl::m.gv::m.gn::(m.mj++ms)
structure aC(H:Hp)(m:MW)(ps ts:ay)(L top:Nat)(R:Rm)(ws ms:aY)(cs:cE)(G:List Nat):Prop where
 ob:H m.d=some (.dK (CC m L top))
 hl:H m.ar=some (.lst (ps.map oV))
 tl:H m.bl=some (.lst (ts.map oV))
 rl:H m.rl=some (.lst (m.mj.map V.ref))
 MO:m.mj.length=ps.length
 rm:∀(n:Nat) b,m.mj[n]? =some b→H b=some (.lst (wf ws (aS R n)))
 gv:H m.gv=some (.lst ((List.range ps.length).map fun n=>V.int (bF R n:Nat)))
 ca:H m.ca=some (.dT (vE ts R ms))
 gn:H m.gn=some (.lst (wf ws G))
 gI:∀i∈G,i<R.length
 gl:(bT ts R).length+G.length≤R.length
 s_:ws.length=R.length
 way:∀i,i<R.length→ws.getD i 0∈m.own∧H (ws.getD i 0)=some (.tup (lU (R.getD i (0,0)).1 (bc R i)))
 ml:ms.length=R.length
 mm:∀i,i∈bT ts R→∃vs,cs[i]? =some vs∧H (ms.getD i 0)=some (.lst vs)
 nd:(m.ls ms).Nodup
 sub:∀c∈m.d::m.ca::m.ls ms,c∈m.own
 al:∀c∈m.own,∃o,H c=some o
section
variable{H H' :Hp}{m:MW}{ps ts:ay}{L top:Nat}{R:Rm}{ws ms:aY}{cs:cE}{G:List Nat}
theorem cO{i:Nat}(h:i∈bT ts R):i<R.length:=List.mem_range.mp (List.mem_filter.mp h).1
theorem uc{i:Nat}(h:i∈bT ts R):ts[(R.getD i (0,0)).1]? =some none:=eq_of_beq (List.mem_filter.mp h).2
theorem AB(ts:ay)(R:Rm):(bT ts R).length≤R.length:=by
 unfold bT;refine Nat.le_trans (List.length_filter_le _ _) ?_;rw[List.length_range];exact Nat.le_refl _
theorem nz{i:Nat}(hi:i<R.length)(h:ts[(R.getD i (0,0)).1]? =some none):i∈bT ts R:=List.mem_filter.mpr ⟨List.mem_range.mpr hi,by rw[h];rfl⟩
theorem BA(ts:ay)(R:Rm):(bT ts R).Nodup:=List.Pairwise.filter _ List.nodup_range
theorem MW.Gf(m:MW):m.ar∈m.ls ms:=List.mem_cons_self
theorem MW.Aa(m:MW):m.bl∈m.ls ms:=List.mem_cons_of_mem _ List.mem_cons_self
theorem MW.Ih(m:MW):m.rl∈m.ls ms:=List.mem_cons_of_mem _ (List.mem_cons_of_mem _ List.mem_cons_self)
theorem MW.DD(m:MW):m.gv∈m.ls ms:=List.mem_cons_of_mem _ (List.mem_cons_of_mem _ (List.mem_cons_of_mem _ List.mem_cons_self))
theorem MW.ze(m:MW):m.gn∈m.ls ms:=List.mem_cons_of_mem _ (List.mem_cons_of_mem _ (List.mem_cons_of_mem _ (List.mem_cons_of_mem _ List.mem_cons_self)))
theorem MW.A6(m:MW){b:Addr}(h:b∈m.mj):b∈m.ls ms:=List.mem_cons_of_mem _ (List.mem_cons_of_mem _ (List.mem_cons_of_mem _ (List.mem_cons_of_mem _ (List.mem_cons_of_mem _ (List.mem_append_left _ h)))))
theorem MW.IM(m:MW){b:Addr}(h:b∈ms):b∈m.ls ms:=List.mem_cons_of_mem _ (List.mem_cons_of_mem _ (List.mem_cons_of_mem _ (List.mem_cons_of_mem _ (List.mem_cons_of_mem _ (List.mem_append_right _ h)))))
theorem aC.ne(W:aC H m ps ts L top R ws ms cs G){i j:Nat}{b c:Addr}(hb:(m.ls ms)[i]? =some b)(hc:(m.ls ms)[j]? =some c)(h:i≠j):b≠c:=fun e=>by
 subst e;exact h ((List.getElem?_inj (List.getElem?_eq_some_iff.mp hb).1 W.nd).mp (hb.trans hc.symm))
theorem MW.g0(m:MW):(m.ls ms)[0]? =some m.ar:=rfl
theorem MW.g1(m:MW):(m.ls ms)[1]? =some m.bl:=rfl
theorem MW.g2(m:MW):(m.ls ms)[2]? =some m.rl:=rfl
theorem MW.g3(m:MW):(m.ls ms)[3]? =some m.gv:=rfl
theorem MW.g4(m:MW):(m.ls ms)[4]? =some m.gn:=rfl
theorem MW.gr(m:MW){n:Nat}{b:Addr}(h:m.mj[n]? =some b):(m.ls ms)[5+n]? =some b:=by
 have e:(m.ls ms)[5+n]? =(m.mj++ms)[n]? :=by rw[Nat.add_comm];rfl
 rw[e,List.getElem?_append_left (List.getElem?_eq_some_iff.mp h).1];exact h
theorem MW.gm(m:MW){i:Nat}{b:Addr}(h:ms[i]? =some b):(m.ls ms)[5+m.mj.length+i]? =some b:=by
 have e:(m.ls ms)[5+m.mj.length+i]? =(m.mj++ms)[m.mj.length+i]? :=by rw[show 5+m.mj.length+i=(m.mj.length+i)+5 by lia];rfl
 rw[e,List.getElem?_append_right (by lia),show m.mj.length+i - m.mj.length=i by lia];exact h
theorem aC.kept(W:aC H m ps ts L top R ws ms cs G)(k:∀c o,c∈m.own→H c=some o→H' c=some o):aC H' m ps ts L top R ws ms cs G:=by
 have ok:∀{c:Addr} {o:HO},c∈m.ls ms→H c=some o→H' c=some o:=fun h e=>k _ _ (W.sub _ (List.mem_cons_of_mem _ (List.mem_cons_of_mem _ h))) e;refine⟨k _ _ (W.sub _ List.mem_cons_self) W.ob,ok m.Gf W.hl,ok m.Aa W.tl,ok m.Ih W.rl,W.MO,fun n b e=>ok (m.A6 (List.mem_of_getElem? e)) (W.rm n b e),ok m.DD W.gv,k _ _ (W.sub _ (List.mem_cons_of_mem _ List.mem_cons_self)) W.ca,ok m.ze W.gn,W.gI,W.gl,W.s_,fun i hi=>⟨(W.way i hi).1,k _ _ (W.way i hi).1 (W.way i hi).2⟩,W.ml,fun i hi=> ?_,W.nd,W.sub,fun c hc=>(W.al c hc).imp fun o e=>k c o hc e⟩;obtain⟨vs,h1,h2⟩:=W.mm i hi;refine⟨vs,h1,ok (m.IM ?_) h2⟩;exact List.mem_of_getElem? (cj 0 (by rw[W.ml];exact cO hi))
theorem aC.same(W:aC H m ps ts L top R ws ms cs G)(s:aw H H'):aC H' m ps ts L top R ws ms cs G:=W.kept fun c o _ e=>s c o e
theorem aC.get(W:aC H m ps ts L top R ws ms cs G){k:wn}{v:V}(h:bN (CC m L top) k=some v):eK H m.d (kV k) (some v):=by
 have:=eK.k (k:=k) W.ob;rw[h] at this;exact this
theorem aC.Md(W:aC H m ps ts L top R ws ms cs G):eK H m.d (.str "around") (some (.ref m.ar)):=W.get (k:=kA) (by kernel_rfl)
theorem aC.Kx(W:aC H m ps ts L top R ws ms cs G):eK H m.d (.str "by") (some (.ref m.bl)):=W.get (k:=kB) (by kernel_rfl)
theorem aC.Xe(W:aC H m ps ts L top R ws ms cs G):eK H m.d (.str "rooms") (some (.ref m.rl)):=W.get (k:=kR) (by kernel_rfl)
theorem aC.RS(W:aC H m ps ts L top R ws ms cs G):eK H m.d (.str "given") (some (.ref m.gv)):=W.get (k:=kG) (by kernel_rfl)
theorem aC.GB(W:aC H m ps ts L top R ws ms cs G):eK H m.d (.str "cells") (some (.ref m.ca)):=W.get (k:=kC) (by kernel_rfl)
theorem aC.RX(W:aC H m ps ts L top R ws ms cs G):eK H m.d (.str "gone") (some (.ref m.gn)):=W.get (k:=kN) (by kernel_rfl)
theorem aC.Te(W:aC H m ps ts L top R ws ms cs G):eK H m.d (.str "top") (some (.int top)):=W.get (k:=kP) (by kernel_rfl)
theorem aC.getL(W:aC H m ps ts L top R ws ms cs G):eK H m.d (.str "limit") (some (.int L)):=W.get (k:=kL) (by kernel_rfl)
theorem aC.room(W:aC H m ps ts L top R ws ms cs G){n:Nat}(hn:n<ps.length):∃b,m.mj[n]? =some b∧H b=some (.lst (wf ws (aS R n))):=by
 have hl:n<m.mj.length:=by rw[W.MO];exact hn
 have e:m.mj[n]? =some m.mj[n]:=by simp[hl]
 exact⟨_,e,W.rm n _ e⟩
end
section
variable{P:Program}{w:World}{K:Frag}{mg:Str→aN}{base:Heap}{A:qH}
def zQ:Sp:=fun vs H Q _=>∃m ps ts L top R ws ms cs G,vs=[.ref m.d]∧aC H m ps ts L top R ws ms cs G∧ts.length≤1000∧∀l H',H l=none→aw H H'→H' l=some (.lst ((au ts).map nV))→Q (.ref l) H'
theorem de(T:Txt K mg A):bu P w K mg base eF 1 A.iF A.iz ["_law_world_here"] zQ:=by
 refine T.cI.ok rA (fun vs H Q E h=> ?_) (fun cJ Ar outer s H vs Q E hr h=> ?_)
 ·obtain⟨m,ps,ts,L,top,R,ws,ms,cs,G,rfl,_⟩:=h;rfl
 ·obtain⟨m,ps,ts,L,top,R,ws,ms,cs,G,rfl,W,hle,k⟩:=h;have hu:=dv hr;refine⟨_,(aq (aH (b9 (N:=["_law_frame","_law_world_here"]) (k:=1) (js:=[0]) rfl (bq (by kernel_rfl)) (eO rfl T.gu (aa (aT bp (by rfl) T.fK Boot.«len» (aa (aX hu (pv 0) aM (fun _ _=>rfl)) ae)) ae)) (fun _ _ _ _ _=>⟨(a_ (i:=0) (show(["_law_frame","_law_world_here"]:aO).Nodup by decide+kernel) rfl (Or.inl rfl) (Or.inr rfl)),(xm (ba rM (bb (pL (K:=K) rfl) (aX hu (pv 1) aM (fun _ _=>rfl)) (pv 0) (fun _ _=>rfl)) cG (br _))),(pv 0)⟩)))),?_⟩;refine⟨_,rfl,m.d,_,rfl,W.Kx,m.bl,_,rfl,.inl (bD.of W.tl),?_⟩;rw[List.length_map];refine⟨_,rfl,by lia,by lia,?_⟩;rw[Int.toNat_natCast];have Iy:((List.range ts.length).map fun k:Nat=>V.int (0+(k:Int))).length=ts.length:=by rw[List.length_map,List.length_range]
  refine gU (fun i=>ts[i]? ==some none) nV (sk 0 ts.length H).g ?_ ?_ fun p H' hp sm hl=>k p H' hp sm ?_
  ·rw[Iy];exact Nat.le_of_lt (bJ (by lia))
  ·intro i x H' C1 C0 hi sm hx c1 c0;rw[Iy] at hi;rw[List.getElem?_map,List.getElem?_range hi] at hx
   obtain rfl:x= .int (i:Int):=by
    have hx:some (V.int (0+(i:Int)))=some x:=hx;rw[Int.zero_add] at hx;cases hx;rfl
   have W' :=W.same sm;have hxi:ts[i]? =some ts[i]:=by simp[hi]
   rw[hxi] at c1 c0;refine⟨(dU.refl _).own (by decide),_,rfl,m.d,_,rfl,W'.Kx,_,rfl,m.bl,_,_,_,rfl,rfl,bD.of W'.tl,mU hxi,rfl,_,rfl,?_⟩
   cases eo:ts[i] with
   |none=>
    rw[eo] at c1;exact eT ⟨_,rfl,c1 rfl H' (aw.refl H')⟩
   |some n=>
    rw[eo] at c0;exact dH (c0 rfl H' (aw.refl H'))
  ·rw[Iy] at hl;exact hl
def BV:Sp:=fun vs H Q _=>∃m ps ts L top R ws ms cs G,vs=[.ref m.d]∧aC H m ps ts L top R ws ms cs G∧ps.length=ts.length∧ts.length≤1000∧R.length≤1000∧∀l H',H l=none→aw H H'→H' l=some (.lst (wf ws ((au ts).flatMap (aS R))))→Q (.ref l) H'
theorem d0(T:Txt K mg A):bu P w K mg base eF 2 A.gS A.gE ["_law_world_here"] BV:=by
 have bO:=de (P:=P) (w:=w) (base:=base) T;refine T.dk.ok gg (fun vs H Q E h=> ?_) (fun cJ Ar outer s H vs Q E hr h=> ?_)
 ·obtain⟨m,ps,ts,L,top,R,ws,ms,cs,G,rfl,_⟩:=h;rfl
 ·obtain⟨m,ps,ts,L,top,R,ws,ms,cs,G,rfl,W,NX,hle,hR,q⟩:=h;have hu:=dv hr;refine⟨_,(ai (aZ (i:=1) gg.nd rfl (Or.inl rfl) (b7 ae)) (ai (ir PassesOwn.never rfl (cQ (aA bO hr rfl T.dN T.cI.kp T.dE .nil aB (aa (pv 0) ae))) (a_ (i:=2) gg.nd rfl (Or.inl rfl) (Or.inl rfl)) (aq (bB (iq plainAttrs_list slot_list_extend type_list_extend sd (pv 1) (aa (bb bj (aX hu (pv 0) aM (fun _ _=>rfl)) (pv 2) (fun _ _=>rfl)) ae))))) (aq (aH (pv 1))))),?_⟩;refine⟨(show 0≤sizeLine by decide),fun fl BE=> ?_⟩;have s1:=aw.upd (o:= .lst []) BE;have e1:upd H fl (.lst []) fl=some (.lst []):=af;generalize upd H fl (.lst [])=H1 at s1 e1
  have vm:∀c∈m.own,c≠fl:=fun c hc z=>by
   obtain⟨oo,e⟩:=W.al c hc;rw[z,BE] at e;cases e
  refine⟨_,rfl,m,ps,ts,L,top,R,ws,ms,cs,G,rfl,W.same s1,hle,fun sl H2 mq s2 FP=> ?_⟩;refine⟨sl,rfl,⟨_,bD.of FP⟩,?_⟩;have stl:=gk ts;have slf:sl≠fl:=(ak e1 mq).symm;refine fi (K:=K) (a:=sl) (xs:=(au ts).map nV) (fun i σ H' =>∃(x2:Option V),σ=[some (.ref m.d),some (.ref fl),x2]∧H' fl=some (.lst (wf ws (((au ts).take i).flatMap (aS R))))∧(((au ts).take i).flatMap (aS R)).length≤1000*i∧∀c o,c≠fl→H2 c=some o→H' c=some o) ⟨_,rfl,s2 _ _ e1,Nat.zero_le _,fun _ _ _ e=>e⟩ ?_ ?_ ?_
  ·rintro i σ H' _ ⟨x2,_,_,_,k⟩
   exact bD.of (k _ _ slf FP)
  ·rintro i v σ H3 hv ⟨x2,rfl,KN,hl3,k3⟩
   rw[List.getElem?_map] at hv
   cases en:(au ts)[i]? with
   |none=>rw[en] at hv;cases hv
   |some n=>
    rw[en] at hv;cases hv;have An:i<(au ts).length:=(List.getElem?_eq_some_iff.mp en).1;have AY:ts[n]? =some none:=eq_of_beq (cw.mp (List.mem_of_getElem? en));have AW:=(List.getElem?_eq_some_iff.mp AY).1;have OY:(au ts).take (i+1)=(au ts).take i++[n]:=by rw[List.take_add_one,en];rfl
    have W3:aC H3 m ps ts L top R ws ms cs G:=W.kept fun c o hc e=>k3 c o (vm c hc) (s2 _ _ (s1 _ _ e));obtain⟨b,hb,Fz⟩:=W3.room (n:=n) (by lia);have idl:=iU R n;refine⟨_,rfl,.inl ⟨rfl,_,bD.of KN⟩,_,rfl,m.d,_,rfl,W3.Xe,_,rfl,m.rl,_,n,.ref b,rfl,rfl,bD.of W3.rl,d5 (by rw[List.getElem?_map,hb];rfl),fl,b,_,_,rfl,rfl,KN,Fz,?_,?_⟩
    ·have hL:sizeLine=16777216:=by decide
     unfold wf;rw[List.length_map,List.length_map]
     lia
    ·have ea:wf ws (((au ts).take i).flatMap (aS R))++wf ws (aS R n)=wf ws (((au ts).take (i+1)).flatMap (aS R)):=by
      unfold wf;rw[OY,List.flatMap_append,List.flatMap_singleton,List.map_append]
     rw[ea];refine⟨_,rfl,af,?_,fun c o h e=>by rw[ah h];exact k3 c o h e⟩;rw[OY,List.flatMap_append,List.flatMap_singleton,List.length_append]
     lia
  ·rintro σ H3 ⟨x2,rfl,KN,hl3,k3⟩
   rw[List.length_map,List.take_length] at KN;exact⟨_,rfl,q fl H3 BE (fun c o e=>k3 c o (ak e BE) (s2 _ _ (s1 _ _ e))) KN⟩
end
theorem Fl(S:List Nat):(S.map fun n=>((n:Nat):Int)).sum=((S.sum:Nat):Int):=by
 induction S with
 |nil=>rfl
 |cons a S ih=>
  simp only[List.map_cons,List.sum_cons,ih]
  lia
theorem Hz(ts:ay)(R:Rm):(bT ts R).map (fun i=>(R.getD i (0,0)).2)=(R.filter fun r=>ts[r.1]? ==some none).map (·.2):=ou R (0,0) (fun r=>ts[r.1]? ==some none) (fun r=>r.2)
theorem Aq{R:Rm}{n:Nat}(h:∀r∈R,r.1<n):aS R n=[]:=by
 unfold aS;refine List.filter_eq_nil_iff.mpr fun i hi z=> ?_;have:=h _ (xz (List.mem_range.mp hi));have:(R.getD i (0,0)).1=n:=by simpa using z
 lia
theorem HY{R:Rm}{n:Nat}(h:∀r∈R,r.1<n):bF R n=0:=by
 rw[←Lx,Aq h];rfl
theorem oU{ts:ay}{R:Rm}(h:∀r∈R,r.1<ts.length):bT (ts++[none]) R=bT ts R:=by
 unfold bT;refine List.filter_congr fun i hi=> ?_;rw[List.getElem?_append_left (h _ (xz (List.mem_range.mp hi)))]
theorem EX{H:Hp}{m:MW}{L top:Nat}{k:wn}{v:V}(ob:H m.d=some (.dK (CC m L top)))(h:bN (CC m L top) k=some v):eK H m.d (kV k) (some v):=by
 have:=eK.k (k:=k) ob;rw[h] at this;exact this
section
variable{P:Program}{w:World}{K:Frag}{mg:Str→aN}{base:Heap}{A:qH}
def QP:Sp:=fun vs H Q _=>∃m ps ts L top R ws ms cs G,∃t:Nat,vs=[.ref m.d,.int t]∧aC H m ps ts L top R ws ms cs G∧WF ps ts∧t<ps.length∧∀l H',H l=none→aw H H'→H' l=some (.lst ((hZ ps t).map nV))→Q (.ref l) H'
theorem sF(T:Txt K mg A):bu P w K mg base eF 1 A.oR A.o7 ["_law_world_here","_law_frame"] QP:=by
 refine T.oX.ok sE (fun vs H Q E h=> ?_) (fun cJ Ar outer s H vs Q E hr h=> ?_)
 ·obtain⟨m,ps,ts,L,top,R,ws,ms,cs,G,t,rfl,_⟩:=h;rfl
 ·obtain⟨m,ps,ts,L,top,R,ws,ms,cs,G,t,rfl,M,W,gB,k⟩:=h;have hu:=dv hr;refine⟨_,(ai (aZ (i:=2) sE.nd rfl (Or.inl rfl) (b7 (aa (pv 1) ae))) (ai (AK PassesOwn.never (ba tM (bb bj (aX hu (pv 0) aM (fun _ _=>rfl)) (bb bj (pv 2) (wK ra ao) (fun _ _=>rfl)) (fun _ _=>rfl)) cG (br _)) (aq (bB (iq plainAttrs_list PySem.F.slot_list_append PySem.F.type_list_append cv (pv 2) (aa (bb bj (aX hu (pv 0) aM (fun _ _=>rfl)) (bb bj (pv 2) (wK ra ao) (fun _ _=>rfl)) (fun _ _=>rfl)) ae))))) (aq (aH (AE (pv 2) (wK ra ao)))))),?_⟩;refine⟨_,rfl,(show 1≤sizeLine by decide),fun l Ec=> ?_⟩
  have PU:(zB ps t).length≤101:=by
   have:=Bn ps t t;have:=W.le;show(yO ps t t).length≤101
   lia
  have vm:∀c∈m.own,c≠l:=fun c hc z=>by
   obtain⟨oo,e⟩:=M.al c hc;rw[z,Ec] at e;cases e
  refine⟨fun mm σ H' =>∃(c:Nat) (acc:List Nat) (o:Option Nat),σ=[some (.ref m.d),some (.int t),some (.ref l)]∧H' l=some (.lst (acc.map nV++[nV c]))∧(∀d o,d≠l→H d=some o→H' d=some o)∧ps[c]? =some o∧(acc++[c])++RL ps o=zB ps t∧mm=c,⟨t,t,[],ps[t],rfl,af,fun d o h e=>by rw[ah h];exact e,by simp[gB],?_,rfl⟩,?_⟩
  ·exact(yt W (by simp[gB])).symm
  ·rintro mm σ H' ⟨c,acc,o,rfl,hl,k1,hc,hup,rfl⟩
   have M' :aC H' m ps ts L top R ws ms cs G:=M.kept fun d o hd e=>k1 d o (vm d hd) e;refine⟨_,rfl,m.d,_,rfl,M'.Md,_,rfl,1,rfl,l,_, -1,_,rfl,rfl,bD.of hl,zD _ _,m.ar,_,_,_,rfl,rfl,bD.of M'.hl,mU hc,rfl,_,rfl,?_⟩
   cases o with
   |none=>
    refine⟨_,rfl,1,rfl,_,rfl,l,_,rfl,rfl,bD.of hl,fun l2 vi=> ?_⟩;have sm:aw H H' :=fun d o e=>k1 d o (ak e Ec) e;have s2:=aw.upd (o:= .lst (acc.map nV++[nV mm]).reverse) vi;refine k l2 _ (sm.free vi) (sm.trans s2) ?_;have e:acc++[mm]=zB ps t:=by simpa[RL] using hup
    rw[af,show acc.map nV++[nV mm]=(acc++[mm]).map nV by rw[List.map_append];rfl,e,←List.map_reverse];rfl
   |some j=>
    have hjm:j<mm∧j<ps.length:=by
     have Wb:mm<ps.length:=(List.getElem?_eq_some_iff.mp hc).1
     cases mm with
     |zero=>rw[W.root] at hc;cases hc
     |succ g=>
      obtain⟨i',e',NF⟩:=W.par (g+1) (by lia) Wb;rw[e'] at hc;cases hc;exact⟨NF,by lia⟩
    have hxj:ps[j]? =some ps[j]:=by simp[hjm.2]
    have WQ:(acc++[mm])++zB ps j=zB ps t:=hup
    have KY:(acc++[mm]).length≤101:=by
     have:=congrArg List.length WQ;rw[List.length_append] at this
     lia
    rw[List.length_append] at KY;have KY:acc.length+1≤101:=KY;refine⟨fun dC H' =>∃m',m' <mm∧∃(c:Nat) (acc:List Nat) (o:Option Nat),dC =[some (.ref m.d),some (.int t),some (.ref l)]∧H' l=some (.lst (acc.map nV++[nV c]))∧(∀d o,d≠l→H d=some o→H' d=some o)∧ps[c]? =some o∧(acc++[c])++RL ps o=zB ps t∧m' =c,fun dC H' h=>h,?_⟩;refine⟨_,rfl,.inl ⟨rfl,_,bD.of hl⟩,_,rfl,m.d,_,rfl,M'.Md,_,rfl,1,rfl,l,_, -1,_,rfl,rfl,bD.of hl,zD _ _,m.ar,_,_,_,rfl,rfl,bD.of M'.hl,mU hc,l,_,_,rfl,rfl,hl,?_,?_⟩
    ·rw[List.length_append,List.length_map];show acc.length+1<sizeLine;have hL:sizeLine=16777216:=by decide
     lia
    ·refine⟨j,hjm.1,j,acc++[mm],ps[j],rfl,?_,fun d o h e=>by rw[ah h];exact k1 d o h e,hxj,?_,rfl⟩
     ·rw[af,List.map_append];rfl
     ·rw[←WQ,yt W hxj];simp
def Lo:Sp:=fun vs H Q _=>∃m ps ts L top R ws ms cs G,vs=[.ref m.d]∧aC H m ps ts L top R ws ms cs G∧(∀(i:Nat) (vs:ax),cs[i]? =some vs→vs.length=(R.getD i (0,0)).2)∧R.length≤1100∧(∀r∈R,r.2≤6)∧∀H',aw H H'→Q (.int (cg ts R:Nat)) H'
theorem qi(T:Txt K mg A):bu P w K mg base eF 1 A.nh A.mT ["_law_world_here"] Lo:=by
 refine T.m8.ok xR (fun vs H Q E h=> ?_) (fun cJ Ar outer s H vs Q E hr h=> ?_)
 ·obtain⟨m,ps,ts,L,top,R,ws,ms,cs,G,rfl,_⟩:=h;rfl
 ·obtain⟨m,ps,ts,L,top,R,ws,ms,cs,G,rfl,W,cz,hR,YQ,q⟩:=h;have hu:=dv hr;refine⟨_,(aq (aH (aT (zy rfl) (by rfl) T.Dc Boot.«sum» (aa (FZ (b9 (N:=["_law_cells"]) (k:=1) (js:=[]) rfl (bq (by kernel_rfl)) (BM (oT plainAttrs_dict slot_dict_values PySem.F.type_dict_values BB (aX hu (pv 0) aM (fun _ _=>rfl)))) (fun _ _ _ _ _=>⟨(a_ (i:=0) (show(["_law_cells"]:aO).Nodup by decide+kernel) rfl (Or.inl rfl) (Or.inr rfl)),qF,(aT (vQ (K:=K) rfl) (by rfl) T.fK Boot.«len» (aa (pv 0) ae))⟩))) ae)))),?_⟩;refine⟨_,rfl,m.d,_,rfl,W.GB,.inr (.inr (.inl ⟨rfl,.inr ⟨_,W.ca⟩⟩)),m.ca,_,rfl,rfl,W.ca,fun v hv=> ?_⟩;have s1:=aw.upd (o:=Ea v m.ca) hv;refine⟨v,m.ca,_,rfl,af,s1 _ _ W.ca,fun o nf=> ?_⟩;have W1:=W.same s1;generalize upd H v (Ea v m.ca)=H1 at s1 W1;have tq:upd H1 m.ca (.fB o (.dT (vE ts R ms))) m.ca=some (.fB o (.dT (vE ts R ms))):=af;have sP:(vE ts R ms).length=(bT ts R).length:=List.length_map ..;have hhl:=AB ts R;refine gU (fun _=>true) (fun j=>V.int ((R.getD ((bT ts R).getD j 0) (0,0)).2:Nat)) (vJ tq) (Nat.le_of_lt (bJ (by lia))) ?_ fun p H2 hp s2 hl=> ?_
  ·rintro j x H' C1 C0 hj sm ⟨k,hk⟩ c1 c0
   unfold vE at hk;rw[List.getElem?_map] at hk
   cases ei:(bT ts R)[j]? with
   |none=>rw[ei] at hk;cases hk
   |some i=>
    rw[ei] at hk;cases hk;have ed:(bT ts R).getD j 0=i:=by rw[List.getD_eq_getElem?_getD,ei];rfl
    obtain⟨vs,h1,h2⟩:=W1.mm i (List.mem_of_getElem? ei);have h3:=sm _ _ (show upd H1 m.ca (.fB o (.dT (vE ts R ms))) (ms.getD i 0)=some (.lst vs) by rw[ah (aG h2 W1.ca (by intro z;cases z))];exact h2);rw[ed] at c1;refine⟨(dU.refl _).own (by decide),@eT _ (C0 H') ⟨_,rfl,_,_,rfl,.inl (bD.of h3),?_⟩⟩;rw[cz i vs h1];exact c1 rfl H' (aw.refl H')
  ·refine⟨m.ca,o,_,s2 _ _ tq,nf,?_⟩;have pd:p≠m.ca:=fun z=>by rw[z,tq] at hp;cases hp
   have el:((List.range (vE ts R ms).length).filter fun _=>true).map (fun j=>V.int ((R.getD ((bT ts R).getD j 0) (0,0)).2:Nat))=(((R.filter fun r=>ts[r.1]? ==some none).map (·.2)).map fun n=>((n:Nat):Int)).map V.int:=by
    rw[List.filter_eq_self.mpr (fun _ _=>rfl),sP,←Hz,List.map_map,List.map_map]
    conv=>rhs;rw[sA (bT ts R) 0]
    rw[List.map_map];rfl
   rw[el] at hl;refine⟨p,_,rfl,(by rw[ah pd];exact hl),?_,?_,?_⟩
   ·rw[List.length_map,List.length_map];exact Nat.le_trans (List.length_filter_le _ _) (by lia)
   ·intro n hn;obtain⟨x,hx,rfl⟩:=List.mem_map.mp hn;obtain⟨r,hr,rfl⟩:=List.mem_map.mp hx;have:=YQ r (List.mem_filter.mp hr).1
    lia
   ·rw[Fl];refine q _ fun c oo e=> ?_;by_cases z:c=m.ca
    ·subst z;rw[af,←W.ca];exact e
    ·rw[ah z];refine s2 _ _ ?_;rw[ah z];exact s1 _ _ e
def G1(H:Hp)(m:MW)(m' :MW)(H' :Hp):Prop:=m'.d=m.d∧(∀c∈m'.own,c∈m.own∨H c=none)∧(∀c o,¬c∈m.own→H c=some o→H' c=some o)∧(∀c xs,H c=some (.tup xs)→H' c=some (.tup xs))
theorem Ff{b:Addr}{l l2 l3:aY}(h:(l++(l2++l3)).Nodup)(hb:¬b∈l++(l2++l3)):(l++((l2++[b])++l3)).Nodup:=by
 have p:(l++((l2++[b])++l3)).Perm (b::(l++(l2++l3))):=by
  rw[List.append_assoc,List.singleton_append,←List.append_assoc,←List.append_assoc];exact List.perm_middle
 exact p.nodup_iff.mpr (List.nodup_cons.mpr ⟨hb,h⟩)
def FU:Sp:=fun vs H Q _=>∃m ps ts L top R ws ms cs G,∃t:Nat,vs=[.ref m.d,.int t]∧aC H m ps ts L top R ws ms cs G∧ps.length=ts.length∧ps.length≤100∧(∀r∈R,r.1<ps.length)∧
 ∀m' H',aC H' m' (ps++[some t]) (ts++[none]) L top R ws ms cs G→G1 H m m' H'→Q (.int (ps.length:Nat)) H'
theorem vX(T:Txt K mg A):bu P w K mg base eF 1 A.lD A.lA ["_law_world_here","_law_frame"] FU:=by
 refine T.qm.ok vx (fun vs H Q E h=> ?_) (fun cJ Ar outer s H vs Q E hr h=> ?_)
 ·obtain⟨m,ps,ts,L,top,R,ws,ms,cs,G,t,rfl,_⟩:=h;rfl
 ·obtain⟨m,ps,ts,L,top,R,ws,ms,cs,G,t,rfl,W,NX,VS,hRf,q⟩:=h;have hu:=dv hr;have hL:sizeLine=16777216:=by decide
  refine⟨_,(ai (bB (iq plainAttrs_list PySem.F.slot_list_append PySem.F.type_list_append cv (aX hu (pv 0) aM (fun _ _=>rfl)) (aa (pv 1) ae))) (ai (bB (iq plainAttrs_list PySem.F.slot_list_append PySem.F.type_list_append cv (aX hu (pv 0) aM (fun _ _=>rfl)) (aa cG ae))) (ai (bB (iq plainAttrs_list PySem.F.slot_list_append PySem.F.type_list_append cv (aX hu (pv 0) aM (fun _ _=>rfl)) (aa (b7 ae) ae))) (ai (bB (iq plainAttrs_list PySem.F.slot_list_append PySem.F.type_list_append cv (aX hu (pv 0) aM (fun _ _=>rfl)) (aa ao ae))) (aq (aH (bt mI (aT bp (by rfl) T.fK Boot.«len» (aa (aX hu (pv 0) aM (fun _ _=>rfl)) ae)) ao))))))),?_⟩;refine⟨_,rfl,m.d,_,rfl,W.Md,.inl ⟨rfl,_,bD.of W.hl⟩,_,rfl,m.ar,_,_,rfl,rfl,W.hl,by rw[List.length_map];lia,?_⟩;have n01:=W.ne m.g0 m.g1 (by decide);have Zg:=W.ne m.g0 m.g2 (by decide);have n03:=W.ne m.g0 m.g3 (by decide);have n12:=W.ne m.g1 m.g2 (by decide);have n13:=W.ne m.g1 m.g3 (by decide);have n23:=W.ne m.g2 m.g3 (by decide);have dn:∀{c:Addr} {xs:ax},H c=some (.lst xs)→m.d≠c:=fun e=>aG W.ob e (by intro z;cases z);have ob1:upd H m.ar (.lst (ps.map oV++[V.int t])) m.d=some (.dK (CC m L top)):=by rw[ah (dn W.hl)];exact W.ob
  have tl1:upd H m.ar (.lst (ps.map oV++[V.int t])) m.bl=some (.lst (ts.map oV)):=by rw[ah n01.symm];exact W.tl
  refine⟨_,rfl,m.d,_,rfl,EX (k:=kB) (v:= .ref m.bl) ob1 (by kernel_rfl),.inl ⟨rfl,_,bD.of tl1⟩,m.bl,_,_,rfl,rfl,tl1,by rw[List.length_map];lia,?_⟩
  have at2:∀c o,c≠m.ar→c≠m.bl→H c=some o→upd (upd H m.ar (.lst (ps.map oV++[V.int t]))) m.bl (.lst (ts.map oV++[V.bC])) c=some o:=fun c o h1 h2 e=>by
   rw[ah h2,ah h1];exact e
  have a2:upd (upd H m.ar (.lst (ps.map oV++[V.int t]))) m.bl (.lst (ts.map oV++[V.bC])) m.ar=some (.lst (ps.map oV++[V.int t])):=by rw[ah n01,af]
  have b2:upd (upd H m.ar (.lst (ps.map oV++[V.int t]))) m.bl (.lst (ts.map oV++[V.bC])) m.bl=some (.lst (ts.map oV++[V.bC])):=af
  have fr2:∀c,upd (upd H m.ar (.lst (ps.map oV++[V.int t]))) m.bl (.lst (ts.map oV++[V.bC])) c=none→H c=none:=fun c e=>by
   cases z:H c with
   |none=>rfl
   |some o=>
    by_cases z1:c=m.ar
    ·rw[z1,a2] at e;cases e
    ·by_cases z2:c=m.bl
     ·rw[z2,b2] at e;cases e
     ·rw[at2 c o z1 z2 z] at e;cases e
  generalize upd (upd H m.ar (.lst (ps.map oV++[V.int t]))) m.bl (.lst (ts.map oV++[V.bC]))=H2 at at2 a2 b2 fr2;have TJ:=at2 _ _ (dn W.hl) (dn W.tl) W.ob;have YK:=at2 _ _ Zg.symm n12.symm W.rl;refine⟨_,rfl,m.d,_,rfl,EX (k:=kR) (v:= .ref m.rl) TJ (by kernel_rfl),.inl ⟨rfl,_,bD.of YK⟩,(show 0≤sizeLine by decide),fun b hb=> ?_⟩;have s3:=aw.upd (o:= .lst []) hb;have b3:upd H2 b (.lst []) b=some (.lst []):=af;have YO:=fr2 b hb;generalize upd H2 b (.lst [])=H3 at s3 b3;refine⟨m.rl,_,_,rfl,rfl,s3 _ _ YK,by rw[List.length_map,W.MO];lia,?_⟩;have agd:b≠m.rl:=(ak W.rl YO).symm;have OV:∀c o,c≠m.rl→H3 c=some o→upd H3 m.rl (.lst (m.mj.map V.ref++[V.ref b])) c=some o:=fun c o h e=>by rw[ah h];exact e
  have r4:upd H3 m.rl (.lst (m.mj.map V.ref++[V.ref b])) m.rl=some (.lst (m.mj.map V.ref++[V.ref b])):=af;generalize upd H3 m.rl (.lst (m.mj.map V.ref++[V.ref b]))=H4 at OV r4;have gv4:=OV _ _ n23.symm (s3 _ _ (at2 _ _ n03.symm n13.symm W.gv));have ob4:=OV _ _ (dn W.rl) (s3 _ _ TJ);refine⟨_,rfl,m.d,_,rfl,EX (k:=kG) (v:= .ref m.gv) ob4 (by kernel_rfl),.inl ⟨rfl,_,bD.of gv4⟩,m.gv,_,_,rfl,rfl,gv4,by rw[List.length_map,List.length_range];lia,?_⟩;have MJ:∀c o,c≠m.gv→H4 c=some o→upd H4 m.gv (.lst (((List.range ps.length).map fun n=>V.int (bF R n:Nat))++[V.int 0])) c=some o:=fun c o h e=>by rw[ah h];exact e
  have g5:upd H4 m.gv (.lst (((List.range ps.length).map fun n=>V.int (bF R n:Nat))++[V.int 0])) m.gv=some (.lst (((List.range ps.length).map fun n=>V.int (bF R n:Nat))++[V.int 0])):=af;generalize upd H4 m.gv (.lst (((List.range ps.length).map fun n=>V.int (bF R n:Nat))++[V.int 0]))=H5 at MJ g5;have all:∀c o,c≠m.ar→c≠m.bl→c≠m.rl→c≠m.gv→H c=some o→H5 c=some o:=fun c o h1 h2 h3 h4 e=>MJ _ _ h4 (OV _ _ h3 (s3 _ _ (at2 c o h1 h2 e)));have bl5:=MJ _ _ n13 (OV _ _ n12 (s3 _ _ b2));have ob5:=MJ _ _ (dn W.gv) ob4;refine⟨_,rfl,m.d,_,rfl,EX (k:=kB) (v:= .ref m.bl) ob5 (by kernel_rfl),m.bl,_,rfl,.inl (bD.of bl5),_,1,rfl,rfl,?_⟩
  have er:V.int (((ts.map oV++[V.bC]).length:Int) - 1)=V.int ((ps.length:Nat):Int):=by
   rw[List.length_append,List.length_map]
   congr 1
   show((ts.length+1:Nat):Int) - 1=_
   lia
  show Q (V.int (((ts.map oV++[V.bC]).length:Int) - 1)) H5;rw[er]
  have nbl:¬b∈m.ls ms:=fun z=>by
   obtain⟨o,e⟩:=W.al b (W.sub _ (List.mem_cons_of_mem _ (List.mem_cons_of_mem _ z)));rw[YO] at e;cases e
  have inl:∀{c:Addr},c∈m.ls ms→c∈m.own:=fun h=>W.sub _ (List.mem_cons_of_mem _ (List.mem_cons_of_mem _ h));have kp:∀c o,¬c∈m.own→H c=some o→H5 c=some o:=fun c o h e=>all c o (fun z=>h (z▸inl m.Gf)) (fun z=>h (z▸inl m.Aa)) (fun z=>h (z▸inl m.Ih)) (fun z=>h (z▸inl m.DD)) e;have kt:∀c xs,H c=some (.tup xs)→H5 c=some (.tup xs):=fun c xs e=>all c _ (aG e W.hl (by intro z;cases z)) (aG e W.tl (by intro z;cases z)) (aG e W.rl (by intro z;cases z)) (aG e W.gv (by intro z;cases z)) e;have ah6:b≠m.gv:=(ak W.gv YO).symm;have b5:=MJ _ _ ah6 (OV _ _ agd b3);have Vx:∀r∈R,r.1<ts.length:=fun r hr=>by have:=hRf r hr;lia
  refine q {m with mj:=m.mj++[b],own:=b::m.own} H5 ⟨ob5,?_,?_,?_,?_,fun n c e=> ?_,?_,?_,?_,W.gI,?_,W.s_,fun i hi=>⟨List.mem_cons_of_mem _ (W.way i hi).1,kt _ _ (W.way i hi).2⟩,W.ml,fun i hi=> ?_,?_,fun c hc=> ?_,fun c hc=> ?_⟩ ⟨rfl,fun c hc=> ?_,kp,kt⟩
  ·rw[List.map_append];exact MJ _ _ n03 (OV _ _ Zg (s3 _ _ a2))
  ·rw[List.map_append];exact bl5
  ·show H5 m.rl=some (.lst ((m.mj++[b]).map V.ref));rw[List.map_append];exact MJ _ _ n23 r4
  ·rw[List.length_append,List.length_append,W.MO];rfl
  ·have e:(m.mj++[b])[n]? =some c:=e;by_cases hn:n<m.mj.length
   ·rw[List.getElem?_append_left hn] at e;have w:∀{j:Nat} {c' :Addr},(m.ls ms)[j]? =some c'→5+n≠j→c≠c' :=fun h h' =>W.ne (m.gr e) h h';exact all c _ (w m.g0 (by lia)) (w m.g1 (by lia)) (w m.g2 (by lia)) (w m.g3 (by lia)) (W.rm n c e)
   ·rw[List.getElem?_append_right (by lia)] at e
    have hn0:n - m.mj.length=0:=by
     have:=(List.getElem?_eq_some_iff.mp e).1;simp at this
     lia
    rw[hn0] at e;cases e;have:n=ps.length:=by rw[←W.MO];lia
    subst this;rw[Aq hRf];exact b5
  ·rw[g5,List.length_append];show some (HO.lst _)=some (HO.lst ((List.range (ps.length+1)).map _));rw[List.range_succ,List.map_append];show _=some (HO.lst (_++[V.int (bF R ps.length:Nat)]));rw[HY hRf];rfl
  ·show H5 m.ca=some (.dT (vE (ts++[none]) R ms));unfold vE;rw[oU Vx];exact all _ _ (aG W.ca W.hl (by intro z;cases z)) (aG W.ca W.tl (by intro z;cases z)) (aG W.ca W.rl (by intro z;cases z)) (aG W.ca W.gv (by intro z;cases z)) W.ca
  ·exact all _ _ (W.ne m.g4 m.g0 (by decide)) (W.ne m.g4 m.g1 (by decide)) (W.ne m.g4 m.g2 (by decide)) (W.ne m.g4 m.g3 (by decide)) W.gn
  ·rw[oU Vx];exact W.gl
  ·rw[oU Vx] at hi;obtain⟨vs,h1,h2⟩:=W.mm i hi;have w:∀{j:Nat} {c' :Addr},(m.ls ms)[j]? =some c'→5+m.mj.length+i≠j→ms.getD i 0≠c' :=fun h h' =>W.ne (m.gm (cj 0 (show i<ms.length by rw[W.ml];exact cO hi))) h h';exact⟨vs,h1,all _ _ (w m.g0 (by lia)) (w m.g1 (by lia)) (w m.g2 (by lia)) (w m.g3 (by lia)) h2⟩
  ·exact Ff (l:=[m.ar,m.bl,m.rl,m.gv,m.gn]) W.nd nbl
  ·have hc:c∈m.d::m.ca::m.ar::m.bl::m.rl::m.gv::m.gn::((m.mj++[b])++ms):=hc;have e:∀{x:Addr},x∈m.d::m.ca::m.ls ms→x∈b::m.own:=fun h=>List.mem_cons_of_mem _ (W.sub _ h);simp only[List.mem_cons,List.mem_append,List.not_mem_nil,or_false] at hc;rcases hc with rfl|rfl|rfl|rfl|rfl|rfl|rfl|(h|rfl)|h
   ·exact e List.mem_cons_self
   ·exact e (List.mem_cons_of_mem _ List.mem_cons_self)
   ·exact List.mem_cons_of_mem _ (inl m.Gf)
   ·exact List.mem_cons_of_mem _ (inl m.Aa)
   ·exact List.mem_cons_of_mem _ (inl m.Ih)
   ·exact List.mem_cons_of_mem _ (inl m.DD)
   ·exact List.mem_cons_of_mem _ (inl m.ze)
   ·exact List.mem_cons_of_mem _ (inl (m.A6 h))
   ·exact List.mem_cons_self
   ·exact List.mem_cons_of_mem _ (inl (m.IM h))
  ·have hc:c∈b::m.own:=hc;rcases List.mem_cons.mp hc with rfl|hc
   ·exact⟨_,b5⟩
   ·obtain⟨o,e⟩:=W.al c hc;by_cases z1:c=m.ar
    ·exact⟨_,z1▸MJ _ _ n03 (OV _ _ Zg (s3 _ _ a2))⟩
    ·by_cases z2:c=m.bl
     ·exact⟨_,z2▸bl5⟩
     ·by_cases z3:c=m.rl
      ·exact⟨_,z3▸MJ _ _ n23 r4⟩
      ·by_cases z4:c=m.gv
       ·exact⟨_,z4▸g5⟩
       ·exact⟨_,all c o z1 z2 z3 z4 e⟩
  ·have hc:c∈b::m.own:=hc;rcases List.mem_cons.mp hc with rfl|hc
   ·exact .inr YO
   ·exact .inl hc
end
theorem se{ws:aY}{wt:Addr}{I:List Nat}(h:∀i∈I,i<ws.length):wf (ws++[wt]) I=wf ws I:=by
 unfold wf;refine List.map_congr_left fun i hi=> ?_;rw[d4 (h i hi)]
theorem qZ{ts:ay}(R:Rm){t n:Nat}(h:ts[t]? =some none):bT ts (R++[(t,n)])=bT ts R++[R.length]:=by
 unfold bT;rw[List.length_append];show(List.range (R.length+1)).filter _=_;rw[List.range_succ,List.filter_append]
 congr 1
 ·refine List.filter_congr fun i hi=> ?_;rw[d4 (List.mem_range.mp hi)]
 ·rw[List.filter_cons,wv,h];rfl
theorem MH{ts:ay}{R:Rm}{ms:aY}(hm:ms.length=R.length){t n:Nat}{r:Addr}(h:ts[t]? =some none):vE ts (R++[(t,n)]) (ms++[r])=vE ts R ms++[(qX t (bF R t),V.ref r)]:=by
 unfold vE;rw[qZ R h,List.map_append]
 congr 1
 ·refine List.map_congr_left fun i hi=> ?_;have hi:=cO hi;rw[d4 hi,eW hi,d4 (by rw[hm];exact hi)]
 ·show[(qX ((R++[(t,n)]).getD R.length (0,0)).1 (bc (R++[(t,n)]) R.length),V.ref ((ms++[r]).getD R.length 0))]=_;rw[wv,jX,←hm,wv]
theorem zc{t p t' p' :Nat}(h:qX t p=qX t' p'):t=t'∧p=p' :=by
 have h1:=List.cons.inj h;have h2:(t:Int)=t' :=Sum.inl.inj h1.1;have h3:(p:Int)=p' :=Sum.inl.inj (List.cons.inj h1.2).1
 lia
theorem Jf{kv:eA}{k:List wn}{v:V}(h:bN kv k=some v):(k,v)∈kv:=by
 unfold bN at h
 cases e:kv.find? fun kv=>decide (kv.1=k) with
 |none=>rw[e] at h;cases h
 |some p=>
  rw[e] at h;cases h;have h1:=List.mem_of_find?_eq_some e;have h2:=List.find?_some e;have h2:p.1=k:=by simpa using h2
  rw[←h2];exact h1
theorem Rk{ts:ay}{R:Rm}(hr:∀r∈R,1≤r.2)(ms:aY)(t:Nat):bN (vE ts R ms) (qX t (bF R t))=none:=by
 cases e:bN (vE ts R ms) (qX t (bF R t)) with
 |none=>rfl
 |some v=>
  obtain⟨i,hi,e1⟩:=List.mem_map.mp (Jf e);obtain⟨h1,h2⟩:=zc (congrArg Prod.fst e1);have hx:i∈aS R t:=by rw[←h1];exact jj (cO hi)
  have:=jaa hr hx
  lia
theorem T7(m:MW)(L top x:Nat):wp (CC m L top) kP (.int x)=CC m L x:=by kernel_rfl
theorem aC.top{H:Hp}{m:MW}{ps ts:ay}{L top:Nat}{R:Rm}{ws ms:aY}{cs:cE}{G:List Nat}(W:aC H m ps ts L top R ws ms cs G)(x:Nat):aC (upd H m.d (.dK (CC m L x))) m ps ts L x R ws ms cs G:=by
 have nl:∀{c:Addr} {xs:ax},H c=some (.lst xs)→upd H m.d (.dK (CC m L x)) c=some (.lst xs):=fun e=>by
  rw[ah (aG e W.ob (by intro z;cases z))];exact e
 refine⟨af,nl W.hl,nl W.tl,nl W.rl,W.MO,fun n b e=>nl (W.rm n b e),nl W.gv,?_,nl W.gn,W.gI,W.gl,W.s_,fun i hi=>⟨(W.way i hi).1,?_⟩,W.ml,fun i hi=> ?_,W.nd,W.sub,fun c hc=> ?_⟩
 ·rw[ah (aG W.ca W.ob (by intro z;cases z))];exact W.ca
 ·rw[ah (aG (W.way i hi).2 W.ob (by intro z;cases z))];exact(W.way i hi).2
 ·obtain⟨vs,h1,h2⟩:=W.mm i hi;exact⟨vs,h1,nl h2⟩
 ·by_cases z:c=m.d
  ·exact⟨_,j_ z⟩
  ·rw[ah z];exact W.al c hc
theorem QO{R:Rm}{k t n:Nat}(h:t<k):((List.range k).map fun x=>V.int (bF R x:Nat)).set t (V.int ((bF R t+n:Nat):Int))=(List.range k).map fun x=>V.int (bF (R++[(t,n)]) x:Nat):=by
 apply List.ext_getElem?;intro i;rw[List.getElem?_set,List.getElem?_map,List.length_map,List.length_range];by_cases hi:i<k
 ·rw[List.getElem?_range hi,List.getElem?_map,List.getElem?_range hi];by_cases z:t=i
  ·subst z;rw[if_pos rfl,if_pos h];show some (V.int ((bF R t+n:Nat):Int))=some (V.int ((bF (R++[(t,n)]) t:Nat):Int));rw[rb];simp
  ·rw[if_neg z];show some (V.int ((bF R i:Nat):Int))=some (V.int ((bF (R++[(t,n)]) i:Nat):Int));rw[rb];simp[z]
 ·rw[List.getElem?_map,List.getElem?_eq_none (by rw[List.length_range];lia)]
  split
  ·lia
  ·rfl
section
variable{P:Program}{w:World}{K:Frag}{mg:Str→aN}{base:Heap}{A:qH}
def HJ:Sp:=fun vs H Q _=>∃m ps ts L top R ws ms cs G,∃t n:Nat,vs=[.ref m.d,.int t,.int n]∧aC H m ps ts L top R ws ms cs G∧ps.length=ts.length∧ps.length≤101∧R.length≤1000∧cs.length=R.length∧(∀(i:Nat) (vs:ax),cs[i]? =some vs→vs.length=(R.getD i (0,0)).2)∧(∀r∈R,1≤r.2∧r.2≤6)∧ts[t]? =some none∧1≤n∧n≤6∧
 ∀m' wt r H',aC H' m' ps ts L (max top (cg ts R+n)) (R++[(t,n)]) (ws++[wt]) (ms++[r]) (cs++[List.replicate n .bC]) G→G1 H m m' H'→H' wt=some (.tup (lU t (bF R t)))→Q (.ref wt) H'
theorem vA(T:Txt K mg A):bu P w K mg base eF 2 A.lL A.kU ["_law_world_here","_law_frame","_law_size"] HJ:=by
 have nu:=qi (P:=P) (w:=w) (base:=base) T;refine T.qt.ok nW (fun vs H Q E h=> ?_) (fun cJ Ar outer s H vs Q E hr h=> ?_)
 ·obtain⟨m,ps,ts,L,top,R,ws,ms,cs,G,t,n,rfl,_⟩:=h;rfl
 ·obtain⟨m,ps,ts,L,top,R,ws,ms,cs,G,t,n,rfl,W,NX,ah_,hR,sP,cz,YQ,pF,n1,n6,q⟩:=h;have hu:=dv hr;have hL:sizeLine=16777216:=by decide
  have Me:t<ps.length:=by
   have:=(List.getElem?_eq_some_iff.mp pF).1
   lia
  refine⟨_,(ai (aZ (i:=3) nW.nd rfl (Or.inl rfl) (gT (aa (pv 1) (aa (bb bj (aX hu (pv 0) aM (fun _ _=>rfl)) (pv 1) (fun _ _=>rfl)) ae)))) (ai (oF (bt fz (bb bj (aX hu (pv 0) aM (fun _ _=>rfl)) (pv 1) (fun _ _=>rfl)) (pv 2)) (o8 (aX hu (pv 0) aM (fun _ _=>rfl)) (pv 1) wS)) (ai (bB (iq plainAttrs_list PySem.F.slot_list_append PySem.F.type_list_append cv (bb bj (aX hu (pv 0) aM (fun _ _=>rfl)) (pv 1) (fun _ _=>rfl)) (aa (pv 3) ae))) (ai (tT hu (aX hu (pv 0) aM (fun _ _=>rfl)) (pv 3) (bt Gd (b7 (aa cG ae)) (pv 2)) rfl) (ai (tT hu (pv 0) aM (aT (nE rfl) (by rfl) T.wA Boot.«max» (aa (aX hu (pv 0) aM (fun _ _=>rfl)) (aa (aA nu hr rfl T.sv T.m8.kp T.sq .nil aB (aa (pv 0) ae)) ae))) rfl) (aq (aH (pv 3)))))))),?_⟩;have Xi:JZ ((List.range ps.length).map fun x=>V.int (bF R x:Nat)) (t:Int)=some (.int (bF R t:Nat)):=d5 (by rw[List.getElem?_map,List.getElem?_range Me];rfl);refine⟨_,rfl,_,rfl,m.d,_,rfl,W.RS,_,rfl,m.gv,_,_,_,rfl,rfl,bD.of W.gv,Xi,(show 2≤sizeLine by decide),fun wt Kr=> ?_⟩;have s1:=aw.upd (o:= .tup [V.int t,V.int (bF R t:Nat)]) Kr;have w1:upd H wt (.tup [V.int t,V.int (bF R t:Nat)]) wt=some (.tup (lU t (bF R t))):=af;have W1:=W.same s1;generalize upd H wt (.tup [V.int t,V.int (bF R t:Nat)])=H1 at s1 w1 W1;refine⟨_,rfl,m.d,_,rfl,W1.RS,_,rfl,m.gv,_,_,_,rfl,rfl,bD.of W1.gv,Xi,_,rfl,_,_,rfl,rfl,?_⟩;refine⟨_,rfl,m.d,_,rfl,W1.RS,_,rfl,m.gv,_,_,t,rfl,rfl,W1.gv,pR (by rw[List.length_map,List.length_range];exact Me),?_⟩;have abZ:(bF R t:Int)+(n:Int)=((bF R t+n:Nat):Int):=by lia
  show _;have dn:∀{c:Addr} {xs:ax},H1 c=some (.lst xs)→m.d≠c:=fun e=>aG W1.ob e (by intro z;cases z);have cn:∀{c:Addr} {xs:ax},H1 c=some (.lst xs)→m.ca≠c:=fun e=>aG W1.ca e (by intro z;cases z);have at2:∀c o,c≠m.gv→H1 c=some o→upd H1 m.gv (.lst (((List.range ps.length).map fun x=>V.int (bF R x:Nat)).set t (V.int ((bF R t:Int)+(n:Int))))) c=some o:=fun c o h e=>by rw[ah h];exact e
  have g2:upd H1 m.gv (.lst (((List.range ps.length).map fun x=>V.int (bF R x:Nat)).set t (V.int ((bF R t:Int)+(n:Int))))) m.gv=some (.lst ((List.range ps.length).map fun x=>V.int (bF (R++[(t,n)]) x:Nat))):=by
   rw[af,abZ,QO Me]
  generalize upd H1 m.gv (.lst (((List.range ps.length).map fun x=>V.int (bF R x:Nat)).set t (V.int ((bF R t:Int)+(n:Int)))))=H2 at at2 g2;obtain⟨b,hb,Fz⟩:=W1.room Me;have wb:∀{j:Nat} {c' :Addr},(m.ls ms)[j]? =some c'→5+t≠j→b≠c' :=fun h h' =>W1.ne (m.gr hb) h h';have TJ:=at2 _ _ (dn W1.gv) W1.ob;have YK:=at2 _ _ (W1.ne m.g2 m.g3 (by decide)) W1.rl;have b2:=at2 _ _ (wb m.g3 (by lia)) Fz;have idl:=iU R t;refine⟨_,rfl,m.d,_,rfl,EX (k:=kR) (v:= .ref m.rl) TJ (by kernel_rfl),_,rfl,m.rl,_,t,.ref b,rfl,rfl,bD.of YK,d5 (by rw[List.getElem?_map,hb];rfl),.inl ⟨rfl,_,bD.of b2⟩,_,rfl,b,_,_,rfl,rfl,b2,?_,?_⟩
  ·unfold wf;rw[List.length_map]
   lia
  have V3:∀c o,c≠b→H2 c=some o→upd H2 b (.lst (wf ws (aS R t)++[V.ref wt])) c=some o:=fun c o h e=>by rw[ah h];exact e
  have b3:upd H2 b (.lst (wf ws (aS R t)++[V.ref wt])) b=some (.lst (wf ws (aS R t)++[V.ref wt])):=af;generalize upd H2 b (.lst (wf ws (aS R t)++[V.ref wt]))=H3 at V3 b3;have Lk:∀c o,c≠m.gv→c≠b→H1 c=some o→H3 c=some o:=fun c o h1 h2 e=>V3 _ _ h2 (at2 _ _ h1 e);have TX:∀c xs,H1 c=some (.tup xs)→H3 c=some (.tup xs):=fun c xs e=>Lk _ _ (aG e W1.gv (by intro z;cases z)) (aG e Fz (by intro z;cases z)) e
  have X5:∀c,H3 c=none→H1 c=none:=fun c e=>by
   cases z:H1 c with
   |none=>rfl
   |some o=>
    by_cases z1:c=m.gv
    ·rw[z1,V3 _ _ (wb m.g3 (by lia)).symm g2] at e;cases e
    ·by_cases z2:c=b
     ·rw[z2,b3] at e;cases e
     ·rw[Lk c o z1 z2 z] at e;cases e
  have ob3:=V3 _ _ (dn Fz) TJ;have ca3:=Lk _ _ (cn W1.gv) (cn Fz) W1.ca;refine⟨(show 1≤sizeLine by decide),fun l1 Bu=>⟨_,rfl,l1,(n:Int),_,rfl,rfl,af,by lia,by lia,?_,fun r X_=> ?_⟩⟩
  ·show 1*(n:Int).toNat≤sizeLine;exact Nat.le_of_lt (bJ (by lia))
  rw[Int.toNat_natCast,DT];have s5:=(aw.upd (o:= .lst [V.bC]) Bu).trans (aw.upd (o:= .lst (List.replicate n .bC)) X_);have r5:upd (upd H3 l1 (.lst [V.bC])) r (.lst (List.replicate n .bC)) r=some (.lst (List.replicate n .bC)):=af;have r3:H3 r=none:=(aw.upd (o:= .lst [V.bC]) Bu).free X_;generalize upd (upd H3 l1 (.lst [V.bC])) r (.lst (List.replicate n .bC))=H5 at s5 r5;have r1:=X5 r r3;have r0:H r=none:=s1.free r1;have hhl:=AB ts R;refine⟨_,rfl,m.d,_,rfl,EX (k:=kC) (v:= .ref m.ca) (s5 _ _ ob3) (by kernel_rfl),_,rfl,m.ca,_,rfl,vz.t (k:=qX t (bF R t)) (s5 _ _ ca3) (s5 _ _ (TX _ _ w1)) (by unfold vE;rw[List.length_map];lia),?_⟩;rw[ql _ (Rk (fun x hx=>(YQ x hx).1) ms t),←MH W.ml pF (n:=n)];have R5:∀c o,c≠m.ca→H5 c=some o→upd H5 m.ca (.dT (vE ts (R++[(t,n)]) (ms++[r]))) c=some o:=fun c o h e=>by rw[ah h];exact e
  have ca6:upd H5 m.ca (.dT (vE ts (R++[(t,n)]) (ms++[r]))) m.ca=some (.dT (vE ts (R++[(t,n)]) (ms++[r]))):=af;generalize upd H5 m.ca (.dT (vE ts (R++[(t,n)]) (ms++[r])))=H6 at R5 ca6;have Rv:∀c o,c≠m.gv→c≠b→c≠m.ca→H1 c=some o→H6 c=some o:=fun c o h1 h2 h3 e=>R5 _ _ h3 (s5 _ _ (Lk c o h1 h2 e));have ES:∀{c:Addr} {xs:ax} {j:Nat},(m.ls ms)[j]? =some c→j≠3→j≠5+t→H1 c=some (.lst xs)→H6 c=some (.lst xs):=fun hc h3 h5 e=>Rv _ _ (W1.ne hc m.g3 h3) (W1.ne hc (m.gr hb) h5) (cn e).symm e;have Hg:∀c xs,H1 c=some (.tup xs)→H6 c=some (.tup xs):=fun c xs e=>R5 _ _ (aG e W1.ca (by intro z;cases z)) (s5 _ _ (TX c xs e));have dca:m.d≠m.ca:=aG W1.ob W1.ca (by intro z;cases z);have ob6:=R5 _ _ dca (s5 _ _ ob3);have gv6:H6 m.gv=some (.lst ((List.range ps.length).map fun x=>V.int (bF (R++[(t,n)]) x:Nat))):=R5 _ _ (cn W1.gv).symm (s5 _ _ (V3 _ _ (wb m.g3 (by lia)).symm g2));have b6:=R5 _ _ (cn Fz).symm (s5 _ _ b3);have r6:=R5 _ _ (aG r5 (s5 _ _ ca3) (by intro z;cases z)) r5;have inl:∀{c:Addr},c∈m.ls ms→c∈m.own:=fun h=>W.sub _ (List.mem_cons_of_mem _ (List.mem_cons_of_mem _ h));have wt0:H wt=none:=Kr
  have nrl:¬r∈m.ls ms:=fun z=>by
   obtain⟨o,e⟩:=W.al r (inl z);rw[r0] at e;cases e
  have kp:∀c o,¬c∈m.own→H c=some o→H6 c=some o:=fun c o h e=>Rv c o (fun z=>h (z▸inl m.DD)) (fun z=>h (z▸inl (m.A6 (List.mem_of_getElem? hb)))) (fun z=>h (z▸W.sub _ (List.mem_cons_of_mem _ List.mem_cons_self))) (s1 _ _ e);have Wb:m.mj.length=ps.length:=W.MO
  have W6:aC H6 {m with own:=r::wt::m.own} ps ts L top (R++[(t,n)]) (ws++[wt]) (ms++[r]) (cs++[List.replicate n .bC]) G:=by
   refine⟨ob6,ES m.g0 (by decide) (by lia) W1.hl,ES m.g1 (by decide) (by lia) W1.tl,ES m.g2 (by decide) (by lia) W1.rl,Wb,fun x c e=> ?_,gv6,ca6,?_,fun i hi=> ?_,?_,?_,fun i hi=> ?_,?_,fun i hi=> ?_,?_,fun c hc=> ?_,fun c hc=> ?_⟩
   ·have e:m.mj[x]? =some c:=e;by_cases z:x=t
    ·subst z;rw[hb] at e;cases e;rw[b6,mP,if_pos rfl,←se (wt:=wt) (I:=aS R x) (fun i hi=>by rw[W.s_];exact dy hi)]
     have e1:wf (ws++[wt]) (aS R x++[R.length])=wf (ws++[wt]) (aS R x)++[V.ref ((ws++[wt]).getD R.length 0)]:=by
      unfold wf;rw[List.map_append];rfl
     rw[e1,←W.s_,wv]
    ·rw[mP,if_neg (fun q=>z q.symm),se (fun i hi=>by rw[W.s_];exact dy hi)];exact ES (m.gr e) (by lia) (by lia) (W1.rm x c e)
   ·rw[se (fun i hi=>by rw[W.s_];exact W.gI i hi)];exact ES m.g4 (by decide) (by lia) W1.gn
   ·rw[List.length_append];have:=W.gI i hi
    lia
   ·rw[qZ R pF,List.length_append,List.length_append];have:=W.gl;show(bT ts R).length+1+G.length≤R.length+1
    lia
   ·rw[List.length_append,List.length_append,W.s_];rfl
   ·by_cases z:i<R.length
    ·rw[d4 z,eW z,d4 (by rw[W.s_];exact z)];exact⟨.tail _ (.tail _ (W1.way i z).1),Hg _ _ (W1.way i z).2⟩
    ·have e:i=R.length:=by
      rw[List.length_append] at hi;have hi:i<R.length+1:=hi
      lia
     subst e;rw[wv,jX,←W.s_,wv];exact⟨.tail _ (.head _),Hg _ _ w1⟩
   ·rw[List.length_append,List.length_append,W.ml];rfl
   ·rw[qZ R pF] at hi;rcases List.mem_append.mp hi with hi|hi
    ·obtain⟨vs,h1,h2⟩:=W1.mm i hi;have An:=cO hi;refine⟨vs,?_,?_⟩
     ·rw[List.getElem?_append_left (by rw[sP];exact An)];exact h1
     ·rw[d4 (by rw[W.ml];exact An)];exact ES (m.gm (cj 0 (show i<ms.length by rw[W.ml];exact An))) (by lia) (by lia) h2
    ·have e:i=R.length:=by simpa using hi
     subst e;refine⟨List.replicate n .bC,?_,?_⟩
     ·rw[List.getElem?_append_right (by lia),sP];simp
     ·rw[←W.ml,wv];exact r6
   ·have e:(m.ls ms)++[r]=({m with own:=r::wt::m.own}:MW).ls (ms++[r]):=by
     show m.ar::m.bl::m.rl::m.gv::m.gn::((m.mj++ms)++[r])=m.ar::m.bl::m.rl::m.gv::m.gn::(m.mj++(ms++[r]));rw[List.append_assoc]
    rw[←e];exact List.nodup_append.mpr ⟨W.nd,by simp,fun x hx y hy q=>nrl (by rw[←show y=r by simpa using hy,←q];exact hx)⟩
   ·have hc:c∈m.d::m.ca::m.ar::m.bl::m.rl::m.gv::m.gn::(m.mj++(ms++[r])):=hc;rw[←List.append_assoc] at hc;have hc:c∈(m.d::m.ca::m.ls ms)++[r]:=hc;rcases List.mem_append.mp hc with h|h
    ·exact .tail _ (.tail _ (W.sub c h))
    ·have:c=r:=by simpa using h
     subst this;exact .head _
   ·have hc:c∈r::wt::m.own:=hc;rcases List.mem_cons.mp hc with rfl|hc
    ·exact⟨_,r6⟩
    ·rcases List.mem_cons.mp hc with rfl|hc
     ·exact⟨_,Hg _ _ w1⟩
     ·obtain⟨o,e⟩:=W1.al c hc;by_cases z1:c=m.gv
      ·exact⟨_,z1▸gv6⟩
      ·by_cases z2:c=b
       ·exact⟨_,z2▸b6⟩
       ·by_cases z3:c=m.ca
        ·exact⟨_,z3▸ca6⟩
        ·exact⟨_,Rv c o z1 z2 z3 e⟩
  have cz6:∀(i:Nat) (vs:ax),(cs++[List.replicate n .bC])[i]? =some vs→vs.length=((R++[(t,n)]).getD i (0,0)).2:=fun i vs e=>by
   by_cases z:i<cs.length
   ·rw[List.getElem?_append_left z] at e;rw[d4 (by lia)];exact cz i vs e
   ·rw[List.getElem?_append_right (by lia)] at e
    have Le:i - cs.length=0:=by
     have:=(List.getElem?_eq_some_iff.mp e).1;simp at this
     lia
    rw[Le] at e;cases e;have:i=R.length:=by lia
    subst this;rw[wv,List.length_replicate]
  refine⟨_,rfl,m.d,_,rfl,W6.Te,_,rfl,{m with own:=r::wt::m.own},ps,ts,L,top,_,_,_,_,G,rfl,W6,cz6,by rw[List.length_append];show R.length+1≤1100;lia,fun x hx=> ?_,fun H7 s7=>⟨_,_,rfl,?_⟩⟩
  ·rcases List.mem_append.mp hx with h|h
   ·exact(YQ x h).2
   ·have:x=(t,n):=by simpa using h
    subst this;exact n6
  have W7:=W6.same s7;refine⟨_,rfl,m.d,_,rfl,vz.k (k:=kP) W7.ob (by show 8<sizeLine;decide),?_⟩;rw[oB R n pF]
  have emax:(if((cg ts R+n:Nat):Int)>(top:Int) then((cg ts R+n:Nat):Int) else(top:Int))=((max top (cg ts R+n):Nat):Int):=by
   split<;>lia
  rw[emax,T7];refine⟨_,rfl,q {m with own:=r::wt::m.own} wt r _ ?_ ⟨rfl,fun c hc=> ?_,fun c o h e=> ?_,fun c xs e=> ?_⟩ ?_⟩
  ·exact W7.top _
  ·have hc:c∈r::wt::m.own:=hc;rcases List.mem_cons.mp hc with rfl|hc
   ·exact .inr r0
   ·rcases List.mem_cons.mp hc with rfl|hc
    ·exact .inr wt0
    ·exact .inl hc
  ·rw[ah (show c≠m.d from fun z=>h (z▸W.sub _ List.mem_cons_self))];exact s7 _ _ (kp c o h e)
  ·rw[ah (aG (s7 _ _ (Hg c xs (s1 _ _ e))) W7.ob (by intro z;cases z))];exact s7 _ _ (Hg c xs (s1 _ _ e))
  ·rw[ah (aG (s7 _ _ (Hg _ _ w1)) W7.ob (by intro z;cases z))];exact s7 _ _ (Hg _ _ w1)
def K_:Sp:=fun vs H Q _=>∃L:Nat,vs=[.int L]∧∀m H',aC H' m [none] [none] L 0 [] [] [] [] []→aw H H'→(∀c∈m.own,H c=none)→Q (.ref m.d) H'
theorem vG(T:Txt K mg A):bu P w K mg base eF 1 A.lE A.lj ["_law_limit"] K_:=by
 refine T.pU.okM vL (fun vs H Q E h=> ?_) (fun cJ Ar outer s H vs Q E hr h=> ?_)
 ·obtain⟨L,rfl,_⟩:=h;rfl
 ·obtain⟨L,rfl,q⟩:=h;have hu:=dv hr;refine⟨_,(qv (MK (Gx (hU ⟨aM⟩ ⟨(pv 0)⟩ (hU ⟨aM⟩ ⟨(b7 (aa cG ae))⟩ (hU ⟨aM⟩ ⟨(b7 (aa cG ae))⟩ (hU ⟨aM⟩ ⟨(b7 (aa (b7 ae) ae))⟩ (hU ⟨aM⟩ ⟨(b7 (aa ao ae))⟩ (hU ⟨aM⟩ ⟨Jq⟩ (hU ⟨aM⟩ ⟨(b7 ae)⟩ (hU ⟨aM⟩ ⟨ao⟩ L3)))))))) rfl rfl (by simp) (by decide)))),?_⟩;refine fun d hd=> ?_;have s1:=aw.upd (o:= .dK []) hd;have e1:upd H d (.dK []) d=some (.dK []):=af;generalize upd H d (.dK [])=H1 at s1 e1;refine⟨_,rfl,(show 1≤sizeLine by decide),fun ar har=> ?_⟩;have s2:=aw.upd (o:= .lst [V.bC]) har;have e2:upd H1 ar (.lst [V.bC]) ar=some (.lst [V.bC]):=af;generalize upd H1 ar (.lst [V.bC])=H2 at s2 e2;refine⟨(show 1≤sizeLine by decide),fun bl Fz=> ?_⟩;have s3:=aw.upd (o:= .lst [V.bC]) Fz;have e3:upd H2 bl (.lst [V.bC]) bl=some (.lst [V.bC]):=af;generalize upd H2 bl (.lst [V.bC])=H3 at s3 e3;refine⟨(show 0≤sizeLine by decide),fun r0 VH=> ?_⟩;have s4:=aw.upd (o:= .lst []) VH;have e4:upd H3 r0 (.lst []) r0=some (.lst []):=af;generalize upd H3 r0 (.lst [])=H4 at s4 e4;refine⟨(show 1≤sizeLine by decide),fun rl Ij=> ?_⟩;have s5:=aw.upd (o:= .lst [V.ref r0]) Ij;have e5:upd H4 rl (.lst [V.ref r0]) rl=some (.lst [V.ref r0]):=af;generalize upd H4 rl (.lst [V.ref r0])=H5 at s5 e5;refine⟨(show 1≤sizeLine by decide),fun gv RW=> ?_⟩;have s6:=aw.upd (o:= .lst [V.int 0]) RW;have e6:upd H5 gv (.lst [V.int 0]) gv=some (.lst [V.int 0]):=af;generalize upd H5 gv (.lst [V.int 0])=H6 at s6 e6;refine fun ca hca=> ?_;have s7:=aw.upd (o:= .dT []) hca;have e7:upd H6 ca (.dT []) ca=some (.dT []):=af;generalize upd H6 ca (.dT [])=H7 at s7 e7;refine⟨(show 0≤sizeLine by decide),fun gn Fv=> ?_⟩;have s8:=aw.upd (o:= .lst []) Fv;have e8:upd H7 gn (.lst []) gn=some (.lst []):=af;generalize upd H7 gn (.lst [])=H8 at s8 e8;have t7:=s8;have t6:=s7.trans t7;have t5:=s6.trans t6;have t4:=s5.trans t5;have t3:=s4.trans t4;have t2:=s3.trans t3;have t1:=s2.trans t2;have d8:=t1 _ _ e1;refine⟨d8,CC ⟨d,ar,bl,rl,gv,ca,gn,[r0],[d,ar,bl,r0,rl,gv,ca,gn]⟩ L 0,rfl,(show 8≤15 by decide),?_⟩;rw[show fw [] (CC ⟨d,ar,bl,rl,gv,ca,gn,[r0],[d,ar,bl,r0,rl,gv,ca,gn]⟩ L 0)=CC ⟨d,ar,bl,rl,gv,ca,gn,[r0],[d,ar,bl,r0,rl,gv,ca,gn]⟩ L 0 by kernel_rfl];have f2:=t2 _ _ e2;have f3:=t3 _ _ e3;have f4:=t4 _ _ e4;have f5:=t5 _ _ e5;have f6:=t6 _ _ e6;have f7:=t7 _ _ e7;have nf:∀{G:Hp} {x y:Addr} {o:HO},G x=some o→G y=none→y≠x:=fun hx hy z=>by rw[z,hx] at hy;cases hy
  have n2:ar≠d:=nf e1 har;have n3:bl≠d:=nf (s2 _ _ e1) Fz;have n32:bl≠ar:=nf e2 Fz;have u3:aw H1 H3:=s2.trans s3;have n4:r0≠d:=nf (u3 _ _ e1) VH;have n42:r0≠ar:=nf (s3 _ _ e2) VH;have n43:r0≠bl:=nf e3 VH;have n5:rl≠d:=nf (s4 _ _ (u3 _ _ e1)) Ij;have n52:rl≠ar:=nf (s4 _ _ (s3 _ _ e2)) Ij;have n53:rl≠bl:=nf (s4 _ _ e3) Ij;have n54:rl≠r0:=nf e4 Ij;have n6:gv≠d:=nf (s5 _ _ (s4 _ _ (u3 _ _ e1))) RW;have n62:gv≠ar:=nf (s5 _ _ (s4 _ _ (s3 _ _ e2))) RW;have n63:gv≠bl:=nf (s5 _ _ (s4 _ _ e3)) RW;have n64:gv≠r0:=nf (s5 _ _ e4) RW;have n65:gv≠rl:=nf e5 RW;have n7:ca≠d:=nf (s6 _ _ (s5 _ _ (s4 _ _ (u3 _ _ e1)))) hca;have n8:gn≠d:=nf (s7 _ _ (s6 _ _ (s5 _ _ (s4 _ _ (u3 _ _ e1))))) Fv;have n82:gn≠ar:=nf (s7 _ _ (s6 _ _ (s5 _ _ (s4 _ _ (s3 _ _ e2))))) Fv;have n83:gn≠bl:=nf (s7 _ _ (s6 _ _ (s5 _ _ (s4 _ _ e3)))) Fv;have n84:gn≠r0:=nf (s7 _ _ (s6 _ _ (s5 _ _ e4))) Fv;have n85:gn≠rl:=nf (s7 _ _ (s6 _ _ e5)) Fv;have n86:gn≠gv:=nf (s7 _ _ e6) Fv;have v1:=s1;have v2:=v1.trans s2;have v3:=v2.trans s3;have v4:=v3.trans s4;have v5:=v4.trans s5;have v6:=v5.trans s6;have v7:=v6.trans s7;have v8:=v7.trans s8
  have nn:∀{G:Hp} {c:Addr},aw H G→G c=none→H c=none:=fun{G} {c} sg hc=>by
   cases ec:H c with
   |none=>rfl
   |some o=>rw[sg _ _ ec] at hc;cases hc
  refine q ⟨d,ar,bl,rl,gv,ca,gn,[r0],[d,ar,bl,r0,rl,gv,ca,gn]⟩ _ ⟨af,?_,?_,?_,rfl,fun n b e=> ?_,?_,?_,?_,(fun i hi=>nomatch hi),(by decide:0+0≤0),rfl,fun i hi=>absurd hi (Nat.not_lt_zero _),rfl,(fun i hi=>nomatch hi),?_,fun c hc=> ?_,fun c hc=> ?_⟩ (fun c o e=> ?_) (fun c hc=> ?_)
  ·rw[ah n2];exact f2
  ·rw[ah n3];exact f3
  ·rw[ah n5];exact f5
  ·cases n with
   |zero=>
    cases e;rw[ah n4];exact f4
   |succ n=>cases e
  ·rw[ah n6];exact f6
  ·rw[ah n7];exact f7
  ·rw[ah n8];exact e8
  ·show[ar,bl,rl,gv,gn,r0].Nodup;simp[n32.symm,n52.symm,n62.symm,n82.symm,n42.symm,n53.symm,n63.symm,n83.symm,n43.symm,n65.symm,n85.symm,n54,n86.symm,n64,n84]
  ·have hc:c∈[d,ca,ar,bl,rl,gv,gn,r0]:=hc;show c∈[d,ar,bl,r0,rl,gv,ca,gn];simp only[List.mem_cons,List.not_mem_nil,or_false] at hc ⊢
   rcases hc with h|h|h|h|h|h|h|h<;>simp[h]
  ·have hc:c∈[d,ar,bl,r0,rl,gv,ca,gn]:=hc;by_cases z:c=d
   ·subst z;exact⟨_,af⟩
   ·rw[ah z];simp only[List.mem_cons,List.not_mem_nil,or_false] at hc;rcases hc with h|h|h|h|h|h|h|h
    ·exact absurd h z
    ·exact⟨_,h▸f2⟩
    ·exact⟨_,h▸f3⟩
    ·exact⟨_,h▸f4⟩
    ·exact⟨_,h▸f5⟩
    ·exact⟨_,h▸f6⟩
    ·exact⟨_,h▸f7⟩
    ·exact⟨_,h▸e8⟩
  ·rw[ah (nf e hd).symm];exact v8 _ _ e
  ·have hc:c∈[d,ar,bl,r0,rl,gv,ca,gn]:=hc;simp only[List.mem_cons,List.not_mem_nil,or_false] at hc;rcases hc with h|h|h|h|h|h|h|h
   ·rw[h];exact hd
   ·rw[h];exact nn v1 har
   ·rw[h];exact nn v2 Fz
   ·rw[h];exact nn v3 VH
   ·rw[h];exact nn v4 Ij
   ·rw[h];exact nn v5 RW
   ·rw[h];exact nn v6 hca
   ·rw[h];exact nn v7 Fv
end
theorem iu{x:Nat}:∀{l:List Nat} {k:Nat},l.Nodup→l[k]? =some x→l.eraseIdx k=l.filter fun y=> !(y==x)
 |[],k,_,e=>by simp at e
 |a::r,0,h,e=>by
  have:a=x:=by simpa using e
  subst this;have h1:=(List.nodup_cons.mp h).1;rw[List.eraseIdx_zero,List.tail_cons,List.filter_cons_of_neg (by simp)]
  exact(List.filter_eq_self.mpr fun y hy=>by
   have:y≠a:=fun z=>h1 (z▸hy);simp[this]).symm
 |a::r,k+1,h,e=>by
  have e:r[k]? =some x:=by simpa using e
  have hx:x∈r:=List.mem_of_getElem? e;have:a≠x:=fun z=>(List.nodup_cons.mp h).1 (z▸hx);rw[List.eraseIdx_cons_succ,List.filter_cons_of_pos (by simp[this]),iu (List.nodup_cons.mp h).2 e]
theorem og{α β:Type}(f:α→β):∀(l:List α) (k:Nat),(l.map f).eraseIdx k=(l.eraseIdx k).map f
 |[],k=>rfl
 |a::r,0=>rfl
 |a::r,k+1=>by
  show f a::(r.map f).eraseIdx k=f a::(r.eraseIdx k).map f;rw[og f r k]
def OW(R:Rm)(ms:aY)(I:List Nat):eA:=I.map fun i=>(qX (R.getD i (0,0)).1 (bc R i),V.ref (ms.getD i 0))
def ZW(H:Hp)(m:MW)(ts:ay)(R:Rm)(ws ms:aY)(I G:List Nat):Hp:=fun c=>if c=m.bl then some (.lst (ts.map oV)) else if c=m.ca then some (.dT (OW R ms I)) else if c=m.gn then some (.lst (wf ws G)) else H c
section
variable{H:Hp}{m:MW}{ts ts' :ay}{R:Rm}{ws ms:aY}{I I' G G' :List Nat}
theorem Hr:ZW H m ts R ws ms I G m.bl=some (.lst (ts.map oV)):=if_pos rfl
theorem zm(n1:m.ca≠m.bl):ZW H m ts R ws ms I G m.ca=some (.dT (OW R ms I)):=by unfold ZW;rw[if_neg n1,if_pos rfl]
theorem y0(n2:m.gn≠m.bl)(n3:m.gn≠m.ca):ZW H m ts R ws ms I G m.gn=some (.lst (wf ws G)):=by unfold ZW;rw[if_neg n2,if_neg n3,if_pos rfl]
theorem mV{c:Addr}(n1:c≠m.bl)(n2:c≠m.ca)(n3:c≠m.gn):ZW H m ts R ws ms I G c=H c:=by unfold ZW;rw[if_neg n1,if_neg n2,if_neg n3]
theorem Kv:upd (ZW H m ts R ws ms I G) m.bl (.lst (ts'.map oV))=ZW H m ts' R ws ms I G:=by
 funext c
 unfold upd ZW;by_cases h:c=m.bl
 ·rw[if_pos h,if_pos h]
 ·rw[if_neg h,if_neg h,if_neg h]
theorem LF(n1:m.ca≠m.bl):upd (ZW H m ts R ws ms I G) m.ca (.dT (OW R ms I'))=ZW H m ts R ws ms I' G:=by
 funext c
 unfold upd ZW;by_cases h:c=m.ca
 ·rw[if_pos h,if_neg (h▸n1),if_pos h]
 ·rw[if_neg h,if_neg h,if_neg h]
theorem L9(n2:m.gn≠m.bl)(n3:m.gn≠m.ca):upd (ZW H m ts R ws ms I G) m.gn (.lst (wf ws G'))=ZW H m ts R ws ms I G' :=by
 funext c
 unfold upd ZW;by_cases h:c=m.gn
 ·rw[if_pos h,if_neg (h▸n2),if_neg (h▸n3),if_pos h]
 ·rw[if_neg h,if_neg h,if_neg h]
end
theorem aC.apart{H:Hp}{m:MW}{ps ts:ay}{L top:Nat}{R:Rm}{ws ms:aY}{cs:cE}{G:List Nat}(W:aC H m ps ts L top R ws ms cs G):m.ca≠m.bl∧m.gn≠m.bl∧m.gn≠m.ca:=
 ⟨aG W.ca W.tl (by intro z;cases z),W.ne m.g4 m.g1 (by decide),aG W.gn W.ca (by intro z;cases z)⟩
theorem aC.zw{H:Hp}{m:MW}{ps ts:ay}{L top:Nat}{R:Rm}{ws ms:aY}{cs:cE}{G:List Nat}(W:aC H m ps ts L top R ws ms cs G):ZW H m ts R ws ms (bT ts R) G=H:=by
 funext c
 obtain⟨n1,n2,n3⟩:=W.apart;by_cases h1:c=m.bl
 ·rw[h1,Hr];exact W.tl.symm
 ·by_cases h2:c=m.ca
  ·rw[h2,zm n1];exact W.ca.symm
  ·by_cases h3:c=m.gn
   ·rw[h3,y0 n2 n3];exact W.gn.symm
   ·exact mV h1 h2 h3
theorem aC.ended{H:Hp}{m:MW}{ps ts ts' :ay}{L top:Nat}{R:Rm}{ws ms:aY}{cs:cE}{G G' :List Nat}(W:aC H m ps ts L top R ws ms cs G)(hn:∀i:Nat,ts'[i]? =some none→ts[i]? =some none)(hG:∀i∈G',i<R.length)(hL:(bT ts' R).length+G'.length≤R.length):aC (ZW H m ts' R ws ms (bT ts' R) G') m ps ts' L top R ws ms cs G' :=by
 obtain⟨n1,n2,n3⟩:=W.apart
 have ls:∀{i:Nat} {b:Addr} {xs:ax},(m.ls ms)[i]? =some b→i≠1→i≠4→H b=some (.lst xs)→ZW H m ts' R ws ms (bT ts' R) G' b=some (.lst xs):=fun hb h1 h4 e=>by
  rw[mV (W.ne hb m.g1 h1) (aG e W.ca (by intro z;cases z)) (W.ne hb m.g4 h4)];exact e
 have hs:∀i,i∈bT ts' R→i∈bT ts R:=fun i h=>nz (cO h) (hn _ (uc h));refine⟨?_,ls m.g0 (by decide) (by decide) W.hl,Hr,ls m.g2 (by decide) (by decide) W.rl,W.MO,fun n b e=>ls (m.gr e) (by lia) (by lia) (W.rm n b e),ls m.g3 (by decide) (by decide) W.gv,zm n1,y0 n2 n3,hG,hL,W.s_,fun i hi=> ?_,W.ml,fun i hi=> ?_,W.nd,W.sub,fun c hc=> ?_⟩
 ·rw[mV (aG W.ob W.tl (by intro z;cases z)) (aG W.ob W.ca (by intro z;cases z)) (aG W.ob W.gn (by intro z;cases z))];exact W.ob
 ·obtain⟨h1,h2⟩:=W.way i hi;refine⟨h1,?_⟩;rw[mV (aG h2 W.tl (by intro z;cases z)) (aG h2 W.ca (by intro z;cases z)) (aG h2 W.gn (by intro z;cases z))];exact h2
 ·obtain⟨vs,e1,e2⟩:=W.mm i (hs i hi);have hm:ms[i]? =some (ms.getD i 0):=cj 0 (by rw[W.ml];exact cO hi);exact⟨vs,e1,ls (m.gm hm) (by lia) (by lia) e2⟩
 ·by_cases h1:c=m.bl
  ·exact⟨_,h1▸Hr⟩
  ·by_cases h2:c=m.ca
   ·exact⟨_,h2▸zm n1⟩
   ·by_cases h3:c=m.gn
    ·exact⟨_,h3▸y0 n2 n3⟩
    ·obtain⟨o,e⟩:=W.al c hc;exact⟨o,by rw[mV h1 h2 h3];exact e⟩
theorem E5(ps ts:ay)(t:Nat):(bx ps ts t).Nodup:=List.Pairwise.filter _ (List.pairwise_reverse.mpr ((jw ts).imp fun h=>h.symm))
theorem E2(R:Rm)(n:Nat):(aS R n).Nodup:=List.Pairwise.filter _ List.nodup_range
def il(ts:ay)(R:Rm)(n j:Nat):List Nat:=(bT ts R).filter fun i=> !(((aS R n).take j).contains i)
theorem wO(ts:ay)(R:Rm)(n:Nat):il ts R n 0=bT ts R:=by
 unfold il;exact List.filter_eq_self.mpr fun i _=>by simp
theorem Ac(ts:ay)(R:Rm){n t:Nat}(hn:n<ts.length):il ts R n (aS R n).length=bT (ts.set n (some t)) R:=by
 unfold il bT;rw[List.take_length,List.filter_filter];refine List.filter_congr fun i hi=> ?_;have hi:=List.mem_range.mp hi;by_cases z:(R.getD i (0,0)).1=n
 ·have h1:i∈aS R n:=z▸jj hi;have h2:(ts.set n (some t))[(R.getD i (0,0)).1]? =some (some t):=by rw[z];simp[hn]
  rw[h2];simp[h1]
 ·have h1:¬i∈aS R n:=fun h=>z (gH h);have h2:(ts.set n (some t))[(R.getD i (0,0)).1]? =ts[(R.getD i (0,0)).1]? :=List.getElem?_set_ne (fun q=>z q.symm);rw[h2];simp[h1]
theorem we{ts:ay}{R:Rm}{n j i:Nat}(e:(aS R n)[j]? =some i):il ts R n (j+1)=(il ts R n j).filter fun y=> !(y==i):=by
 unfold il;rw[List.filter_filter];refine List.filter_congr fun y _=> ?_;rw[List.take_add_one,e];by_cases z:y=i<;>simp[z]
theorem JY{ts:ay}{R:Rm}{n j i:Nat}(hs:ts[n]? =some none)(e:(aS R n)[j]? =some i):i∈il ts R n j:=by
 have hm:i∈aS R n:=List.mem_of_getElem? e;refine List.mem_filter.mpr ⟨nz (dy hm) (by rw[gH hm];exact hs),?_⟩
 have:¬i∈(aS R n).take j:=fun h=>by
  obtain⟨k,hk,ek⟩:=List.mem_iff_getElem.mp h;rw[List.getElem_take] at ek;have Ws :k<j∧k<(aS R n).length:=by rw[List.length_take] at hk;exact Nat.lt_min.mp hk
  have:=(List.getElem?_inj Ws.2 (E2 R n)).mp ((List.getElem?_eq_getElem Ws.2).trans (by rw[ek];exact e.symm))
  lia
 simp[this]
theorem uI(ts:ay)(R:Rm)(n j:Nat):(il ts R n j).Nodup:=List.Pairwise.filter _ (BA ts R)
section
variable{P:Program}{w:World}{K:Frag}{mg:Str→aN}{base:Heap}{A:qH}
def M8:Sp:=fun vs H Q _=>∃m ps ts L top R ws ms cs G,∃t:Nat,vs=[.ref m.d,.int t]∧aC H m ps ts L top R ws ms cs G∧WF ps ts∧R.length≤1000∧
 ∀l H' G',H l=none→H' l=some (.lst ((bx ps ts t).map nV))→aC H' m ps (wP t (bx ps ts t) ts) L top R ws ms cs G'→(∀c o,¬c∈m.own→H c=some o→H' c=some o)→(∀c xs,H c=some (.tup xs)→H' c=some (.tup xs))→Q (.ref l) H'
theorem vt(T:Txt K mg A):bu P w K mg base eF 2 A.lO A.lQ ["_law_world_here","_law_frame"] M8:=by
 have bO:=de (P:=P) (w:=w) (base:=base) T;have pw:=sF (P:=P) (w:=w) (base:=base) T;refine T.qA.ok gX (fun vs H Q E h=> ?_) (fun cJ Ar outer s H vs Q E hr h=> ?_)
 ·obtain⟨m,ps,ts,L,top,R,ws,ms,cs,G,t,rfl,_⟩:=h;rfl
 ·obtain⟨m,ps,ts,L,top,R,ws,ms,cs,G,t,rfl,Wd,W,hR,q⟩:=h;have hu:=dv hr;have AX:_+100<cLine:=Nat.lt_of_le_of_lt (Nat.add_le_add_left (by decide:100≤16*1+200) _) (by have:=hr.un;omega);have hl:=W.len;have hle:=W.le;refine⟨_,(ai (aZ (i:=2) gX.nd rfl (Or.inl rfl) (AE (b9 (N:=["_law_one","_law_frame","_law_world_here"]) (k:=1) (js:=[1,0]) rfl (bq (by kernel_rfl)) (cQ (aA bO hr rfl T.dN T.cI.kp T.dE .nil aB (aa (pv 0) ae))) (fun _ _ _ _ _=>⟨(a_ (i:=0) (show(["_law_one","_law_frame","_law_world_here"]:aO).Nodup by decide+kernel) rfl (Or.inl rfl) (Or.inr rfl)),(xm (ba (oO (K:=K) rfl) (pv 1) (aA pw hr rfl T.uB T.oX.kp T.uR .nil aB (aa (pv 2) (aa (pv 0) ae))) (by with_unfolding_all rfl))),(pv 0)⟩)) (wK ra ao))) (ai (ir PassesOwn.never rfl (cQ (pv 2)) (a_ (i:=3) gX.nd rfl (Or.inl rfl) (Or.inl rfl)) (ai (oF (pv 1) (o8 (aX hu (pv 0) aM (fun _ _=>rfl)) (pv 3) wS)) (aq (ir PassesOwn.never rfl (cQ (bb bj (aX hu (pv 0) aM (fun _ _=>rfl)) (pv 3) (fun _ _=>rfl))) (a_ (i:=4) gX.nd rfl (Or.inl rfl) (Or.inl rfl)) (ai (bB (iq plainAttrs_dict slot_dict_pop PySem.F.type_dict_pop (Lg AX) (aX hu (pv 0) aM (fun _ _=>rfl)) (aa (pv 4) ae))) (aq (bB (iq plainAttrs_list PySem.F.slot_list_append PySem.F.type_list_append cv (aX hu (pv 0) aM (fun _ _=>rfl)) (aa (pv 4) ae))))))))) (aq (aH (pv 2))))),?_⟩;refine⟨_,rfl,m,ps,ts,L,top,R,ws,ms,cs,G,rfl,Wd,by lia,fun sl H1 mq s1 zI=> ?_⟩;refine⟨sl,rfl,⟨_,bD.of zI⟩,?_⟩;have Rz:((au ts).map nV).length=(au ts).length:=by rw[List.length_map]
  have W1:=Wd.same s1;refine gU (fun i=>decide (t∈hZ ps ((au ts).getD i 0))) (fun i=>nV ((au ts).getD i 0)) (gJ (bD.of zI)).g ?_ ?_ fun l0 H2 vi s2 hL=> ?_
  ·rw[Rz];refine Nat.le_trans (List.length_filter_le _ _) ?_;rw[List.length_range];exact Nat.le_trans (show ts.length≤101 by lia) (by decide)
  ·intro i x H' C1 C0 hi sm hx c1 c0;rw[List.getElem?_map] at hx
   cases en:(au ts)[i]? with
   |none=>rw[en] at hx;cases hx
   |some n=>
    rw[en] at hx;cases hx;have ed:(au ts).getD i 0=n:=by rw[List.getD_eq_getElem?_getD,en];rfl
    have hn:n<ps.length:=by
     have:=tY (List.mem_of_getElem? en)
     lia
    rw[ed] at c1 c0;have M' :=W1.same sm;refine⟨(dU.refl _).own (by decide),_,rfl,_,rfl,_,rfl,m,ps,ts,L,top,R,ws,ms,cs,G,n,rfl,M',W,hn,fun rl H3 Ij s3 U7=> ?_⟩;refine⟨rl,_,rfl,.inl (bD.of U7),rfl,lF _,_,rfl,?_⟩;have e:EC (V.int (t:Int)) ((hZ ps n).map nV)=decide (t∈hZ ps n):=ug t _;show if EC (V.int (t:Int)) ((hZ ps n).map nV)=true then _ else _
    rw[e]
    cases hd:decide (t∈hZ ps n) with
    |true=>exact eT ⟨_,rfl,c1 hd H3 s3⟩
    |false=>exact dH (c0 hd H3 s3)
  ·rw[Rz] at hL
   have hL:H2 l0=some (.lst (((au ts).filter fun n=>decide (t∈hZ ps n)).map nV)):=by
    rw[hL];exact congrArg (fun z=>some (HO.lst z)) (lM (au ts) (fun n=>decide (t∈hZ ps n)) nV)
   refine⟨1,rfl,_,rfl,l0,_,rfl,rfl,bD.of hL,fun l Ec=> ?_⟩
   have hv:(((au ts).filter fun n=>decide (t∈hZ ps n)).map nV).reverse=(bx ps ts t).map nV:=by
    unfold bx;rw[←List.map_reverse,List.filter_reverse]
   rw[hv];have s3:=(s1.trans s2).trans (aw.upd (o:= .lst ((bx ps ts t).map nV)) Ec);have Bu:H l=none:=(s1.trans s2).free Ec;have l3:upd H2 l (.lst ((bx ps ts t).map nV)) l=some (.lst ((bx ps ts t).map nV)):=af;generalize upd H2 l (.lst ((bx ps ts t).map nV))=H3 at s3 l3;have W3:=Wd.same s3;obtain⟨n1,n2,n3⟩:=W3.apart
   have nl:∀c∈m.own,l≠c:=fun c hc z=>by
    obtain⟨o,e⟩:=Wd.al c hc;rw[←z,Bu] at e;cases e
   have inl:∀{c:Addr},c∈m.ls ms→c∈m.own:=fun h=>Wd.sub _ (List.mem_cons_of_mem _ (List.mem_cons_of_mem _ h));have WW:m.ca∈m.own:=Wd.sub _ (List.mem_cons_of_mem _ List.mem_cons_self)
   have lz:∀{ts' :ay} {I G' :List Nat},ZW H3 m ts' R ws ms I G' l=some (.lst ((bx ps ts t).map nV)):=fun{ts' I G'}=>by
    rw[mV (nl _ (inl m.Aa)) (nl _ WW) (nl _ (inl m.ze))];exact l3
   refine⟨_,rfl,l,rfl,⟨_,bD.of l3⟩,?_⟩;refine fi (K:=K) (a:=l) (xs:=(bx ps ts t).map nV) (fun i σ H4=>∃(x y:Option V) (G' :List Nat),σ=[some (.ref m.d),some (.int t),some (.ref l),x,y]∧H4=ZW H3 m (wP t ((bx ps ts t).take i) ts) R ws ms (bT (wP t ((bx ps ts t).take i) ts) R) G'∧(∀i∈G',i<R.length)∧(bT (wP t ((bx ps ts t).take i) ts) R).length+G'.length≤R.length) ⟨none,none,G,rfl,W3.zw.symm,W3.gI,W3.gl⟩ ?_ ?_ ?_
   ·rintro i σ H4 _ ⟨x,y,G',rfl,rfl,_⟩
    exact bD.of lz
   ·rintro i x σ H4 hi ⟨x',y',G',rfl,rfl,hG,SJ⟩
    rw[List.getElem?_map] at hi
    cases en:(bx ps ts t)[i]? with
    |none=>rw[en] at hi;cases hi
    |some n=>
     rw[en] at hi;cases hi;have hn:=Jw (List.mem_of_getElem? en)
     have iP:(wP t ((bx ps ts t).take i) ts)[n]? =some none:=by
      rcases qc t ((bx ps ts t).take i) ts n with h|⟨h,_⟩
      ·rw[h];exact eq_of_beq (cw.mp (List.mem_reverse.mp (List.mem_filter.mp (List.mem_of_getElem? en)).1))
      ·exfalso;obtain⟨k,hk,ek⟩:=List.mem_iff_getElem.mp h;rw[List.getElem_take] at ek;have Ws :k<i∧k<(bx ps ts t).length:=by rw[List.length_take] at hk;exact Nat.lt_min.mp hk
       have:=(List.getElem?_inj Ws.2 (E5 ps ts t)).mp ((List.getElem?_eq_getElem Ws.2).trans (by rw[ek];exact en.symm))
       lia
     have e1:(bx ps ts t).take (i+1)=(bx ps ts t).take i++[n]:=by
      rw[List.take_add_one,en];rfl
     have mq:=mK t ((bx ps ts t).take i) ts;have E7:∀k:Nat,(wP t ((bx ps ts t).take i) ts)[k]? =some none→ts[k]? =some none:=nG _ _;rw[e1,rQ];generalize wP t ((bx ps ts t).take i) ts=tz at iP mq E7 SJ ⊢;have hnz:n<tz.length:=by lia
     have W4:=W3.ended E7 hG SJ;refine⟨_,rfl,_,rfl,m.d,_,rfl,W4.Kx,_,rfl,m.bl,_,_,n,rfl,rfl,W4.tl,pR (by rw[List.length_map];exact hnz),?_⟩;rw[ux,Kv]
     have obz:∀{ts' :ay} {I G' :List Nat},ZW H3 m ts' R ws ms I G' m.d=some (.dK (CC m L top)):=fun{ts' I G'}=>by
      rw[mV (aG W3.ob W3.tl (by intro z;cases z)) (aG W3.ob W3.ca (by intro z;cases z)) (aG W3.ob W3.gn (by intro z;cases z))];exact W3.ob
     have Rr:∀{ts' :ay} {I G' :List Nat} {k:wn} {v:V},bN (CC m L top) k=some v→eK (ZW H3 m ts' R ws ms I G') m.d (kV k) (some v):=fun{ts' I G' k v} h=>by
      have:=eK.k (k:=k) (obz (ts' :=ts') (I:=I) (G' :=G'));rw[h] at this;exact this
     have lsz:∀{ts' :ay} {I G' :List Nat} {i:Nat} {b:Addr} {xs:ax},(m.ls ms)[i]? =some b→i≠1→i≠4→H3 b=some (.lst xs)→ZW H3 m ts' R ws ms I G' b=some (.lst xs):=fun hb h1 h4 e=>by
      rw[mV (W3.ne hb m.g1 h1) (aG e W3.ca (by intro z;cases z)) (W3.ne hb m.g4 h4)];exact e
     obtain⟨b,hb,UO⟩:=W3.room (show n<ps.length by lia);refine⟨_,rfl,m.d,_,rfl,Rr (k:=kR) (v:= .ref m.rl) (by kernel_rfl),_,rfl,m.rl,_,_,_,rfl,rfl,bD.of (lsz m.g2 (by decide) (by decide) W3.rl),d5 (by rw[List.getElem?_map,hb];rfl),b,rfl,⟨_,bD.of (lsz (m.gr hb) (by lia) (by lia) UO)⟩,?_⟩;refine fi (K:=K) (a:=b) (xs:=wf ws (aS R n)) (fun j σ H5=>∃y:Option V,σ=[some (.ref m.d),some (.int t),some (.ref l),some (nV n),y]∧H5=ZW H3 m (tz.set n (some t)) R ws ms (il tz R n j) (G' ++(aS R n).take j)∧(il tz R n j).length+(G' ++(aS R n).take j).length≤R.length) ⟨y',rfl,by rw[wO,List.take_zero,List.append_nil],by rw[wO,List.take_zero,List.append_nil];exact SJ⟩ ?_ ?_ ?_
     ·rintro j σ H5 _ ⟨y,rfl,rfl,_⟩
      exact bD.of (lsz (m.gr hb) (by lia) (by lia) UO)
     ·rintro j x σ H5 hj ⟨y,rfl,rfl,hJ⟩
      unfold wf at hj;rw[List.getElem?_map] at hj
      cases ej:(aS R n)[j]? with
      |none=>rw[ej] at hj;cases hj
      |some i0=>
       rw[ej] at hj;cases hj;have hm:i0∈aS R n:=List.mem_of_getElem? ej;have Le:=dy hm;obtain⟨k,hk,ek⟩:=List.mem_iff_getElem.mp (JY iP ej);have ek:(il tz R n j)[k]? =some i0:=by rw[List.getElem?_eq_getElem hk,ek]
       have wz:∀{ts' :ay} {I G' :List Nat},ZW H3 m ts' R ws ms I G' (ws.getD i0 0)=some (.tup (lU (R.getD i0 (0,0)).1 (bc R i0))):=fun{ts' I G'}=>by
        have e:=(W3.way i0 Le).2;rw[mV (aG e W3.tl (by intro z;cases z)) (aG e W3.ca (by intro z;cases z)) (aG e W3.gn (by intro z;cases z))];exact e
       have ekv:(OW R ms (il tz R n j))[k]? =some (qX (R.getD i0 (0,0)).1 (bc R i0),V.ref (ms.getD i0 0)):=by
        unfold OW;rw[List.getElem?_map,ek];rfl
       have hJ' :=hJ;rw[List.length_append] at hJ'
       have hlg:(wf ws (G' ++(aS R n).take j)).length<sizeLine:=by
        unfold wf;rw[List.length_map,List.length_append];exact Nat.lt_of_le_of_lt (show _≤1000 by lia) (by decide)
       refine⟨_,rfl,m.d,_,rfl,Rr (k:=kC) (v:= .ref m.ca) (by kernel_rfl),.inr (.inr (.inl ⟨rfl,.inr ⟨_,zm n1⟩⟩)),_,rfl,m.ca,_,k,_,ws.getD i0 0,_,rfl,rfl,zm n1,wz,ekv,?_⟩
       have eI:(OW R ms (il tz R n j)).eraseIdx k=OW R ms (il tz R n (j+1)):=by
        unfold OW;rw[og,iu (uI tz R n j) ek,we ej]
       rw[eI,LF n1];refine⟨_,rfl,m.d,_,rfl,Rr (k:=kN) (v:= .ref m.gn) (by kernel_rfl),.inl ⟨rfl,_,bD.of (y0 n2 n3)⟩,_,rfl,m.gn,_,_,rfl,rfl,y0 n2 n3,hlg,?_⟩
       have eG:wf ws (G' ++(aS R n).take j)++[V.ref (ws.getD i0 0)]=wf ws (G' ++(aS R n).take (j+1)):=by
        unfold wf;rw[List.take_add_one,ej,←List.append_assoc,List.map_append (l₁:=G' ++(aS R n).take j)];rfl
       rw[eG,L9 n2 n3];refine⟨_,rfl,rfl,?_⟩
       have Bu:(il tz R n (j+1)).length+1=(il tz R n j).length:=by
        rw[we ej,←iu (uI tz R n j) ek,List.length_eraseIdx,if_pos hk]
        lia
       rw[List.take_add_one,ej,←List.append_assoc,List.length_append,List.length_append];show _+(_+1)≤_
       lia
     ·rintro σ H5 ⟨y,rfl,rfl,hJ⟩
      have hlen:(wf ws (aS R n)).length=(aS R n).length:=by unfold wf;rw[List.length_map]
      rw[hlen,Ac tz R hnz] at hJ;rw[hlen,Ac tz R hnz];refine⟨_,_,_,rfl,rfl,fun i hi=> ?_,hJ⟩;rcases List.mem_append.mp hi with h|h
      ·exact hG i h
      ·exact dy (List.mem_of_mem_take h)
   ·rintro σ H4 ⟨x,y,G',rfl,rfl,hG,SJ⟩
    rw[List.length_map,List.take_length] at SJ ⊢;have W4:=W3.ended (nG _ _) hG SJ;refine⟨_,rfl,q l _ _ Bu lz W4 (fun c o h e=> ?_) (fun c xs e=> ?_)⟩
    ·rw[mV (show c≠m.bl from fun z=>h (z▸inl m.Aa)) (show c≠m.ca from fun z=>h (z▸WW)) (show c≠m.gn from fun z=>h (z▸inl m.ze))];exact s3 _ _ e
    ·rw[mV (aG e Wd.tl (by intro z;cases z)) (aG e Wd.ca (by intro z;cases z)) (aG e Wd.gn (by intro z;cases z))];exact s3 _ _ e
end
theorem AA{f:Nat→List wn}{g:Nat→V}{i:Nat}:∀{I:List Nat},i∈I→(∀j∈I,f j=f i→j=i)→bN (I.map fun j=>(f j,g j)) (f i)=some (g i)
 |[],h,_=>by cases h
 |a::r,h,u=>by
  by_cases z:f a=f i
  ·have:a=i:=u a List.mem_cons_self z;subst this;exact cT rfl
  ·rw[List.map_cons,cC z];rcases List.mem_cons.mp h with rfl|h
   ·exact absurd rfl z
   ·exact AA h fun j hj=>u j (List.mem_cons_of_mem _ hj)
theorem aC.at_{H:Hp}{m:MW}{ps ts:ay}{L top:Nat}{R:Rm}{ws ms:aY}{cs:cE}{G:List Nat}(W:aC H m ps ts L top R ws ms cs G)(hr:∀r∈R,1≤r.2){i:Nat}(hi:i∈bT ts R):∃vs,cs[i]? =some vs∧eK H m.ca (.ref (ws.getD i 0)) (some (.ref (ms.getD i 0)))∧H (ms.getD i 0)=some (.lst vs):=by
 obtain⟨vs,e1,e2⟩:=W.mm i hi;have hl:=cO hi;have g:=eK.t (k:=qX (R.getD i (0,0)).1 (bc R i)) W.ca (W.way i hl).2
 have hv:bN (vE ts R ms) (qX (R.getD i (0,0)).1 (bc R i))=some (.ref (ms.getD i 0)):=by
  unfold vE;refine AA (f:=fun i=>qX (R.getD i (0,0)).1 (bc R i)) (g:=fun i=>V.ref (ms.getD i 0)) hi fun j hj e=> ?_;obtain⟨h1,h2⟩:=zc e;exact w4 hr (h1▸jj (cO hj)) (jj hl) h2
 rw[hv] at g;exact⟨vs,e1,g,e2⟩
section
variable{P:Program}{w:World}{K:Frag}{mg:Str→aN}{base:Heap}{A:qH}
def Sw:Sp:=fun vs H Q _=>∃m ps ts L top R ws ms cs G,vs=[.ref m.d]∧aC H m ps ts L top R ws ms cs G∧(∀r∈R,1≤r.2)∧ps.length=ts.length∧ts.length≤101∧R.length≤1000∧
 ∀v H',aw H H'→vg ps ts L R cs H' v→Q v H'
theorem sR(T:Txt K mg A):bu P w K mg base eF 3 A.iZ A.jl ["_law_world_here"] Sw:=by
 have bO:=(de (P:=P) (w:=w) (base:=base) T).mono (by decide:_≤2);refine T.m_.ok fj (fun vs H Q E h=> ?_) (fun cJ Ar outer s H vs Q E hr h=> ?_)
 ·obtain⟨m,ps,ts,L,top,R,ws,ms,cs,G,rfl,_⟩:=h;rfl
 ·obtain⟨m,ps,ts,L,top,R,ws,ms,cs,G,rfl,M,X_,hl,YG,hR,q⟩:=h;have hu:=dv hr;have mq:=gk ts;refine⟨_,(ai (aZ (i:=1) fj.nd rfl (Or.inl rfl) (b7 ae)) (ai (ir PassesOwn.never rfl (cQ (aA bO hr rfl T.dN T.cI.kp T.dE .nil aB (aa (pv 0) ae))) (a_ (i:=2) fj.nd rfl (Or.inl rfl) (Or.inl rfl)) (ai (aZ (i:=3) fj.nd rfl (Or.inl rfl) (cx eV (by rfl) T.gW Boot.«tuple» (aa (b9 (N:=["_law_way","_law_world_here"]) (k:=1) (js:=[0]) rfl (bq (by kernel_rfl)) (cQ (bb bj (aX hu (pv 0) aM (fun _ _=>rfl)) (pv 2) (fun _ _=>rfl))) (fun _ _ _ _ _=>⟨(a_ (i:=0) (show(["_law_way","_law_world_here"]:aO).Nodup by decide+kernel) rfl (Or.inl rfl) (Or.inr rfl)),qF,(cx (mH (K:=K) rfl) (by rfl) T.gW Boot.«tuple» (aa (aX hu (aX hu (pv 1) aM (fun _ _=>rfl)) (pv 0) (fun _ _=>rfl)) ae))⟩)) ae))) (aq (bB (iq plainAttrs_list PySem.F.slot_list_append PySem.F.type_list_append cv (pv 1) (aa (gT (aa (pv 2) (aa (bb bj (aX hu (pv 0) aM (fun _ _=>rfl)) (pv 2) (fun _ _=>rfl)) (aa (pv 3) ae)))) ae)))))) (aq (aH (gT (aa (aX hu (pv 0) aM (fun _ _=>rfl)) (aa (cx eV (by rfl) T.gW Boot.«tuple» (aa (pv 1) ae)) ae))))))),?_⟩;refine⟨(show 0≤sizeLine by decide),fun fl BE=> ?_⟩;have s0:=aw.upd (o:= .lst []) BE;have e0:upd H fl (.lst []) fl=some (.lst []):=af;generalize upd H fl (.lst [])=H0 at s0 e0;refine⟨_,rfl,m,ps,ts,L,top,R,ws,ms,cs,G,rfl,M.same s0,by lia,fun sl H1 Wz s1 zI=> ?_⟩;have AZ:sl≠fl:=(ak e0 Wz).symm;refine⟨sl,rfl,⟨_,bD.of zI⟩,?_⟩;refine fi (K:=K) (a:=sl) (xs:=(au ts).map nV) (fun j σ H' =>∃(x2 x3:Option V) (ys:ax),σ=[some (.ref m.d),some (.ref fl),x2,x3]∧H' fl=some (.lst ys)∧ys.length=j∧(∀i x,ys[i]? =some x→∃n o,(au ts)[i]? =some n∧ps[n]? =some o∧xv R cs H' n o x)∧∀c q,c≠fl→H1 c=some q→H' c=some q) ⟨_,_,[],rfl,s1 _ _ e0,rfl,(fun i x e=>by rw[List.getElem?_nil] at e;cases e),fun c q _ e=>e⟩ ?_ ?_ ?_
  ·rintro j σ H' _ ⟨x2,x3,ys,rfl,_,_,_,kk⟩
   exact bD.of (kk _ _ AZ zI)
  ·rintro j x σ H2 hx ⟨x2,x3,ys,rfl,Wt,ju,hE,kk⟩
   rw[List.getElem?_map] at hx
   cases en:(au ts)[j]? with
   |none=>rw[en] at hx;cases hx
   |some n=>
    rw[en] at hx;cases hx;have iP:ts[n]? =some none:=eq_of_beq (cw.mp (List.mem_of_getElem? en));have FD:=(List.getElem?_eq_some_iff.mp en).1
    have AW:n<ps.length:=by
     have:=(List.getElem?_eq_some_iff.mp iP).1
     lia
    have Lf:ps[n]? =some ps[n]:=by simp[AW]
    have YR:aw H H2:=fun c q e=>kk c q (ak e BE) (s1 _ _ (s0 _ _ e));have M2:=M.same YR;have An:=iU R n;obtain⟨gl,hgr,hg⟩:=M2.room AW;have s3:aw H2 H2:=aw.refl H2;refine⟨_,rfl,m.d,_,rfl,M2.Xe,_,rfl,m.rl,_,n,.ref gl,rfl,rfl,bD.of M2.rl,d5 (by rw[List.getElem?_map,hgr];rfl),gl,rfl,⟨_,bD.of hg⟩,?_⟩;have Fv:(wf ws (aS R n)).length=(aS R n).length:=List.length_map ..;refine qD (fun j v H' =>∃u m vs,v= .ref u∧(aS R n)[j]? =some m∧cs[m]? =some vs∧H' u=some (.tup vs)) (gJ (bD.of hg)).g (by rw[Fv];exact Nat.le_of_lt (bJ (by lia))) ?_ ?_ ?_
    ·rintro j v Ha Hb kt ⟨u,m,vs,h1,h2,h3,h4⟩
     exact⟨u,m,vs,h1,h2,h3,kt _ _ h4⟩
    ·intro i x H' C1 hi sm hx c1;rw[Fv] at hi;have M' :=(M2.same s3).same sm;have ei:=cj 0 hi;have VD:=dy (List.mem_of_getElem? ei);have Yl:=gH (List.mem_of_getElem? ei);obtain⟨vs,e2,e4,e5⟩:=M'.at_ X_ (nz VD (by rw[Yl];exact iP));unfold wf at hx;rw[List.getElem?_map,ei] at hx;cases hx;refine⟨(dU.refl _).own (by decide),?_⟩;refine⟨_,rfl,m.d,_,rfl,M'.GB,_,rfl,m.ca,_,rfl,e4,_,_,rfl,.inl ⟨bD.of e5,fun u hu=>c1 _ _ (aw.upd hu) ⟨u,_,vs,rfl,ei,e2,af⟩⟩⟩
    ·intro p H4 Ef hp sm A3 Bq hE2;rw[Fv] at Bq;refine⟨p,_,rfl,.inl ⟨bD.of A3,fun tt Sk=> ?_⟩⟩;have s5:=aw.upd (o:= .tup Ef) Sk;have e5:upd H4 tt (.tup Ef) tt=some (.tup Ef):=af;generalize upd H4 tt (.tup Ef)=H5 at s5 e5;have s25:=s3.trans (sm.trans s5);have M5:=M2.same s25;refine⟨_,rfl,.inl ⟨rfl,_,bD.of (s25 _ _ Wt)⟩,?_⟩;refine⟨_,rfl,_,rfl,m.d,_,rfl,M5.Md,_,rfl,m.ar,_,_,_,rfl,rfl,bD.of M5.hl,mU Lf,_,rfl,(show 3≤sizeLine by decide),fun t ht=> ?_⟩;have s6:=aw.upd (o:= .tup [nV n,oV ps[n],.ref tt]) ht;have e6:upd H5 t (.tup [nV n,oV ps[n],.ref tt]) t=some (.tup [nV n,oV ps[n],.ref tt]):=af;generalize upd H5 t (.tup [nV n,oV ps[n],.ref tt])=H6 at s6 e6;have Yu:=s25.trans s6;refine⟨fl,_,_,rfl,rfl,Yu _ _ Wt,by rw[ju];exact bJ (by lia),?_⟩
     have Km:∀c xs,H6 c=some (.tup xs)→upd H6 fl (.lst (ys++[.ref t])) c=some (.tup xs):=fun c xs e=>by
      rw[ah (aG e (Yu _ _ Wt) (by intro z;cases z))];exact e
     refine⟨_,_,ys++[.ref t],rfl,af,by rw[List.length_append,ju];rfl,fun i x e=> ?_,fun c q h e=> ?_⟩
     ·by_cases hi:i<ys.length
      ·rw[List.getElem?_append_left hi] at e;obtain⟨n',o',e1,e2,e3⟩:=hE i x e;exact⟨n',o',e1,e2,e3.kept fun c xs e=>Km c xs (Yu _ _ e)⟩
      ·rw[List.getElem?_append_right (by lia)] at e
       have Le:i - ys.length=0:=by
        have:=(List.getElem?_eq_some_iff.mp e).1;simp at this
        lia
       rw[Le] at e;cases e;have YD:i=j:=by lia
       subst YD;refine⟨n,_,en,Lf,t,tt,Ef,rfl,Km _ _ e6,Km _ _ (s6 _ _ e5),Bq,fun i2 x2 e2=> ?_⟩;obtain⟨u,m',vs,f1,f2,f3,f4⟩:=hE2 i2 x2 e2;exact⟨u,m',vs,f1,f2,f3,Km _ _ (s6 _ _ (s5 _ _ f4))⟩
     ·rw[ah h];exact Yu _ _ (kk c q h e)
  ·rintro σ H2 ⟨x2,x3,ys,rfl,Wt,ju,hE,kk⟩
   have YR:aw H H2:=fun c q e=>kk c q (ak e BE) (s1 _ _ (s0 _ _ e));rw[List.length_map] at ju;refine⟨_,rfl,m.d,_,rfl,(M.same YR).getL,_,rfl,fl,_,rfl,.inl ⟨bD.of Wt,fun tt Sk=>⟨(show 2≤sizeLine by decide),fun t ht=> ?_⟩⟩⟩;have s3:=aw.upd (o:= .tup ys) Sk;have s4:=aw.upd (o:= .tup [V.int L,.ref tt]) ht;refine q _ _ (YR.trans (s3.trans s4)) ⟨t,tt,ys,rfl,af,s4 _ _ af,ju,fun j x e=> ?_⟩;obtain⟨n,o,e1,e2,e3⟩:=hE j x e;exact⟨n,o,e1,e2,e3.kept fun c xs e=>s4 _ _ (s3 _ _ e)⟩
end
open PySem.SeqAt
theorem uo:∀xs:List (Nat×Nat),PyData.canLayAll0 (xs.map fun x=>eL x.1 x.2)=true
 |[]=>by simp[PyData.canLayAll0]
 |x::r=>by
  have ih:=uo r;simp only[List.map_cons,PyData.canLayAll0,eL,PyData.canLay0] at ih ⊢;rw[ih];rfl
theorem zv:∀xs:List (Nat×Nat),PyData.depthAll (xs.map fun x=>eL x.1 x.2)≤2
 |[]=>by simp[PyData.depthAll]
 |x::r=>by
  have ih:=zv r;simp only[List.map_cons,PyData.depthAll,eL,PyData.depth] at ih ⊢
  lia
theorem Ah(xs:List (Nat×Nat)):shaped (.list (xs.map fun x=>eL x.1 x.2))=true:=by
 show(PyData.canLay0 (.list (xs.map fun x=>eL x.1 x.2))&&decide (PyData.depth (.list (xs.map fun x=>eL x.1 x.2))≤64))=true;rw[Bool.and_eq_true];refine⟨?_,decide_eq_true ?_⟩
 ·simp only[PyData.canLay0];exact uo xs
 ·have:=zv xs;simp only[PyData.depth]
  lia
theorem JV(ds:List PyData):noMix (.list ds) (.list [])=true:=by
 simp only[noMix];cases ds<;>simp only[noMixAll]
theorem EY(ds:List PyData):PySem.Spec.same (.list ds) (.list [])=ds.isEmpty:=by
 simp only[PySem.Spec.same];cases ds<;>simp[PySem.Spec.sameAll]
theorem B9:shaped (.list [])=true:=by decide+kernel
def D5(R:Rm)(I:List Nat):List (Nat×Nat):=I.map fun i=>((R.getD i (0,0)).1,bc R i)
theorem um{H:Hp}{R:Rm}{ws:aY}(hw:∀i,i<R.length→H (ws.getD i 0)=some (.tup (lU (R.getD i (0,0)).1 (bc R i)))):∀{I:List Nat},(∀i∈I,i<R.length)→DatAll H (wf ws I) ((D5 R I).map fun x=>eL x.1 x.2)
 |[],_=> .nil
 |i::I,h=> .cons (.tup (hw i (h i List.mem_cons_self)) (.cons (.int _) (.cons (.int _) .nil))) (um hw fun j hj=>h j (List.mem_cons_of_mem _ hj))
theorem Jz(R:Rm)(I:List Nat):((D5 R I).map fun x=>eL x.1 x.2).isEmpty=I.isEmpty:=by
 unfold D5;cases I<;>rfl
theorem c_.refs{H:Hp}{R:Rm}{ws:aY}(hw:∀i,i<R.length→H (ws.getD i 0)=some (.tup (lU (R.getD i (0,0)).1 (bc R i)))){I:List Nat}(hI:∀i∈I,i<R.length){v:V}(h:v∈wf ws I):∃i,c_ H R v (some i):=by
 obtain⟨i,hi,rfl⟩:=List.mem_map.mp h;exact⟨i,.inr ⟨i,_,rfl,rfl,hI i hi,hw i (hI i hi)⟩⟩
theorem j5(ws:aY)(I:List Nat):(wf ws I).length=I.length:=List.length_map ..
theorem HZ{ts:ay}{R:Rm}:∀i∈(au ts).flatMap (aS R),i<R.length:=fun i hi=>by
 obtain⟨n,_,h⟩:=List.mem_flatMap.mp hi;exact dy h
theorem uO{α β:Type}(f:α→List β){c:Nat}(h:∀x,(f x).length≤c):∀l:List α,(l.flatMap f).length≤l.length*c
 |[]=>by simp
 |a::r=>by
  rw[List.flatMap_cons,List.length_append,List.length_cons,Nat.succ_mul];have:=uO f h r;have:=h a
  lia
def Ny(b:Addr):TS:=fun D σ H=>∃(x1 x2:Option V) (sl:Addr) (S:ax) (k:Nat),σ=[some (.ref b),x1,x2,some (.ref sl)]∧H sl=some (.lst S)∧sl≠b∧S.length≤1000000∧bH H b k∧k≤99999∧∀v H',(v= .int 7∨v∈S)→bH H' b (k+1)→Kept b H H'→D.rt v H'
section
variable{P:Program}{w:World}{K:Frag}{mg:Str→aN}{base:Heap}{A:qH}
def ME:Sp:=fun vs H Q _=>∃b m ps ts L top R ws ms cs G,∃k:Nat,vs=[.ref b,.ref m.d]∧bH H b k∧k+3≤100000∧aC H m ps ts L top R ws ms cs G∧¬b∈m.own∧ps.length=ts.length∧ts.length≤1000∧R.length≤1000∧
 ∀v o H',c_ H' R v o→bH H' b (k+3)→Kept b H H'→Q v H'
theorem nU(T:Txt K mg A):bu P w K mg base eF 3 A.lV A.kz ["_law_box_here","_law_world_here"] ME:=by
 have aL:=(gj (P:=P) (w:=w) (base:=base) T).mono (by decide:_≤2);have bX:=d0 (P:=P) (w:=w) (base:=base) T;refine T.kF.ok jR (fun vs H Q E h=> ?_) (fun cJ Ar outer s H vs Q E hr h=> ?_)
 ·obtain⟨b,m,ps,ts,L,top,R,ws,ms,cs,G,k,rfl,_⟩:=h;rfl
 ·obtain⟨b,m,ps,ts,L,top,R,ws,ms,cs,G,k,rfl,B,hk,W,hb,NX,Fx,hR,q⟩:=h;have hu:=dv hr;have YF:=hr.RY;have AX:_+100<cLine:=Nat.lt_of_le_of_lt (Nat.add_le_add_left (by decide:100≤16*2+200) _) (by have:=hr.un;omega);refine⟨_,(ai (aZ (i:=2) jR.nd rfl (Or.inl rfl) (aA aL hr rfl T.aW T.aU.kp T.aV .nil aB (aa (pv 0) (aa ao ae)))) (ai (aZ (i:=3) jR.nd rfl (Or.inl rfl) (aA bX hr rfl T.eN T.dk.kp T.eM .nil aB (aa (pv 1) ae))) (ai (b_ (ba j9 (pv 2) ao (br _)) (aq (aH cG)) bh) (ai (b_ (ba j9 (pv 2) ao (br _)) (aq (aH (bb bj (b7 (aa ao (aa ao (aa (wK ra ao) (aa (bt mI (aA aL hr rfl T.aW T.aU.kp T.aV .nil aB (aa (pv 0) (aa (bt vc ao ao) ae))) (bt oz ao (bt vc ao ao))) ae))))) (aA aL hr rfl T.aW T.aU.kp T.aV .nil aB (aa (pv 0) (aa ao ae))) (fun _ _=>rfl)))) bh) (ai (b_ (PW.pt (WP (ba j9 (pv 2) ao (br _)) (zn (ba (wL AX) (aX hu (pv 1) aM (fun _ _=>rfl)) (b7 ae) (br _))))) (aq (aH (bb bj (aX hu (pv 1) aM (fun _ _=>rfl)) (aA aL hr rfl T.aW T.aU.kp T.aV .nil aB (aa (pv 0) (aa (aT bp (by rfl) T.fK Boot.«len» (aa (aX hu (pv 1) aM (fun _ _=>rfl)) ae)) ae))) (fun _ _=>rfl)))) bh) (lr (Ny b) (ai (b_ (ba (pe YF) (pv 3) (b7 ae) (br _)) (aq (aH ao)) bh) (aq (aH (bb bj (pv 3) (aA aL hr rfl T.aW T.aU.kp T.aV .nil aB (aa (pv 0) (aa (aT bp (by rfl) T.fK Boot.«len» (aa (pv 3) ae)) ae))) (fun _ _=>rfl))))) ?Q2)))))),?_⟩
  case Q2=>
   rintro D σ H3 ⟨x1,x2,sl,S,k,rfl,hS,AZ,hlen,B,hk,q⟩
   refine⟨_,rfl,(show 0≤sizeLine by decide),fun e0 Fp=> ?_⟩;have s4:=aw.upd (o:= .lst []) Fp;have e4:upd H3 e0 (.lst []) e0=some (.lst []):=af;generalize upd H3 e0 (.lst [])=H4 at s4 e4;by_cases hz:S=[]
   ·subst hz;refine⟨sl,e0,_,_,rfl,rfl,s4 _ _ hS,e4,.inr ⟨rfl,rfl,rfl,_,rfl,eT (q _ _ (.inl rfl) ((B.same s4).mono (by lia)) s4.kept)⟩⟩
   ·have z_:0<S.length:=List.length_pos_iff.mpr hz;refine⟨sl,e0,_,_,rfl,rfl,s4 _ _ hS,e4,.inl ⟨by show S.length≠0;lia,_,rfl,dH ?_⟩⟩;refine⟨_,rfl,_,rfl,_,rfl,sl,_,rfl,.inl (bD.of (s4 _ _ hS)),b,_,k,rfl,B.same s4,by lia,by lia,by lia,fun r H5 r0 r1 B5 O5=> ?_⟩;refine mG (fun v=>v∈S) (O5.kept _ _ AZ (s4 _ _ hS)) r0 r1 (fun x hx=>hx) fun v hv=>q v _ (.inr hv) B5 (s4.kept.trans O5.kept)
  refine⟨_,rfl,b,8,k,rfl,B,by lia,by decide,by decide,fun kind H1 w0 w1 B1 O1=> ?_⟩;have W1:aC H1 m ps ts L top R ws ms cs G:=W.kept fun c o hc e=>O1.kept c o (fun z=>hb (z▸hc)) e;refine⟨_,rfl,m,ps,ts,L,top,R,ws,ms,cs,G,rfl,W1,NX,Fx,hR,fun sl H2 mq s2 FP=> ?_⟩;have W2:=W1.same s2;have B2:=B1.same s2;have K2:Kept b H H2:=O1.kept.trans s2.kept
  have AZ:sl≠b:=fun z=>by
   obtain⟨x,y,u,e,_⟩:=B1;rw[z,e] at mq;cases mq
  refine⟨_,rfl,rfl,_,rfl,?_⟩;refine oH (fun _=>q _ none _ (.inl ⟨rfl,.inl rfl⟩) (B2.mono (by lia)) K2) (fun _=> ?_);refine⟨_,rfl,rfl,_,rfl,?_⟩;refine oH (fun _=> ?_) (fun _=> ?_)
  ·refine⟨1,rfl,_,rfl,10,30,rfl,rfl,⟨by decide,by decide,by decide⟩,b,_,k+1,rfl,B2,by lia,by decide+kernel,by decide+kernel,fun r H3 r0 r1 B3 O3=> ?_⟩;refine⟨10,29,rfl,rfl,⟨by decide,by decide,by decide⟩,5,_,rfl,rfl,.inl ⟨by decide,by decide⟩,_,_,rfl,rfl,(show 4≤sizeLine by decide),fun p hp=> ?_⟩;have s4:=aw.upd (o:= .lst [V.int 0,V.int 1,V.int (-1),V.int (r - 5*10 ^ (29:Int).toNat)]) hp;have e4:upd H3 p (.lst [V.int 0,V.int 1,V.int (-1),V.int (r - 5*10 ^ (29:Int).toNat)]) p=some (.lst [V.int 0,V.int 1,V.int (-1),V.int (r - 5*10 ^ (29:Int).toNat)]):=af
   have Q0:p≠b:=fun z=>by
    obtain⟨x,y,u,e,_⟩:=B3;rw[z,e] at hp;cases hp
   refine⟨_,rfl,b,4,k+2,rfl,B3.same s4,by lia,by decide,by decide,fun j H5 j0 j1 B5 O5=> ?_⟩;refine mG (fun v=>∃i:Int,v= .int i) (O5.kept _ _ Q0 e4) j0 j1 ?_ fun v hv=>q v none _ (.inl ⟨rfl,.inr hv⟩) B5 (((K2.trans O3.kept).trans s4.kept).trans O5.kept);intro x hx;simp only[List.mem_cons,List.not_mem_nil,or_false] at hx
   rcases hx with rfl|rfl|rfl|rfl<;>exact⟨_,rfl⟩
  ·have ww:∀H3,aw H2 H3→Ny b {nx:=fun _ H' =>Q .bC H',rt:=Q} [some (.ref b),some (.ref m.d),some (.int kind),some (.ref sl)] H3:=fun H3 s3=>by
    refine⟨_,_,sl,_,k+1,rfl,s3 _ _ FP,AZ,?_,B2.same s3,by lia,fun v H' hv B' K' => ?_⟩
    ·rw[j5];exact Nat.le_trans (uO (aS R) (fun n=>Nat.le_trans (iU R n) hR) (au ts)) (Nat.mul_le_mul_right 1000 (Nat.le_trans (gk ts) Fx))
    ·rcases hv with rfl|hv
     ·exact q _ none _ (.inl ⟨rfl,.inr ⟨7,rfl⟩⟩) (B'.mono (by lia)) ((K2.trans s3.kept).trans K')
     ·obtain⟨i,hi⟩:=c_.refs (H:=H3) (fun i hi=>((W2.same s3).way i hi).2) HZ hv
      exact q _ _ _ (hi.kt fun c xs e=>K' _ _ (by
       obtain⟨x,y,u,eb,_⟩:=B2.same s3;exact aG e eb (by intro z;cases z)) e) (B'.mono (by lia)) ((K2.trans s3.kept).trans K')
   refine⟨_,rfl,rfl,_,rfl,?_⟩;refine oH (fun _=> ?_) (fun _=>ww H2 (aw.refl H2));refine⟨_,rfl,m.d,_,rfl,W2.RX,(show 0≤sizeLine by decide),fun e0 Fp=> ?_⟩;have s3:=aw.upd (o:= .lst []) Fp;have W3:=W2.same s3;have D3:=um (fun i hi=>(W3.way i hi).2) W3.gI;refine⟨_,_,.lst W3.gn D3,.lst af .nil,Ah _,B9,JV _,_,rfl,?_⟩;rw[EY,Jz]
   cases hG:G.isEmpty with
   |true=>exact ww _ s3
   |false=>
    have hg0:0<G.length:=List.length_pos_iff.mpr (List.isEmpty_eq_false_iff.mp hG);have hgl:=W.gl;have eln:=j5 ws G;refine eT ?_;refine⟨_,rfl,m.d,_,rfl,W3.RX,_,rfl,_,rfl,m.d,_,rfl,W3.RX,m.gn,_,rfl,.inl (bD.of W3.gn),b,_,k+1,rfl,B2.same s3,by lia,by lia,by lia,fun r H5 r0 r1 B5 O5=> ?_⟩;have ngb:m.gn≠b:=fun z=>hb (z▸W.sub _ (List.mem_cons_of_mem _ (List.mem_cons_of_mem _ m.ze)));refine mG (fun v=>v∈wf ws G) (O5.kept _ _ ngb W3.gn) r0 r1 (fun x hx=>hx) fun v hv=> ?_;obtain⟨i,hi⟩:=c_.refs (fun i hi=>(W3.way i hi).2) W3.gI hv
    exact q _ _ _ (hi.kt fun c xs e=>O5.kept _ _ (by
     obtain⟨x,y,u,eb,_⟩:=B2.same s3;exact aG e eb (by intro z;cases z)) e) (B5.mono (by lia)) ((K2.trans s3.kept).trans O5.kept)
end
theorem c_.snoc{H:Hp}{R:Rm}{x:Nat×Nat}{v:V}{o:Option Nat}(h:c_ H R v o):c_ H (R++[x]) v o:=by
 rcases h with h|⟨i,t,h1,h2,h3,h4⟩
 ·exact .inl h
 ·exact .inr ⟨i,t,h1,h2,by rw[List.length_append];exact Nat.lt_of_lt_of_le h3 (Nat.le_add_right _ _),by rw[d4 h3,eW h3];exact h4⟩
theorem fY.snoc{H:Hp}{R:Rm}{cs:cE}{oS:Nat→ay}(c:fY H R cs oS){t n:Nat}(hn:n≤6):fY H (R++[(t,n)]) (cs++[List.replicate n .bC]) (fun i=>if i=cs.length then List.replicate n none else oS i):=fun i xs e=>by
 by_cases hi:i<cs.length
 ·rw[List.getElem?_append_left hi] at e;obtain⟨h1,h2,h3⟩:=c i xs e;show xs.length≤6∧(if i=cs.length then _ else _:ay).length=xs.length∧∀(k:Nat) v,xs[k]? =some v→c_ H _ v ((if i=cs.length then _ else _:ay).getD k none);rw[if_neg (by lia)];exact⟨h1,h2,fun k v e=>(h3 k v e).snoc⟩
 ·rw[List.getElem?_append_right (by lia)] at e
  have Le:i - cs.length=0:=by
   have:=(List.getElem?_eq_some_iff.mp e).1;simp at this
   lia
  rw[Le] at e;cases e;have hic:i=cs.length:=by lia
  show(List.replicate n V.bC).length≤6∧(if i=cs.length then _ else _:ay).length=(List.replicate n V.bC).length∧∀(k:Nat) v,(List.replicate n V.bC)[k]? =some v→c_ H _ v ((if i=cs.length then _ else _:ay).getD k none);rw[if_pos hic,List.length_replicate,List.length_replicate];refine⟨hn,rfl,fun k v e=> .inl ⟨?_,.inl (List.eq_of_mem_replicate (List.mem_of_getElem? e))⟩⟩;rw[List.getD_eq_getElem?_getD,List.getElem?_replicate]
  split<;>rfl
theorem fY.put{H:Hp}{R:Rm}{cs:cE}{oS:Nat→ay}(c:fY H R cs oS){i k:Nat}{xs:ax}{v:V}{o:Option Nat}(hc:cs[i]? =some xs)(hv:c_ H R v o):fY H R (cs.set i (xs.set k v)) (fun j=>if j=i then(oS i).set k o else oS j):=fun j ys e=>by
 obtain⟨h1,h2,h3⟩:=c i xs hc;show ys.length≤6∧(if j=i then _ else _:ay).length=ys.length∧∀(k' :Nat) v',ys[k']? =some v'→c_ H R v' ((if j=i then _ else _:ay).getD k' none);rw[tP hc] at e;by_cases z:j=i
 ·subst z;rw[if_pos rfl] at e;cases e;rw[if_pos rfl,List.length_set,List.length_set];refine⟨h1,h2,fun k' v' e=> ?_⟩;by_cases y:k=k'
  ·subst y
   have hk:k<xs.length:=by
    have:=(List.getElem?_eq_some_iff.mp e).1;rw[List.length_set] at this;exact this
   rw[List.getElem?_set_self hk] at e;cases e;rw[List.getD_eq_getElem?_getD,List.getElem?_set_self (by lia)];exact hv
  ·rw[List.getElem?_set_ne y] at e;have:=h3 k' v' e;rw[List.getD_eq_getElem?_getD,List.getElem?_set_ne y,←List.getD_eq_getElem?_getD];exact this
 ·rw[if_neg (fun q=>z q.symm)] at e;rw[if_neg z];exact c j ys e
theorem aC.put{H:Hp}{m:MW}{ps ts:ay}{L top:Nat}{R:Rm}{ws ms:aY}{cs:cE}{G:List Nat}(W:aC H m ps ts L top R ws ms cs G){i:Nat}(hi:i∈bT ts R){vs vs' :ax}(hc:cs[i]? =some vs):aC (upd H (ms.getD i 0) (.lst vs')) m ps ts L top R ws ms (cs.set i vs') G:=by
 obtain⟨vs0,e0,hl⟩:=W.mm i hi;rw[hc] at e0;cases e0;have hm:ms[i]? =some (ms.getD i 0):=cj 0 (by rw[W.ml];exact cO hi)
 have kp:∀{c:Addr} {o:HO},(∀xs,o≠.lst xs)→H c=some o→upd H (ms.getD i 0) (.lst vs') c=some o:=fun ho e=>by
  rw[ah (aG e hl (fun z=>ho _ z))];exact e
 have ls:∀{j:Nat} {b:Addr} {xs:ax},(m.ls ms)[j]? =some b→j≠5+m.mj.length+i→H b=some (.lst xs)→upd H (ms.getD i 0) (.lst vs') b=some (.lst xs):=fun hb h e=>by
  rw[ah (W.ne hb (m.gm hm) h)];exact e
 refine⟨kp (by intro _ z;cases z) W.ob,ls m.g0 (by lia) W.hl,ls m.g1 (by lia) W.tl,ls m.g2 (by lia) W.rl,W.MO,fun n b e=>ls (m.gr e) (by have:=(List.getElem?_eq_some_iff.mp e).1;lia) (W.rm n b e),ls m.g3 (by lia) W.gv,kp (by intro _ z;cases z) W.ca,ls m.g4 (by lia) W.gn,W.gI,W.gl,W.s_,fun j hj=>⟨(W.way j hj).1,kp (by intro _ z;cases z) (W.way j hj).2⟩,W.ml,fun j hj=> ?_,W.nd,W.sub,fun c PN => ?_⟩
 ·rw[tP hc];by_cases z:i=j
  ·subst z;rw[if_pos rfl];exact⟨vs',rfl,af⟩
  ·rw[if_neg z];obtain⟨H_,f1,f2⟩:=W.mm j hj;have hmj:ms[j]? =some (ms.getD j 0):=cj 0 (by rw[W.ml];exact cO hj);exact⟨H_,f1,ls (m.gm hmj) (by lia) f2⟩
 ·by_cases z:c=ms.getD i 0
  ·exact⟨_,by rw[z];exact af⟩
  ·rw[ah z];exact W.al c PN
structure gD(C:Addr)(H:Hp)(a:HA)(m:MW)(ps ts:ay)(L pk:Nat)(R:Rm)(N:Nat)(rs ws ms:aY)(cs:cE)(G:List Nat):Prop where
 h:aQ C H a ps ts L pk R N rs cs
 mo:aC H m ps ts L pk R ws ms cs G
 G:Good ps ts L pk R
 cl:cs.length=R.length
 cz:∀(i:Nat) (vs:ax),cs[i]? =some vs→vs.length=(R.getD i (0,0)).2
 ok:∃oS,fY H R cs oS
 ap:∀c∈a.own,¬c∈m.own
section
variable{C:Addr}{H H' H4 H5 H6:Hp}{a:HA}{m m' :MW}{ps ts:ay}{L pk:Nat}{R:Rm}{N:Nat}{rs ws ms:aY}{cs:cE}{G G' :List Nat}{t:Nat}
theorem gD.kept(t:gD C H a m ps ts L pk R N rs ws ms cs G)(k:∀c o,c∈a.own∨c∈m.own→H c=some o→H' c=some o)(kt:∀c xs,H c=some (.tup xs)→H' c=some (.tup xs)):gD C H' a m ps ts L pk R N rs ws ms cs G:=
 ⟨t.h.kept fun c o hc e=>k c o (.inl hc) e,t.mo.kept fun c o hc e=>k c o (.inr hc) e,t.G,t.cl,t.cz,t.ok.imp fun _ c=>c.kt kt,t.ap⟩
theorem gD.same(t:gD C H a m ps ts L pk R N rs ws ms cs G)(s:aw H H'):gD C H' a m ps ts L pk R N rs ws ms cs G:=t.kept (fun c o _ e=>s c o e) (fun c xs e=>s c _ e)
theorem gD.r1(t:gD C H a m ps ts L pk R N rs ws ms cs G):∀r∈R,1≤r.2:=fun r hr=>(t.G.rw r hr).1
theorem gD.Xg(t:gD C H a m ps ts L pk R N rs ws ms cs G){i:Nat}(hi:i∈bT ts R):uN H ts R i (ws.getD i 0):=⟨cO hi,uc hi,(t.mo.way i (cO hi)).2⟩
theorem c_.valAt{v:V}{o:Option Nat}(h:c_ H R v o):wR H R v:=by
 rcases h with⟨_,h|h⟩|⟨i,t,h1,h2,h3,h4⟩
 ·exact .inl h
 ·exact .inr (.inl h)
 ·exact .inr (.inr ⟨i,t,h2,h3,h4⟩)
theorem XU{p q:Addr}{x y:ax}{H H' :Hp}(k:ma p q H H')(hp:H p=some (.lst x))(hq:H q=some (.lst y))(c:Addr)(xs:ax)(e:H c=some (.tup xs)):H' c=some (.tup xs):=k c _ (aG e hp (by intro z;cases z)) (aG e hq (by intro z;cases z)) e
theorem KZ{b:Addr}{k:Nat}{H H' :Hp}(K:Kept b H H')(B:bH H b k)(c:Addr)(xs:ax)(e:H c=some (.tup xs)):H' c=some (.tup xs):=by
 obtain⟨x,y,z,hb,_⟩:=B;exact K c _ (aG e hb (by intro z;cases z)) e
theorem gD.begin(Z:gD C H4 a m ps ts L pk R N rs ws ms cs G)(ht:t<ps.length)(VS:ps.length≤100)(F5:iS C H5 a.f a.pa a.ta (ps++[some t]) (ts++[none]))(K5:ma a.pa a.ta H4 H5)
 (M6:aC H6 m' (ps++[some t]) (ts++[none]) L pk R ws ms cs G) (K6:G1 H5 m m' H6):gD C H6 a m' (ps++[some t]) (ts++[none]) L pk R N rs ws ms cs G∧m'.d=m.d∧(∀c∈m'.own,c∈m.own∨H4 c=none)∧(∀c o,¬c∈a.own→¬c∈m.own→H4 c=some o→H6 c=some o)∧∀c xs,H4 c=some (.tup xs)→H6 c=some (.tup xs):=by
 obtain⟨o1,o2,o3,o4,o5⟩:=Z.h.Aj;obtain⟨p1,p2,p3,p4⟩:=K6;have h5:=Z.h.frames F5 K5;have h6:aQ C H6 a (ps++[some t]) (ts++[none]) L pk R N rs cs:=h5.kept fun c o hc e=>p3 c o (Z.ap c hc) e;have hW:=Z.G.W.len;have z_:=Z.G.W.pos;have kt:∀c xs,H4 c=some (.tup xs)→H6 c=some (.tup xs):=fun c xs e=>p4 c xs (XU K5 Z.h.pl Z.h.tl c xs e);refine⟨⟨h6,M6,⟨Z.G.W.begun ht VS,?_,fun r hr=> ?_,Z.G.lo,Z.G.hi,?_,Z.G.pk⟩,Z.cl,Z.cz,Z.ok.imp fun _ c=>c.kt kt,fun c hc hm=> ?_⟩,p1,fun c hc=> ?_,fun c o h1 h2 e=>p3 c o h2 (K5 c o (fun z=>h1 (z▸o2)) (fun z=>h1 (z▸o3)) e),kt⟩
 ·rw[List.getElem?_append_left (by lia)];exact Z.G.g
 ·obtain⟨r1,r2,r3⟩:=Z.G.rw r hr;refine⟨r1,r2,?_⟩;rw[List.length_append]
  lia
 ·rw[zF ts fun r hr=>by have:=(Z.G.rw r hr).2.2;lia];exact Z.G.use
 ·rcases p2 c hm with h|h
  ·exact Z.ap c hc h
  ·obtain⟨o,e⟩:=h5.al c hc;rw[h] at e;cases e
 ·rcases p2 c hc with h|h
  ·exact .inl h
  ·refine .inr ?_
   cases e:H4 c with
   |none=>rfl
   |some o=>
    by_cases z:c∈a.own
    ·obtain⟨o',e'⟩:=h5.al c z;rw[h] at e';cases e'
    ·have:=K5 c o (fun y=>z (y▸o2)) (fun y=>z (y▸o3)) e;rw[h] at this;cases this
theorem gD.finish(Z:gD C H4 a m ps ts L pk R N rs ws ms cs G)(h0:t≠0)(ht:t<ps.length)(F5:iS C H5 a.f a.pa a.ta ps (wP t (bx ps ts t) ts))(K5:ma a.pa a.ta H4 H5)
 (M6:aC H6 m ps (wP t (bx ps ts t) ts) L pk R ws ms cs G') (p3:∀c o,¬c∈m.own→H5 c=some o→H6 c=some o) (p4:∀c xs,H5 c=some (.tup xs)→H6 c=some (.tup xs)):gD C H6 a m ps (wP t (bx ps ts t) ts) L pk R N rs ws ms cs G'∧(∀c o,¬c∈a.own→¬c∈m.own→H4 c=some o→H6 c=some o)∧∀c xs,H4 c=some (.tup xs)→H6 c=some (.tup xs):=by
 obtain⟨o1,o2,o3,o4,o5⟩:=Z.h.Aj;have h5:=Z.h.frames F5 K5;have h6:aQ C H6 a ps (wP t (bx ps ts t) ts) L pk R N rs cs:=h5.kept fun c o hc e=>p3 c o (Z.ap c hc) e;have kt:∀c xs,H4 c=some (.tup xs)→H6 c=some (.tup xs):=fun c xs e=>p4 c xs (XU K5 Z.h.pl Z.h.tl c xs e);refine⟨⟨h6,M6,⟨Z.G.W.ended ht (bx ps ts t),?_,Z.G.rw,Z.G.lo,Z.G.hi,Nat.le_trans (yJ _ _ _ _) Z.G.use,Z.G.pk⟩,Z.cl,Z.cz,Z.ok.imp fun _ c=>c.kt kt,Z.ap⟩,fun c o h1 h2 e=>p3 c o h2 (K5 c o (fun z=>h1 (z▸o2)) (fun z=>h1 (z▸o3)) e),kt⟩;rcases qc t (bx ps ts t) ts 0 with h|⟨h,_⟩
 ·rw[h];exact Z.G.g
 ·exact absurd h (Ht Z.G.W h0)
end
end My
namespace L2
open PySem PySem.Spec PySem.SeqAt PyProof.Rows
section
variable{X:Cx}
theorem w6(hu:X.A.units+100<cLine):mh X (compareOp .Eq) (fun x y H Q=>∃d e,Dat H x d∧Dat H y e∧shaped d=true∧shaped e=true∧noMix d e=true∧Q (.bl (PySem.Spec.same d e)) H):=by
 intro pins s σ H x y v u Q I rx ry h;obtain⟨d,e,hd,he,s1,s2,m,q⟩:=h;obtain⟨⟨as,rd⟩,_⟩:=hd.reads I.bE rx;obtain⟨⟨bs,re⟩,_⟩:=he.reads I.bE ry;exact eq_dataH_same rd re s1 s2 (by lia) m ⟨.bl _,H,I,rfl,q⟩
end
end L2
namespace My
open PySem L2 PyProof.Rows
def uf(C b:Addr)(L kp:Nat)(H:Hp)(a:HA)(m:MW)(R:Rm)(r N:Nat)(Z:Hp→Prop):Prop:=∀a' m' FC ts' MI R' N' Mx H_ KC MF G' H',gD C H' a' m' FC ts' L MI R' N' Mx H_ KC MF G'→a'.f=a.f→m'.d=m.d→(∀c∈a'.own,c∈a.own∨H c=none)→(∀c∈m'.own,c∈m.own∨H c=none)→(∀c o,c≠b→¬c∈a.own→¬c∈m.own→H c=some o→H' c=some o)→(∀c xs,H c=some (.tup xs)→H' c=some (.tup xs))→bH H' b kp→R'.length+ts'.length≤r+1→N'≤N+2→(∃e,R' =R++e)→Z H'
theorem uf.step{C b:Addr}{L kp j j' :Nat}{H H1:Hp}{a:HA}{m:MW}{R:Rm}{r N:Nat}{Z:Hp→Prop}(q:uf C b L kp H a m R r N Z)(K:Kept b H H1)(B:bH H b j)(B1:bH H1 b j'):uf C b L kp H1 a m R r N Z:=fun a' m' FC ts' MI R' N' Mx H_ KC MF G' H' Z' ef ed ga gm kp' kt=>by
 have fr:∀c,H1 c=none→H c=none:=fun c h=>by
  cases e:H c with
  |none=>rfl
  |some o=>
   by_cases z:c=b
   ·obtain⟨x,y,u,eb,_⟩:=B1;rw[z,eb] at h;cases h
   ·rw[K c o z e] at h;cases h
 exact q a' m' FC ts' MI R' N' Mx H_ KC MF G' H' Z' ef ed (fun c hc=>(ga c hc).imp id (fr c)) (fun c hc=>(gm c hc).imp id (fr c)) (fun c o hc h1 h2 e=>kp' c o hc h1 h2 (K c o hc e)) (fun c xs e=>kt c xs (KZ K B c xs e))
def uT(C:Addr)(n:Nat):TS:=fun D σ H=>∃(b:Addr) (k kp:Nat) (a:HA) (m:MW) (ps ts:ay) (L pk:Nat) (R:Rm) (N:Nat) (rs ws ms:aY) (cs:cE) (G:List Nat) (t:Nat) (kd:Int) (sl:Addr) (x4 x7 x8 x9 Kt:Option V),σ=[some (.ref b),some (.ref a.f),some (.ref m.d),some (.int kd),x4,some (.int t),some (.ref sl),x7,x8,x9,Kt]∧bH H b k∧k≤90900+n∧k+7≤kp+n∧¬b∈a.own∧¬b∈m.own∧gD C H a m ps ts L pk R N rs ws ms cs G∧ts[t]? =some none∧H sl=some (.lst (wf ws ((au ts).flatMap (aS R))))∧sl≠b∧(1≤n→(au ts).flatMap (aS R)≠[])∧R.length≤998∧N≤8000∧uf C b L kp H a m R (R.length+ts.length) N fun H' =>D.rt (.bl true) H'
theorem bH.kept{b:Addr}{k:Nat}{H H' :Hp}(B:bH H b k)(h:∀o,H b=some o→H' b=some o):bH H' b k:=by
 obtain⟨x,y,z,hb,r⟩:=B;exact⟨x,y,z,h _ hb,r⟩
theorem rW{ts:ay}{t:Nat}(h:ts[t]? =some none):cB ts (t:Int)=true:=by
 unfold cB;rw[decide_eq_true (show(0:Int)≤t by lia),Int.toNat_natCast,h];rfl
open PySem.SeqAt in
theorem u9(f p:Nat):shaped (eL f p)=true:=by
 show(PyData.canLay0 (eL f p)&&decide (PyData.depth (eL f p)≤64))=true;simp[eL,PyData.canLay0,PyData.canLayAll0,PyData.depth,PyData.depthAll]
open PySem.SeqAt in
theorem Lz(f p:Nat):noMix (eL f p) (eL f p)=true:=by
 simp[eL,noMix,noMixAll]
theorem CJ:∀l:List Nat,vy (l.map nV) (l.map nV)=true
 |[]=>rfl
 |a::r=>by
  show(Bw (nV a) (nV a)&&vy (r.map nV) (r.map nV))=true;rw[CJ r];simp[nV,Bw]
section
variable{P:Program}{w:World}{K:Frag}{mg:Str→aN}{base:Heap}{A:qH}
def QR(C:Addr):Sp:=fun vs H Q _=>∃b k a m ps ts L pk R N rs ws ms cs G,vs=[.ref b,.ref a.f,.ref m.d]∧bH H b k∧k≤90000∧gD C H a m ps ts L pk R N rs ws ms cs G∧¬b∈a.own∧¬b∈m.own∧R.length≤998∧N≤8000∧uf C b L (k+12) H a m R (R.length+ts.length) N fun H' =>Q (.bl true) H'
theorem qd(T:Txt K mg A):bu P w K mg base eF 9 A.mY A.mL ["_law_box_here","_law_house","_law_world_here"] (QR A.aj):=by
 have aL:=(gj (P:=P) (w:=w) (base:=base) T).mono (by decide:_≤8);have bO:=(de (P:=P) (w:=w) (base:=base) T).mono (by decide:_≤8);have bX:=(d0 (P:=P) (w:=w) (base:=base) T).mono (by decide:_≤8);have yI:=(vX (P:=P) (w:=w) (base:=base) T).mono (by decide:_≤8);have nu:=(qi (P:=P) (w:=w) (base:=base) T).mono (by decide:_≤8);have xP:=(vA (P:=P) (w:=w) (base:=base) T).mono (by decide:_≤8);have xY:=(vt (P:=P) (w:=w) (base:=base) T).mono (by decide:_≤8);have lG:=(nU (P:=P) (w:=w) (base:=base) T).mono (by decide:_≤8);have sO:=(rJ (P:=P) (w:=w) (base:=base) T).mono (by decide:_≤8);have vf:=(tG (P:=P) (w:=w) (base:=base) T).mono (by decide:_≤8);have xj:=(vq (P:=P) (w:=w) (base:=base) T).mono (by decide:_≤8);have AI:=(xl (P:=P) (w:=w) (base:=base) T).mono (by decide:_≤8);refine T.mz.ok cm (fun vs H Q E h=> ?_) (fun cJ Ar outer s H vs Q E hr h=> ?_)
 ·obtain⟨b,k,a,m,ps,ts,L,pk,R,N,rs,ws,ms,cs,G,rfl,_⟩:=h;rfl
 ·obtain⟨b,k,a,m,ps,ts,L,pk,R,N,rs,ws,ms,cs,G,rfl,B,hk,Z,A0,zO,hR,hN,q⟩:=h;have hu:=dv hr;have AX:_+100<cLine:=Nat.lt_of_le_of_lt (Nat.add_le_add_left (by decide:100≤16*8+200) _) (by have:=hr.un;omega);have YF:_<cLine:=Nat.lt_of_le_of_lt (Nat.le_add_right _ _) AX;refine⟨_,(ai (aZ (i:=3) cm.nd rfl (Or.inl rfl) (aA aL hr rfl T.aW T.aU.kp T.aV .nil aB (aa (pv 0) (aa ao ae)))) (ai (aZ (i:=4) cm.nd rfl (Or.inl rfl) (aA bO hr rfl T.dN T.cI.kp T.dE .nil aB (aa (pv 2) ae))) (ai (aZ (i:=5) cm.nd rfl (Or.inl rfl) (bb bj (pv 4) (bb bj (b7 (aa (bt mI (aT bp (by rfl) T.fK Boot.«len» (aa (pv 4) ae)) ao) (aa (aA aL hr rfl T.aW T.aU.kp T.aV .nil aB (aa (pv 0) (aa (aT bp (by rfl) T.fK Boot.«len» (aa (pv 4) ae)) ae))) ae))) (aA aL hr rfl T.aW T.aU.kp T.aV .nil aB (aa (pv 0) (aa ao ae))) (fun _ _=>rfl)) (fun _ _=>rfl))) (ai (aZ (i:=6) cm.nd rfl (Or.inl rfl) (aA bX hr rfl T.eN T.dk.kp T.eM .nil aB (aa (pv 2) ae))) (ai (b_ (PW.pt (WP (ba AL (pv 3) ao (br _)) (zn (ba AL (aT bp (by rfl) T.fK Boot.«len» (aa (aX hu (pv 2) aM (fun _ _=>rfl)) ae)) ao (br _))))) (aq (aH (fq j9 (bg (pv 1) T.az T.vh vf hr T.ud .nil aB (aa (pv 5) ae)) (aA yI hr rfl T.yL T.qm.kp T.xM .nil aB (aa (pv 2) (aa (pv 5) ae))) (br _)))) bh) (lr (uT A.aj 0) (ai (b_ (PW.pt (jac (ba AL (pv 3) ao (br _)) (ZB (ba (pe YF) (pv 6) (b7 ae) (br _))))) (lr (uT A.aj 0) (ai (aZ (i:=7) cm.nd rfl (Or.inl rfl) (bt fz ao (aA aL hr rfl T.aW T.aU.kp T.aV .nil aB (aa (pv 0) (aa (bb bj (b7 (aa ao (aa ao ae))) (aA aL hr rfl T.aW T.aU.kp T.aV .nil aB (aa (pv 0) (aa ao ae))) (fun _ _=>rfl)) ae))))) (ai (b_ (ba CG (pv 7) (bt mI (aX hu (pv 2) aM (fun _ _=>rfl)) (aA nu hr rfl T.sv T.m8.kp T.sq .nil aB (aa (pv 2) ae))) (br _)) (aq (aH qC)) bh) (aq (aH (fq (w6 AX) (bg (pv 1) T.az T.yv xj hr T.x_ .nil aB (aa (pv 5) (aa (pv 7) ae))) (aA xP hr rfl T.xO T.qt.kp T.xH .nil aB (aa (pv 2) (aa (pv 5) (aa (pv 7) ae)))) (br _)))))) ?afH) bh) (lr (uT A.aj 1) (ai (b_ (PW.pt (WP (ba j9 (pv 3) ao (br _)) (WP (ba CG (pv 5) ao (br _)) (zn (ba j9 (aA aL hr rfl T.aW T.aU.kp T.aV .nil aB (aa (pv 0) (aa ao ae))) ao (br _)))))) (aq (aH (fq (pe YF) (bg (pv 1) T.az T.tp sO hr T.sV .nil aB (aa (pv 5) ae)) (aA xY hr rfl T.w8 T.qA.kp T.xW .nil aB (aa (pv 2) (aa (pv 5) ae))) (br _)))) bh) (lr (uT A.aj 2) (ai (aZ (i:=8) cm.nd rfl (Or.inl rfl) (bb bj (pv 6) (aA aL hr rfl T.aW T.aU.kp T.aV .nil aB (aa (pv 0) (aa (aT bp (by rfl) T.fK Boot.«len» (aa (pv 6) ae)) ae))) (fun _ _=>rfl))) (ai (aZ (i:=9) cm.nd rfl (Or.inl rfl) (aA aL hr rfl T.aW T.aU.kp T.aV .nil aB (aa (pv 0) (aa (aT bp (by rfl) T.fK Boot.«len» (aa (aX hu (aX hu (pv 2) aM (fun _ _=>rfl)) (pv 8) (fun _ _=>rfl)) ae)) ae)))) (ai (aZ (i:=10) cm.nd rfl (Or.inl rfl) (aA lG hr rfl T.qg T.kF.kp T.qE .nil aB (aa (pv 0) (aa (pv 2) ae)))) (ai (oF (pv 10) (o8 (aX hu (aX hu (pv 2) aM (fun _ _=>rfl)) (pv 8) (fun _ _=>rfl)) (pv 9) wS)) (aq (aH (fq rM (bg (pv 1) T.az T.zi AI hr T.AF .nil aB (aa (pv 8) (aa (pv 9) (aa (pv 10) ae)))) cG (br _)))))))) ?aai)) ?RG)) ?Q2)))))),?_⟩
  case aai=>
   rintro D σ H1 ⟨b,k,kp,a,m,ps,ts,L,pk,R,N,rs,ws,ms,cs,G,t,kd,sl,x4,x7,x8,x9,Kt,rfl,B,hk,V2,A0,zO,Z,pF,mq,AZ,tL,hR,hN,q⟩
   have kb:∀{H' :Hp},Kept b H1 H'→gD A.aj H' a m ps ts L pk R N rs ws ms cs G:=fun K' =>Z.kept (fun c o hc e=>K' c o (fun z=>by rcases hc with h|h;exact A0 (z▸h);exact zO (z▸h)) e) (KZ K' B);have hlen:=j5 ws ((au ts).flatMap (aS R));have z_:0<((au ts).flatMap (aS R)).length:=List.length_pos_iff.mpr (tL (by decide));have Fx:=Z.G.ts;have amZ:((au ts).flatMap (aS R)).length≤1000*1000:=Nat.le_trans (uO (aS R) (fun n=>Nat.le_trans (iU R n) (by lia)) (au ts)) (Nat.mul_le_mul_right 1000 (Nat.le_trans (gk ts) (by lia)));refine⟨_,rfl,_,rfl,_,rfl,sl,_,rfl,.inl (bD.of mq),b,_,k,rfl,B,by lia,by lia,by lia,fun r H2 r0 r1 B2 O2=> ?_⟩;obtain⟨j,rfl⟩:∃j:Nat,r=j:=⟨r.toNat,by lia⟩;have hj:j<((au ts).flatMap (aS R)).length:=by lia
   obtain⟨i,YD⟩:∃i,((au ts).flatMap (aS R))[j]? =some i:=⟨_,List.getElem?_eq_getElem hj⟩
   have hi:i∈bT ts R:=by
    obtain⟨n,hn,hx⟩:=List.mem_flatMap.mp (List.mem_of_getElem? YD);exact nz (dy hx) (by rw[gH hx];exact eq_of_beq (cw.mp hn))
   refine⟨sl,_,j,.ref (ws.getD i 0),rfl,rfl,bD.of (O2.kept _ _ AZ mq),d5 (by unfold wf;rw[List.getElem?_map,YD];rfl),?_⟩;have Z2:=kb O2.kept;obtain⟨xs,e2,e4,e5⟩:=Z2.mo.at_ Z.r1 hi;have Tc:=Z.cz i xs e2;have hx1:=(Z.G.rw _ (xz (cO hi))).1;have hx6:=(Z.G.rw _ (xz (cO hi))).2.1;refine⟨_,rfl,_,rfl,m.d,_,rfl,Z2.mo.GB,_,rfl,m.ca,_,rfl,e4,ms.getD i 0,_,rfl,.inl (bD.of e5),b,_,k+1,rfl,B2,by lia,by lia,by lia,fun r H3 r0 r1 B3 O3=> ?_⟩;obtain⟨kk,rfl⟩:∃kk:Nat,r=kk:=⟨r.toNat,by lia⟩;have hkk:kk<xs.length:=by lia
   have K13:Kept b H1 H3:=O2.kept.trans O3.kept;have Z3:=kb K13;have hW:=Z.G.W.len;refine⟨_,rfl,_,rfl,b,m,ps,ts,L,pk,R,ws,ms,cs,G,k+1+1,rfl,B3,by lia,Z3.mo,zO,hW,by lia,by lia,fun v o H4 hv B4 K4=> ?_⟩;have K14:Kept b H1 H4:=K13.trans K4;have Z4:=kb K14;obtain⟨xs',f2,f4,f5⟩:=Z4.mo.at_ Z.r1 hi;rw[e2] at f2;cases f2;refine⟨_,rfl,_,rfl,m.d,_,rfl,Z4.mo.GB,_,rfl,m.ca,_,rfl,f4,_,rfl,ms.getD i 0,_,_,kk,rfl,rfl,f5,pR hkk,?_⟩;have M5:=Z4.mo.put (vs' :=xs.set kk v) hi e2;have im:ms.getD i 0∈m.own:=Z.mo.sub _ (List.mem_cons_of_mem _ (List.mem_cons_of_mem _ (m.IM (List.mem_of_getElem? (cj 0 (by rw[Z.mo.ml];exact cO hi))))))
   have kp5:∀c o,¬c∈m.own→H4 c=some o→upd H4 (ms.getD i 0) (.lst (xs.set kk v)) c=some o:=fun c o hc e=>by
    rw[ah (fun z=>hc (by rw[z];exact im))];exact e
   have Vt:∀c ys,H4 c=some (.tup ys)→upd H4 (ms.getD i 0) (.lst (xs.set kk v)) c=some (.tup ys):=fun c ys e=>by
    rw[ah (aG e f5 (by intro z;cases z))];exact e
   generalize upd H4 (ms.getD i 0) (.lst (xs.set kk v))=H5 at M5 kp5 Vt;have F5:aQ A.aj H5 a ps ts L pk R N rs cs:=Z4.h.kept fun c o hc e=>kp5 c o (Z.ap c hc) e;obtain⟨dx,ho⟩:=F5.ob;have wa:=Z4.Xg hi;refine⟨_,rfl,a.f,dx,_,rfl,ho,aR (by decide+kernel),_,rfl,_,rfl,_,rfl,a,ps,ts,L,pk,R,N,rs,cs,i,_,xs,kk,v,rfl,F5,Z.r1,hW,⟨wa.hi,wa.st,Vt _ _ wa.e⟩,e2,hkk,(hv.kt Vt).valAt,fun H6 s6=>⟨rfl,?_⟩⟩;have F6:=F5.same s6;obtain⟨Y8,r2',ys,r3',r4'⟩:=F6.room (cO hi);rw[e2] at r3';cases r3';have F7:=F6.put (vs' :=xs.set kk v) Y8 e2
   have M7:aC (upd H6 (rs.getD i 0) (.lst (xs.set kk v))) m ps ts L pk R ws ms (cs.set i (xs.set kk v)) G:=(M5.same s6).kept fun c o hc e=>by
    rw[ah (fun z=>Z.ap _ r2' (by rw[←z];exact hc))];exact e
   have Km:∀c ys,H4 c=some (.tup ys)→upd H6 (rs.getD i 0) (.lst (xs.set kk v)) c=some (.tup ys):=fun c ys e=>by
    rw[ah (aG (s6 _ _ (Vt c ys e)) r4' (by intro z;cases z))];exact s6 _ _ (Vt c ys e)
   have kp7:∀c o,¬c∈a.own→¬c∈m.own→H4 c=some o→upd H6 (rs.getD i 0) (.lst (xs.set kk v)) c=some o:=fun c o h1 h2 e=>by
    rw[ah (fun z=>h1 (by rw[z];exact r2'))];exact s6 _ _ (kp5 c o h2 e)
   obtain⟨oS,c4⟩:=Z4.ok;refine q a m ps ts pk R N rs ws ms _ G _ ⟨F7,M7,Z.G,by rw[List.length_set];exact Z.cl,fun j vs e=> ?_,⟨_,(c4.put (k:=kk) e2 hv).kt Km⟩,Z.ap⟩ rfl rfl (fun c hc=> .inl hc) (fun c hc=> .inl hc) (fun c o hc h1 h2 e=>kp7 c o h1 h2 (K14 c o hc e)) (fun c xs e=>Km c xs (KZ K14 B c xs e)) ((B4.kept fun o e=>kp7 b o A0 zO e).mono (by lia)) (Nat.le_succ _) (by lia) ⟨[],(List.append_nil R).symm⟩;rw[tP e2] at e;by_cases z:i=j
   ·subst z;rw[if_pos rfl] at e;cases e;rw[List.length_set];exact Tc
   ·rw[if_neg z] at e;exact Z.cz j vs e
  case RG=>
   rintro D σ H1 ⟨b,k,kp,a,m,ps,ts,L,pk,R,N,rs,ws,ms,cs,G,t,kd,sl,x4,x7,x8,x9,Kt,rfl,B,hk,V2,A0,zO,Z,pF,mq,AZ,tL,hR,hN,q⟩
   have kb:∀{H' :Hp},Kept b H1 H'→gD A.aj H' a m ps ts L pk R N rs ws ms cs G:=fun K' =>Z.kept (fun c o hc e=>K' c o (fun z=>by rcases hc with h|h;exact A0 (z▸h);exact zO (z▸h)) e) (KZ K' B)
   have next:∀(H2:Hp) (k2:Nat),k2≤k+1→bH H2 b k2→Kept b H1 H2→k2≤90902→uT A.aj 2 D [some (.ref b),some (.ref a.f),some (.ref m.d),some (.int kd),x4,some (.int t),some (.ref sl),x7,x8,x9,Kt] H2:=fun H2 k2 h2 B2 K2 hk2=>
    ⟨b,k2,kp,a,m,ps,ts,L,pk,R,N,rs,ws,ms,cs,G,t,kd,sl,x4,x7,x8,x9,Kt,rfl,B2,hk2,by lia,A0,zO,kb K2,pF,K2 _ _ AZ mq,AZ,fun _=>tL (by decide),hR,hN,q.step K2 B B2⟩
   have hW:=Z.G.W.len
   have Me:t<ps.length:=by
    have:=(List.getElem?_eq_some_iff.mp pF).1
    lia
   refine⟨_,rfl,rfl,_,rfl,?_⟩;refine oH (fun _=> ?_) (fun _=>next H1 k (by lia) B (Kept.refl b H1) (by lia));refine⟨_,rfl,_,0,rfl,rfl,_,rfl,?_⟩;refine oH (fun h0=> ?_) (fun _=>next H1 k (by lia) B (Kept.refl b H1) (by lia));have h0:=of_decide_eq_true h0;refine⟨_,rfl,b,2,k,rfl,B,by lia,by decide,by decide,fun r H2 r0 r1 B2 O2=>⟨rfl,_,rfl,?_⟩⟩;refine oH (fun _=> ?_) (fun _=>next H2 (k+1) (by lia) B2 O2.kept (by lia));have Z2:=kb O2.kept;obtain⟨dx,ho⟩:=Z2.h.ob;refine⟨_,rfl,a.f,dx,_,rfl,ho,aR (by decide+kernel),_,rfl,a.f,a.pa,a.ta,ps,ts,t,rfl,Z2.h.fr,Z.G.W,rW pF,by lia,fun l H5 Ec hl5 F5 K5=> ?_⟩;obtain⟨o1,o2,o3,o4,o5⟩:=Z2.h.Aj;have m5:aC H5 m ps ts L pk R ws ms cs G:=Z2.mo.kept fun c o hc e=>K5 c o (fun z=>Z.ap _ o2 (z▸hc)) (fun z=>Z.ap _ o3 (z▸hc)) e
   have nlm:¬l∈m.own:=fun z=>by
    obtain⟨o,e⟩:=Z2.mo.al l z;rw[Ec] at e;cases e
   refine⟨_,rfl,_,rfl,m,ps,ts,L,pk,R,ws,ms,cs,G,t,rfl,m5,Z.G.W,by lia,fun l' H6 G' amy afB W6 p3 p4=> ?_⟩;refine⟨l,l',_,_,rfl,rfl,p3 _ _ nlm hl5,afB,.inr ⟨rfl,lF _,lF _,?_⟩⟩;show D.rt (.bl (vy ((bx ps ts t).map nV) ((bx ps ts t).map nV))) H6;rw[CJ];obtain⟨Z6,v6,Hg⟩:=Z2.finish (by lia) Me F5 K5 W6 p3 p4;exact(q.step O2.kept B B2) a m ps _ pk R N rs ws ms cs G' H6 Z6 rfl rfl (fun c hc=> .inl hc) (fun c hc=> .inl hc) (fun c o _ h1 h2 e=>v6 c o h1 h2 e) Hg ((B2.kept fun o e=>v6 b o A0 zO e).mono (by lia)) (by rw[mK];exact Nat.le_succ _) (by lia) ⟨[],(List.append_nil R).symm⟩
  case Q2=>
   rintro D σ H1 ⟨b,k,kp,a,m,ps,ts,L,pk,R,N,rs,ws,ms,cs,G,t,kd,sl,x4,x7,x8,x9,Kt,rfl,B,hk,V2,A0,zO,Z,pF,mq,AZ,tL,hR,hN,q⟩
   refine⟨_,rfl,_,6,rfl,rfl,_,rfl,?_⟩
   have mk:∀(D' :Ends) (H2:Hp),(∀H',D.rt (.bl true) H'→D'.rt (.bl true) H')→aw H1 H2→uT A.aj 0 D' [some (.ref b),some (.ref a.f),some (.ref m.d),some (.int kd),x4,some (.int t),some (.ref sl),x7,x8,x9,Kt] H2:=fun D' H2 hD s2=>
    ⟨b,k,kp,a,m,ps,ts,L,pk,R,N,rs,ws,ms,cs,G,t,kd,sl,x4,x7,x8,x9,Kt,rfl,B.same s2,hk,by lia,A0,zO,Z.same s2,pF,s2 _ _ mq,AZ,(fun h=>absurd h (by decide)),hR,hN,fun a' m' FC ts' MI R' N' Mx H_ KC MF G' H' z1 z2 z3 z4 z5 z6 z7 z8 z9 z10 z11=>hD _ ((q.step s2.kept B (B.same s2)) a' m' FC ts' MI R' N' Mx H_ KC MF G' H' z1 z2 z3 z4 z5 z6 z7 z8 z9 z10 z11)⟩
   refine oH (fun _=>mk _ H1 (fun _ h=>h) (aw.refl H1)) (fun _=> ?_);refine⟨_,rfl,(show 0≤sizeLine by decide),fun e0 Fp=> ?_⟩;have s2:=aw.upd (o:= .lst []) Fp;have e2:upd H1 e0 (.lst []) e0=some (.lst []):=af;generalize upd H1 e0 (.lst [])=H2 at s2 e2;have hlen:=j5 ws ((au ts).flatMap (aS R));by_cases hz:(au ts).flatMap (aS R)=[]
   ·rw[hz] at mq;refine⟨sl,e0,[],[],rfl,rfl,s2 _ _ mq,e2,.inr ⟨rfl,rfl,rfl,_,rfl,eT (mk _ H2 (fun _ h=>h) s2)⟩⟩
   ·have z_:0<((au ts).flatMap (aS R)).length:=List.length_pos_iff.mpr hz;refine⟨sl,e0,_,[],rfl,rfl,s2 _ _ mq,e2,.inl ⟨by show(wf ws ((au ts).flatMap (aS R))).length≠0;lia,_,rfl,dH ?_⟩⟩;exact⟨b,k,kp,a,m,ps,ts,L,pk,R,N,rs,ws,ms,cs,G,t,kd,sl,x4,x7,x8,x9,Kt,rfl,B.same s2,by lia,by lia,A0,zO,Z.same s2,pF,s2 _ _ mq,AZ,fun _=>hz,hR,hN,q.step s2.kept B (B.same s2)⟩
  case afH=>
   rintro D σ H1 ⟨b,k,kp,a,m,ps,ts,L,pk,R,N,rs,ws,ms,cs,G,t,kd,sl,x4,x7,x8,x9,Kt,rfl,B,hk,V2,A0,zO,Z,pF,mq,AZ,tL,hR,hN,q⟩
   have kb:∀{H' :Hp},Kept b H1 H'→gD A.aj H' a m ps ts L pk R N rs ws ms cs G:=fun K' =>Z.kept (fun c o hc e=>K' c o (fun z=>by rcases hc with h|h;exact A0 (z▸h);exact zO (z▸h)) e) (KZ K' B);refine⟨_,rfl,(show 2≤sizeLine by decide),fun p hp=> ?_⟩;have s2:=aw.upd (o:= .lst [V.int 3,V.int 6]) hp;have e2:upd H1 p (.lst [V.int 3,V.int 6]) p=some (.lst [V.int 3,V.int 6]):=af;generalize upd H1 p (.lst [V.int 3,V.int 6])=H2 at s2 e2
   have Q0:p≠b:=fun z=>by
    obtain⟨x,y,u,e,_⟩:=B;rw[z,e] at hp;cases hp
   refine⟨_,rfl,b,2,k,rfl,B.same s2,by lia,by decide,by decide,fun r H3 r0 r1 B3 O3=> ?_⟩;refine mG (fun v=>∃i:Int,v= .int i∧0<i∧i≤6) (O3.kept _ _ Q0 e2) r0 r1 ?_ fun v hv=> ?_
   ·intro x hx;simp only[List.mem_cons,List.not_mem_nil,or_false] at hx;rcases hx with rfl|rfl
    ·exact⟨3,rfl,by decide,by decide⟩
    ·exact⟨6,rfl,by decide,by decide⟩
   obtain⟨i,rfl,i0,i6⟩:=hv;refine⟨b,i,k+1,rfl,B3,by lia,i0,by lia,fun r H4 r0 r1 B4 O4=>⟨1,r,rfl,rfl,?_⟩⟩;dsimp only;obtain⟨n,hn⟩:∃n:Nat,1+r=n:=⟨(1+r).toNat,by lia⟩;rw[hn];have n1:1≤n:=by lia
   have n6:n≤6:=by lia
   have K4:Kept b H1 H4:=(s2.kept.trans O3.kept).trans O4.kept;have Z4:=kb K4;have hW:=Z.G.W.len;have Fx:=Z.G.ts;have Me:t<ts.length:=(List.getElem?_eq_some_iff.mp pF).1;refine⟨_,rfl,_,rfl,m.d,_,rfl,Z4.mo.getL,_,rfl,m,ps,ts,L,pk,R,ws,ms,cs,G,rfl,Z4.mo,Z.cz,by lia,fun r hr=>(Z.G.rw r hr).2.1,fun H5 s5=>⟨(L:Int),_,rfl,rfl,_,_,rfl,rfl,_,rfl,?_⟩⟩;have Z5:=Z4.same s5;have K5:Kept b H1 H5:=K4.trans s5.kept;have B5:=B4.same s5;have q5:=q.step K5 B B5;refine oH (fun _=> ?_) (fun Xi=> ?_)
   ·exact q5 a m ps ts pk R N rs ws ms cs G H5 Z5 rfl rfl (fun c hc=> .inl hc) (fun c hc=> .inl hc) (fun c o _ _ _ e=>e) (fun c xs e=>e) (B5.mono (by lia)) (Nat.le_succ _) (by lia) ⟨[],(List.append_nil R).symm⟩
   ·have Xi:¬((L:Int) - (cg ts R:Nat)<(n:Int)):=fun z=>Xi (decide_eq_true z);have hle:cg ts R+n≤L:=by lia
    obtain⟨dx,ho⟩:=Z5.h.ob;refine⟨_,rfl,a.f,dx,_,rfl,ho,aR (by decide+kernel),_,rfl,_,rfl,a,ps,ts,L,pk,R,N,rs,cs,t,n,rfl,Z5.h,Z.cl,Z.G,pF,n1,n6,by lia,by lia,hle,fun oa r H6 l F6 sa ga D0 Hg Ec hl6=> ?_⟩;have M6:aC H6 m ps ts L pk R ws ms cs G:=Z5.mo.kept fun c o hc e=>D0 c o (fun z=>Z.ap c z hc) e;refine⟨_,rfl,_,rfl,_,rfl,m,ps,ts,L,pk,R,ws,ms,cs,G,t,n,rfl,M6,hW,by lia,by lia,Z.cl,Z.cz,fun r hr=>⟨(Z.G.rw r hr).1,(Z.G.rw r hr).2.1⟩,pF,n1,n6,fun m' wt r' H7 W7 p7 Kr=> ?_⟩;obtain⟨p1,p2,p3,p4⟩:=p7;refine⟨eL t (bF R t),eL t (bF R t),.tup (p4 _ _ hl6) (.cons (.int _) (.cons (.int _) .nil)),.tup Kr (.cons (.int _) (.cons (.int _) .nil)),u9 _ _,u9 _ _,Lz _ _,?_⟩;rw[PySem.Spec.same_self]
    have nm:∀c∈oa,¬c∈m.own:=fun c hc z=>by
     rcases ga c hc with h|h
     ·exact Z.ap c h z
     ·obtain⟨o,e⟩:=Z5.mo.al c z;rw[h] at e;cases e
    have F7:aQ A.aj H7 {a with own:=oa} ps ts L (max pk (cg ts R+n)) (R++[(t,n)]) (N+2) (rs++[r]) (cs++[List.replicate n .bC]):=F6.kept fun c o hc e=>p3 c o (nm c hc) e
    have G7:Good ps ts L (max pk (cg ts R+n)) (R++[(t,n)]):=by
     refine⟨Z.G.W,Z.G.g,fun r hr=> ?_,Z.G.lo,Z.G.hi,by rw[oB R n pF];exact hle,by have:=Z.G.pk;have:=Z.G.hi;lia⟩;rcases List.mem_append.mp hr with hr|hr
     ·exact Z.G.rw r hr
     ·simp only[List.mem_singleton] at hr;subst hr;exact⟨n1,n6,by show t<ps.length;lia⟩
    have ap7:∀c∈oa,¬c∈m'.own:=fun c hc z=>by
     rcases p2 c z with h|h
     ·exact nm c hc h
     ·obtain⟨o,e⟩:=F6.al c hc;rw[h] at e;cases e
    have Km:∀c xs,H5 c=some (.tup xs)→H7 c=some (.tup xs):=fun c xs e=>p4 c xs (Hg c xs e);obtain⟨oS,c5⟩:=Z5.ok;refine q5 {a with own:=oa} m' ps ts _ (R++[(t,n)]) (N+2) _ (ws++[wt]) _ _ G H7 ⟨F7,W7,G7,by rw[List.length_append,List.length_append,Z.cl];rfl,fun i vs e=> ?_,⟨_,(c5.snoc n6).kt Km⟩,ap7⟩ rfl p1 (fun c hc=> ?_) (fun c hc=> ?_) (fun c o _ h1 h2 e=>p3 c o h2 (D0 c o h1 e)) Km ?_ (by rw[List.length_append];show R.length+1+_≤_;lia) (Nat.le_refl _) ⟨_,rfl⟩
    ·by_cases hi:i<cs.length
     ·rw[List.getElem?_append_left hi] at e;rw[d4 (by rw[←Z.cl];exact hi)];exact Z.cz i vs e
     ·rw[List.getElem?_append_right (by lia)] at e
      have Le:i - cs.length=0:=by
       have:=(List.getElem?_eq_some_iff.mp e).1;simp at this
       lia
      rw[Le] at e;cases e;have:i=R.length:=by rw[←Z.cl];lia
      subst this;rw[wv,List.length_replicate]
    ·exact ga c hc
    ·rcases p2 c hc with h|h
     ·exact .inl h
     ·refine .inr ?_
      cases e:H5 c with
      |none=>rfl
      |some o=>
       by_cases z:c∈a.own
       ·obtain⟨o',e'⟩:=F6.al c (sa c z);rw[h] at e';cases e'
       ·have:=D0 c o z e;rw[h] at this;cases this
    ·exact(B5.kept fun o e=>p3 b o zO (D0 b o A0 e)).mono (by lia)
  have kb:∀{H' :Hp},Kept b H H'→gD A.aj H' a m ps ts L pk R N rs ws ms cs G:=fun K' =>Z.kept (fun c o hc e=>K' c o (fun z=>by rcases hc with h|h;exact A0 (z▸h);exact zO (z▸h)) e) (KZ K' B);have Fx:=Z.G.ts;have hW:=Z.G.W.len;refine⟨_,rfl,b,12,k,rfl,B,by lia,by decide,by decide,fun kd H1 _ _ B1 O1=> ?_⟩;have Z1:=kb O1.kept;refine⟨_,rfl,m,ps,ts,L,pk,R,ws,ms,cs,G,rfl,Z1.mo,by lia,fun st H2 iP s2 FP=> ?_⟩
  have tL:au ts≠[]:=fun z=>by
   have:0∈au ts:=cw.mpr (by rw[Z.G.g];rfl);rw[z] at this;cases this
  have z_:0<(au ts).length:=List.length_pos_iff.mpr tL;have alf:(au ts).length≤1000:=Nat.le_trans (gk ts) (by lia)
  have nst:st≠b:=fun z=>by
   obtain⟨x,y,u,e,_⟩:=B1;rw[z,e] at iP;cases iP
  have B2:=B1.same s2;have Wb:((au ts).map nV).length=(au ts).length:=List.length_map ..;refine⟨_,rfl,_,rfl,st,_,rfl,.inl (bD.of FP),_,1,rfl,rfl,_,rfl,_,rfl,st,_,rfl,.inl (bD.of FP),b,_,k+1,rfl,B2,by lia,by lia,by lia,fun r H3 r0 r1 B3 O3=> ?_⟩;have hs3:=O3.kept _ _ nst FP;refine⟨(show 2≤sizeLine by decide),fun p hp=> ?_⟩;have s4:=aw.upd (o:= .lst [V.int ((((au ts).map nV).length:Int) - 1),V.int r]) hp;have e4:upd H3 p (.lst [V.int ((((au ts).map nV).length:Int) - 1),V.int r]) p=some (.lst [V.int ((((au ts).map nV).length:Int) - 1),V.int r]):=af;generalize upd H3 p (.lst [V.int ((((au ts).map nV).length:Int) - 1),V.int r])=H4 at s4 e4
  have Q0:p≠b:=fun z=>by
   obtain⟨x,y,u,e,_⟩:=B3;rw[z,e] at hp;cases hp
  refine⟨_,rfl,b,2,k+2,rfl,B3.same s4,by lia,by decide,by decide,fun r' H5 r0' Y8 B5 O5=> ?_⟩;refine mG (fun v=>∃i:Nat,v= .int i∧i<(au ts).length) (O5.kept _ _ Q0 e4) r0' Y8 ?_ fun v hv=> ?_
  ·intro x hx;simp only[List.mem_cons,List.not_mem_nil,or_false] at hx;rcases hx with rfl|rfl
   ·exact⟨(au ts).length - 1,by congr 1;lia,by lia⟩
   ·exact⟨r.toNat,by congr 1;lia,by lia⟩
  obtain⟨i,rfl,hi⟩:=hv;have hit:(au ts)[i]? =some (au ts)[i]:=by simp[hi]
  have Zv:=O5.kept _ _ nst (s4 _ _ hs3);generalize (au ts)[i]=t at hit;have pF:ts[t]? =some none:=eq_of_beq (cw.mp (List.mem_of_getElem? hit))
  have Me:t<ps.length:=by
   have:=(List.getElem?_eq_some_iff.mp pF).1
   lia
  refine⟨st,_,i,.int t,rfl,rfl,bD.of Zv,d5 (by rw[List.getElem?_map,hit];rfl),?_⟩;have K5:Kept b H H5:=(((O1.kept.trans s2.kept).trans O3.kept).trans s4.kept).trans O5.kept;have Z5:=kb K5;refine⟨_,rfl,m,ps,ts,L,pk,R,ws,ms,cs,G,rfl,Z5.mo,hW,by lia,by lia,fun sl H6 mq s6 Sn=> ?_⟩;have K6:Kept b H H6:=K5.trans s6.kept;have Z6:=kb K6;have B6:=B5.same s6
  have AZ:sl≠b:=fun z=>by
   obtain⟨x,y,u,e,_⟩:=B5;rw[z,e] at mq;cases mq
  have q6:=q.step K6 B B6
  have next:uT A.aj 0 {nx:=fun _ H' =>Q .bC H',rt:=Q} [some (.ref b),some (.ref a.f),some (.ref m.d),some (.int kd),some (.ref st),some (.int t),some (.ref sl),none,none,none,none] H6:=
   ⟨b,k+3,k+12,a,m,ps,ts,L,pk,R,N,rs,ws,ms,cs,G,t,kd,sl,_,_,_,_,_,rfl,B6,by lia,by lia,A0,zO,Z6,pF,Sn,AZ,(fun h=>absurd h (by decide)),hR,hN,q6⟩
  refine⟨_,rfl,_,2,rfl,rfl,_,rfl,?_⟩;refine oH (fun _=> ?_) (fun _=>next);refine⟨_,rfl,m.d,_,rfl,Z6.mo.Kx,m.bl,_,rfl,.inl (bD.of Z6.mo.tl),_,12,rfl,rfl,_,rfl,?_⟩;rw[List.length_map];refine oH (fun h12=> ?_) (fun _=>next);have h12:=of_decide_eq_true h12;obtain⟨dx,ho⟩:=Z6.h.ob;refine⟨_,rfl,a.f,dx,_,rfl,ho,aR (by decide+kernel),_,rfl,a.f,a.pa,a.ta,ps,ts,t,rfl,Z6.h.fr,hW,rW pF,by lia,fun H7 F7 K7=> ?_⟩;obtain⟨o1,o2,o3,o4,o5⟩:=Z6.h.Aj;have m7:aC H7 m ps ts L pk R ws ms cs G:=Z6.mo.kept fun c o hc e=>K7 c o (fun z=>Z.ap _ o2 (z▸hc)) (fun z=>Z.ap _ o3 (z▸hc)) e;refine⟨_,rfl,_,rfl,m,ps,ts,L,pk,R,ws,ms,cs,G,t,rfl,m7,hW,by lia,fun r hr=>(Z.G.rw r hr).2.2,fun m' H8 W8 p8=> ?_⟩;obtain⟨Z8,ed,g8,v8,Yn⟩:=Z6.begin Me (by lia) F7 K7 W8 p8;refine⟨rfl,?_⟩;rw[decide_eq_true (rfl:V.int (ps.length:Nat)=V.int (ps.length:Nat))];exact q6 a m' _ _ pk R N rs ws ms cs G H8 Z8 rfl ed (fun c hc=> .inl hc) g8 (fun c o _ h1 h2 e=>v8 c o h1 h2 e) Yn ((B6.kept fun o e=>v8 b o A0 zO e).mono (by lia)) (by rw[List.length_append];exact Nat.le_refl _) (by lia) ⟨[],(List.append_nil R).symm⟩
end
def kM(ps ts:ay)(R:Rm)(t:Nat):List Nat:=((au ts).flatMap (aS R)).filter fun i=>decide (t∈hZ ps (R.getD i (0,0)).1)
section
variable{P:Program}{w:World}{K:Frag}{mg:Str→aN}{base:Heap}{A:qH}
def MN:Sp:=fun vs H Q _=>∃m ps ts L top R ws ms cs G,∃t:Nat,vs=[.ref m.d,.int t]∧aC H m ps ts L top R ws ms cs G∧WF ps ts∧R.length≤1000∧(∀r∈R,r.1<ps.length)∧((au ts).flatMap (aS R)).length≤1000∧
 ∀l H',H l=none→aw H H'→H' l=some (.lst (wf ws (kM ps ts R t)))→Q (.ref l) H'
theorem vV(T:Txt K mg A):bu P w K mg base eF 3 A.lR A.kZ ["_law_world_here","_law_frame"] MN:=by
 have bX:=d0 (P:=P) (w:=w) (base:=base) T;have pw:=(sF (P:=P) (w:=w) (base:=base) T).mono (by decide:_≤2);refine T.pI.ok vT (fun vs H Q E h=> ?_) (fun cJ Ar outer s H vs Q E hr h=> ?_)
 ·obtain⟨m,ps,ts,L,top,R,ws,ms,cs,G,t,rfl,_⟩:=h;rfl
 ·obtain⟨m,ps,ts,L,top,R,ws,ms,cs,G,t,rfl,W,Ri,hR,X4,hIl,q⟩:=h;have hu:=dv hr;have hl:=Ri.len;have hle:=Ri.le;refine⟨_,(aq (aH (b9 (N:=["_law_way","_law_frame","_law_world_here"]) (k:=1) (js:=[1,0]) rfl (bq (by kernel_rfl)) (cQ (aA bX hr rfl T.eN T.dk.kp T.eM .nil aB (aa (pv 0) ae))) (fun _ _ _ _ _=>⟨(a_ (i:=0) (show(["_law_way","_law_frame","_law_world_here"]:aO).Nodup by decide+kernel) rfl (Or.inl rfl) (Or.inr rfl)),(xm (ba (oO (K:=K) rfl) (pv 1) (aA pw hr rfl T.uB T.oX.kp T.uR .nil aB (aa (pv 2) (aa (bb (MP (K:=K) rfl) (pv 0) ao (fun _ _=>rfl)) ae))) (by with_unfolding_all rfl))),(pv 0)⟩)))),?_⟩;refine⟨_,rfl,m,ps,ts,L,top,R,ws,ms,cs,G,rfl,W,hl,by lia,hR,fun sl H1 mq s1 zI=> ?_⟩;have Iy:=j5 ws ((au ts).flatMap (aS R));refine⟨sl,rfl,⟨_,bD.of zI⟩,?_⟩;have W1:=W.same s1;refine gU (fun j=>decide (t∈hZ ps (R.getD (((au ts).flatMap (aS R)).getD j 0) (0,0)).1)) (fun j=>V.ref (ws.getD (((au ts).flatMap (aS R)).getD j 0) 0)) (gJ (bD.of zI)).g ?_ ?_ fun l H2 vi s2 hL=> ?_
  ·rw[Iy];exact Nat.le_of_lt (bJ (by lia))
  ·intro j x H' C1 C0 hj sm hx c1 c0;rw[Iy] at hj;have ei:=cj 0 hj;generalize ((au ts).flatMap (aS R)).getD j 0=i at ei c1 c0;unfold wf at hx;rw[List.getElem?_map,ei] at hx;cases hx;have hi:i<R.length:=HZ i (List.mem_of_getElem? ei);have M' :=W1.same sm;have ew:=(M'.way i hi).2;have hn:(R.getD i (0,0)).1<ps.length:=X4 _ (xz hi);refine⟨(dU.refl _).own (by decide),_,rfl,_,rfl,_,rfl,_,_,0,_,rfl,rfl,mr.of ew,rfl,m,ps,ts,L,top,R,ws,ms,cs,G,(R.getD i (0,0)).1,rfl,M',Ri,hn,fun rl H3 Ij s3 U7=> ?_⟩;refine⟨rl,_,rfl,.inl (bD.of U7),rfl,lF _,_,rfl,?_⟩;have e:EC (V.int (t:Int)) ((hZ ps (R.getD i (0,0)).1).map nV)=decide (t∈hZ ps (R.getD i (0,0)).1):=ug t _;show if EC (V.int (t:Int)) ((hZ ps (R.getD i (0,0)).1).map nV)=true then _ else _
   rw[e]
   cases hd:decide (t∈hZ ps (R.getD i (0,0)).1) with
   |true=>exact eT ⟨_,rfl,c1 hd H3 s3⟩
   |false=>exact dH (c0 hd H3 s3)
  ·rw[Iy] at hL;refine q l H2 (s1.free vi) (s1.trans s2) ?_;rw[hL];exact congrArg (fun z=>some (HO.lst z)) (lM ((au ts).flatMap (aS R)) (fun i=>decide (t∈hZ ps (R.getD i (0,0)).1)) (fun i=>V.ref (ws.getD i 0)))
end
end My
namespace L2
open PySem PySem.Spec PySem.SeqAt PyProof.Rows
section
variable{X:Cx}
theorem wY(hu:X.A.units+100<cLine):mh X (compareOp .In) (fun x y H Q=>∃d xs,Dat H x d∧Dat H y (.list xs)∧PyData.canLayAll0 xs=true∧d.canLay0=true∧d.depth≤64∧Q (.bl (xs.any fun y=>PyData.eqv y d)) H):=by
 intro pins s σ H x y v u Q I rx ry h;obtain⟨d,xs,hd,he,c1,c2,c3,q⟩:=h;obtain⟨⟨as,rd⟩,_⟩:=hd.reads I.bE rx;obtain⟨⟨bs,re⟩,_⟩:=he.reads I.bE ry;exact in_list_reads re rd c1 c2 (by have:=Nat.min_le_right (PyData.depthAll xs) d.depth;lia) ⟨.bl _,H,I,rfl,q⟩
theorem xr(hu:X.A.units+100<cLine):mh X (compareOp .NotIn) (fun x y H Q=>∃d xs,Dat H x d∧Dat H y (.list xs)∧PyData.canLayAll0 xs=true∧d.canLay0=true∧d.depth≤64∧Q (.bl (!xs.any fun y=>PyData.eqv y d)) H):=by
 intro pins s σ H x y v u Q I rx ry h;obtain⟨d,xs,hd,he,c1,c2,c3,q⟩:=h;obtain⟨⟨as,rd⟩,_⟩:=hd.reads I.bE rx;obtain⟨⟨bs,re⟩,_⟩:=he.reads I.bE ry;exact notIn_list_reads re rd c1 c2 (by have:=Nat.min_le_right (PyData.depthAll xs) d.depth;lia) ⟨.bl _,H,I,rfl,q⟩
end
end L2
namespace My
open PySem L2 PyProof.Rows
theorem uq{v:V}{k:wn}:∀{kv:bG} {j:Nat},(kv.map (·.1)).Nodup→kv[j]? =some (k,v)→bN kv k=some v
 |[],j,_,e=>by simp at e
 |p::r,0,_,e=>by
  have:p=(k,v):=by simpa using e
  subst this;exact cT rfl
 |p::r,j+1,h,e=>by
  have e:r[j]? =some (k,v):=by simpa using e
  rw[List.map_cons,List.nodup_cons] at h;have hn:¬p.1=k:=fun z=>h.1 (z▸List.mem_map.mpr ⟨(k,v),List.mem_of_getElem? e,rfl⟩);rw[cC hn];exact uq h.2 e
theorem LD{ps ts:ay}{t n:Nat}:n∈bx ps ts t↔n∈au ts∧t∈hZ ps n:=by
 unfold bx;rw[List.mem_filter,List.mem_reverse];simp
theorem CD{ts:ay}{R:Rm}{i:Nat}:i∈(au ts).flatMap (aS R)↔i<R.length∧(R.getD i (0,0)).1∈au ts:=by
 rw[List.mem_flatMap];constructor
 ·rintro ⟨n,hn,hi⟩
  rw[gH hi];exact⟨dy hi,hn⟩
 ·rintro ⟨hi,hn⟩
  exact⟨_,hn,jj hi⟩
theorem rC{ps ts:ay}{R:Rm}{t i:Nat}:i∈kM ps ts R t↔i<R.length∧(R.getD i (0,0)).1∈bx ps ts t:=by
 unfold kM;rw[List.mem_filter,CD,LD,decide_eq_true_iff];constructor
 ·rintro ⟨⟨h1,h2⟩,h3⟩
  exact⟨h1,h2,h3⟩
 ·rintro ⟨h1,h2,h3⟩
  exact⟨⟨h1,h2⟩,h3⟩
theorem sI{α β:Type}(f:α→List β)(p:β→Bool)(q:α→Bool):∀l:List α,(∀n∈l,∀i∈f n,p i=q n)→(l.flatMap f).filter p=(l.filter q).flatMap f
 |[],_=>rfl
 |a::r,h=>by
  have ih:=sI f p q r fun n hn=>h n (List.mem_cons_of_mem _ hn);rw[List.flatMap_cons,List.filter_append,ih]
  cases e:q a with
  |true=>
   rw[List.filter_cons_of_pos e,List.flatMap_cons,List.filter_eq_self.mpr fun i hi=>by rw[h a List.mem_cons_self i hi];exact e]
  |false=>
   rw[List.filter_cons_of_neg (by rw[e];decide),List.filter_eq_nil_iff.mpr (fun i hi=>by rw[h a List.mem_cons_self i hi,e];decide),List.nil_append]
theorem FR(a b:Nat):((a:Int)==(b:Int))=decide (a=b):=by
 by_cases h:a=b
 ·subst h;simp
 ·have:(a:Int)≠b:=by lia
  simp[h,this]
theorem Dx(f p f' p' :Nat):PyData.eqv (eL f p) (eL f' p')=decide (f=f'∧p=p'):=by
 simp[eL,PyData.eqv,PyData.eqvAll,FR]
theorem uQ{H:Hp}{ps ts:ay}{R:Rm}{t:Nat}{v:V}{o:Option Nat}(h:c_ H R v o):∃d,mi H v d∧Dat H v d∧d.canLay0=true∧d.depth≤64∧(((D5 R (kM ps ts R t)).map fun x=>eL x.1 x.2).any fun y=>PyData.eqv y d)=jF R (bx ps ts t) o∧(jF R (bx ps ts t) o=true→d=wD R o):=by
 rcases h with⟨rfl,rfl|⟨i,rfl⟩⟩|⟨i,a,rfl,rfl,hi,ha⟩
 ·refine⟨.none,.bC,.bC,rfl,by decide,?_,fun z=>by cases z⟩;refine List.any_eq_false.mpr fun y hy=> ?_;obtain⟨x,_,rfl⟩:=List.mem_map.mp hy;simp[eL,PyData.eqv]
 ·refine⟨.int i,.int i,.int i,rfl,by simp[PyData.depth],?_,fun z=>by cases z⟩;refine List.any_eq_false.mpr fun y hy=> ?_;obtain⟨x,_,rfl⟩:=List.mem_map.mp hy;simp[eL,PyData.eqv]
 ·refine⟨eL (R.getD i (0,0)).1 (bc R i),rP ha,(rP ha).dat,by simp[eL,PyData.canLay0,PyData.canLayAll0],by simp[eL,PyData.depth,PyData.depthAll],?_,fun _=>rfl⟩;show _=decide ((R.getD i (0,0)).1∈bx ps ts t);by_cases z:(R.getD i (0,0)).1∈bx ps ts t
  ·rw[decide_eq_true z];refine List.any_eq_true.mpr ⟨eL (R.getD i (0,0)).1 (bc R i),List.mem_map.mpr ⟨((R.getD i (0,0)).1,bc R i),List.mem_map.mpr ⟨i,rC.mpr ⟨hi,z⟩,rfl⟩,rfl⟩,?_⟩;rw[Dx];simp
  ·rw[decide_eq_false z];refine List.any_eq_false.mpr fun y hy=> ?_;obtain⟨x,hx,rfl⟩:=List.mem_map.mp hy;obtain⟨j,hj,rfl⟩:=List.mem_map.mp hx;rw[Dx];intro e;have e:=(of_decide_eq_true e).1;exact z (e▸(rC.mp hj).2)
section
variable{P:Program}{w:World}{K:Frag}{mg:Str→aN}{base:Heap}{A:qH}
def Mv:Sp:=fun vs H Q _=>∃m ps ts L top R ws ms cs G oS d kv ns oh,∃t:Nat,vs=[.ref m.d,.int t,.ref d]∧aC H m ps ts L top R ws ms cs G∧WF ps ts∧R.length≤1000∧(∀r∈R,1≤r.2∧r.1<ps.length)∧((au ts).flatMap (aS R)).length≤1000∧fY H R cs oS∧cf H R d kv ns oh∧ns.length≤1000∧(kv.map (·.1)).Nodup∧¬d∈m.own∧
 ∀l ys H',H l=none→aw H H'→H' l=some (.lst ys)→bK H' ys (n_ ts R (bx ps ts t) ns oh oS)→ys.length≤10000→Q (.ref l) H'
theorem vk(T:Txt K mg A):bu P w K mg base eF 4 A.kq A.lY ["_law_world_here","_law_frame","_law_hands_here"] Mv:=by
 have bX:=(d0 (P:=P) (w:=w) (base:=base) T).mono (by decide:_≤3);have xS:=vV (P:=P) (w:=w) (base:=base) T;refine T.pZ.ok fg (fun vs H Q E h=> ?_) (fun cJ Ar outer s H vs Q E hr h=> ?_)
 ·obtain⟨m,ps,ts,L,top,R,ws,ms,cs,G,oS,d,kv,ns,oh,t,rfl,_⟩:=h;rfl
 ·obtain⟨m,ps,ts,L,top,R,ws,ms,cs,G,oS,d,kv,ns,oh,t,rfl,W,Ri,hR,X4,hIl,hC,hd,AY,hnd,hdm,q⟩:=h;have hu:=dv hr;have AX:_+100<cLine:=Nat.lt_of_le_of_lt (Nat.add_le_add_left (by decide:100≤16*3+200) _) (by have:=hr.un;omega);have hl:=Ri.len;have hle:=Ri.le;have Wo:(3:Nat)≤sizeLine:=by decide
  have V8:(4:Nat)≤sizeLine:=by decide
  have An:(kM ps ts R t).length≤1000:=Nat.le_trans (List.length_filter_le _ _) hIl;have Kz:PyData.canLayAll0 ((D5 R (kM ps ts R t)).map fun x=>eL x.1 x.2)=true:=uo _;refine⟨_,(ai (aZ (i:=3) fg.nd rfl (Or.inr rfl) (aA xS hr rfl T.xU T.pI.kp T.yj .nil aB (aa (pv 0) (aa (pv 1) ae)))) (ai (C4 (xx (i:=4) fg.nd rfl (Or.inl rfl) (N:=["_law_name","_law_hands_here","_law_inner_here"]) (k:=1) (js:=[2,3]) rfl (bq (by kernel_rfl)) (CB (pv 2)) (fun _ _ _ _ _=>⟨(a_ (i:=0) (show(["_law_name","_law_hands_here","_law_inner_here"]:aO).Nodup by decide+kernel) rfl (Or.inl rfl) (Or.inr rfl)),(xm (ba (wY AX) (aX hu (pv 1) (pv 0) (fun _ _=>rfl)) (pv 2) (by with_unfolding_all rfl))),(gT (aa aM (aa (pv 0) (aa (aX hu (pv 1) (pv 0) (fun _ _=>rfl)) ae))))⟩))) (ai (ir PassesOwn.never rfl (cQ (aA bX hr rfl T.eN T.dk.kp T.eM .nil aB (aa (pv 0) ae))) (a_ (i:=5) fg.nd rfl (Or.inr rfl) (Or.inl rfl)) (aq (b_ (ba (xr AX) (pv 5) (pv 3) (by with_unfolding_all rfl)) (ai (aZ (i:=6) fg.nd rfl (Or.inr rfl) (aX hu (aX hu (pv 0) aM (fun _ _=>rfl)) (pv 5) (fun _ _=>rfl))) (aq (bB (iq plainAttrs_list slot_list_extend type_list_extend sd (pv 4) (aa (b9 (N:=["_law_k","_law_holder","_law_cells","_law_inner_here"]) (k:=1) (js:=[5,6,3]) rfl (bq (by kernel_rfl)) (eO rfl T.gu (aa (aT bp (by rfl) T.fK Boot.«len» (aa (pv 6) ae)) ae)) (fun _ _ _ _ _=>⟨(a_ (i:=0) (show(["_law_k","_law_holder","_law_cells","_law_inner_here"]:aO).Nodup by decide+kernel) rfl (Or.inl rfl) (Or.inr rfl)),(xm (ba (wY AX) (bb (pL (K:=K) rfl) (pv 2) (pv 0) (fun _ _=>rfl)) (pv 3) (by with_unfolding_all rfl))),(gT (aa aM (aa (pv 1) (aa (pv 0) (aa (bb (pL (K:=K) rfl) (pv 2) (pv 0) (fun _ _=>rfl)) ae)))))⟩)) ae))))) bh))) (aq (aH (pv 4)))))),?_⟩;refine⟨_,rfl,_,rfl,m,ps,ts,L,top,R,ws,ms,cs,G,t,rfl,W,Ri,hR,fun r hr=>(X4 r hr).2,hIl,fun nl H1 AW s1 E_=> ?_⟩;have W1:=W.same s1;have inD:∀{H' :Hp},(∀c xs,H1 c=some (.tup xs)→H' c=some (.tup xs))→H' nl=some (.lst (wf ws (kM ps ts R t)))→Dat H' (.ref nl) (.list ((D5 R (kM ps ts R t)).map fun x=>eL x.1 x.2)):=fun{H'} sm h=> .lst h (um (fun i hi=>sm _ _ (W1.way i hi).2) fun i hi=>(rC.mp hi).1);have yP:=hd.same s1;refine⟨_,rfl,d,kv,rfl,yP.ob,fun o nf=> ?_⟩;have tq:upd H1 d (.fB o (.dK kv)) d=some (.fB o (.dK kv)):=af
  have kt1:∀c xs,H1 c=some (.tup xs)→upd H1 d (.fB o (.dK kv)) c=some (.tup xs):=fun c xs e=>by
   rw[ah (aG e yP.ob (by intro z;cases z))];exact e
  have afc :upd H1 d (.fB o (.dK kv)) nl=some (.lst (wf ws (kM ps ts R t))):=by
   rw[ah (aG E_ yP.ob (by intro z;cases z))];exact E_
  refine tN (fun j=>jF R (bx ps ts t) (oh.getD j none)) (fun j=> .tuple [.str "hand",.str (ns.getD j ""),wD R (oh.getD j none)]) (t_ tq) (Nat.le_of_lt (bJ (by rw[hd.ln];lia))) ?_ fun ll H4 ys xQ s4 hy Vw ju=> ?_
  ·rintro j x H' C1 C0 hj sm ⟨k,y,hy,rfl⟩ c1 c0
   obtain⟨hke,hnm,Sr⟩:=yP.at_ j k y hy;have hg:eK H' d (kV k) (some y):= .inl ⟨kv,k,.inr ⟨o,sm _ _ tq⟩,rfl,(uq hnd hy).symm⟩;subst hke;have Gv:=(Sr.kt kt1).kt (bI sm);obtain⟨dd,td,da,y1,y2,ea,ew⟩:=uQ (ps:=ps) (ts:=ts) (t:=t) Gv;refine⟨(dU.refl _).own (by decide),_,rfl,_,rfl,d,_,rfl,hg,_,rfl,dd,_,da,inD (fun c xs e=>sm _ _ (kt1 c xs e)) (sm _ _ afc),Kz,y1,y2,_,rfl,?_⟩;rw[ea]
   cases hb:jF R (bx ps ts t) (oh.getD j none) with
   |false=>exact dH (c0 hb H' (aw.refl H'))
   |true=>
    refine eT ⟨_,rfl,_,rfl,_,rfl,d,_,rfl,hg,Wo,fun t2 Ft=> ?_⟩;have s5:=aw.upd (o:= .tup [V.str "hand",.str (ns.getD j ""),y]) Ft;refine c1 hb _ _ s5 (.tup af (.cons (.str _) (.cons (.str _) (.cons ?_ .nil))));rw[←ew hb];exact td.kt (bI s5)
  ·refine⟨d,o,kv,s4 _ _ tq,nf,?_⟩
   have ya:H ll=none:=by
    cases z:H ll with
    |none=>rfl
    |some oo=>
     by_cases zd:ll=d
     ·rw[zd,tq] at xQ;cases xQ
     ·rw[ah zd,s1 _ _ z] at xQ;cases xQ
   have Ye:ll≠d:=fun z=>by rw[z,tq] at xQ;cases xQ
   have YT:aw H1 (upd H4 d (.dK kv)):=fun c oo e=>by
    by_cases z:c=d
    ·subst z;rw[af,←yP.ob];exact e
    ·rw[ah z];refine s4 _ _ ?_;rw[ah z];exact e
   have sX:=s1.trans YT;have QV:upd H4 d (.dK kv) ll=some (.lst ys):=by rw[ah Ye];exact hy
   have dX:=Vw.kt (H' :=upd H4 d (.dK kv)) fun c xs e=>by
    rw[ah (aG e (s4 _ _ tq) (by intro z;cases z))];exact e
   rw[hd.ln] at dX ju;have nX:=YT _ _ E_;generalize upd H4 d (.dK kv)=H5 at YT sX QV nX dX;have W5:=W.same sX
   have vm:∀c∈m.own,c≠ll:=fun c hc z=>by
    obtain⟨oo,e⟩:=W.al c hc;rw[z,ya] at e;cases e
   refine⟨_,rfl,m,ps,ts,L,top,R,ws,ms,cs,G,rfl,W5,hl,by lia,hR,fun sl H6 mq s6 Sn=> ?_⟩;refine⟨sl,rfl,⟨_,bD.of Sn⟩,?_⟩;have Rq:=sX.trans s6;have Kq:=YT.trans s6;have back:∀{H' :Hp},(∀c o,c≠ll→H6 c=some o→H' c=some o)→aC H' m ps ts L top R ws ms cs G:=fun k=>W.kept fun c o hc e=>k c o (vm c hc) (Rq _ _ e)
   have ll1:H1 ll=none:=by
    cases z:H1 ll with
    |none=>rfl
    |some oo=>
     rw[ah Ye,z] at xQ;cases xQ
   have QG:∀{H' :Hp},(∀c o,c≠ll→H6 c=some o→H' c=some o)→∀c xs,H c=some (.tup xs)→H' c=some (.tup xs):=fun k c xs e=>k c _ (ak e ya) (Rq _ _ e);have Ot:∀{H' :Hp},(∀c o,c≠ll→H6 c=some o→H' c=some o)→∀c xs,H1 c=some (.tup xs)→H' c=some (.tup xs):=fun k c xs e=>k c _ (ak e ll1) (Kq _ _ e);have RV:sl≠ll:=(ak QV mq).symm;have WM:nl≠ll:=ak E_ ll1;have Xy:=j5 ws ((au ts).flatMap (aS R));refine fi (K:=K) (a:=sl) (xs:=wf ws ((au ts).flatMap (aS R))) (fun j σ H' =>∃(x5 x6:Option V) (ys:ax),σ=[some (.ref m.d),some (.int t),some (.ref d),some (.ref nl),some (.ref ll),x5,x6]∧H' ll=some (.lst ys)∧bK H' ys (sr R (bx ps ts t) ns oh++mJ R (bx ps ts t) oS ((((au ts).flatMap (aS R)).take j).filter fun i=> !decide ((R.getD i (0,0)).1∈bx ps ts t)))∧ys.length≤1000+6*j∧∀c o,c≠ll→H6 c=some o→H' c=some o) ⟨_,_,ys,rfl,s6 _ _ QV,?_,by lia,fun _ _ _ e=>e⟩ ?_ ?_ ?_
   ·rw[List.take_zero];show bK H6 ys (sr R (bx ps ts t) ns oh++[]);rw[List.append_nil];exact dX.kt (bI s6)
   ·rintro i σ H' _ ⟨x5,x6,ys,_,_,_,_,k⟩
    exact bD.of (k _ _ RV Sn)
   ·rintro j v σ H7 hv ⟨x5,x6,ys,rfl,E1,D6,WA,k7⟩
    unfold wf at hv;rw[List.getElem?_map] at hv
    cases en:((au ts).flatMap (aS R))[j]? with
    |none=>rw[en] at hv;cases hv
    |some i=>
     rw[en] at hv;cases hv;have FD:j<((au ts).flatMap (aS R)).length:=(List.getElem?_eq_some_iff.mp en).1;obtain⟨hi,iP⟩:=CD.mp (List.mem_of_getElem? en);have OY:((au ts).flatMap (aS R)).take (j+1)=((au ts).flatMap (aS R)).take j++[i]:=by rw[List.take_add_one,en];rfl
     have W7:=back k7;have hvI:c_ H7 R (.ref (ws.getD i 0)) (some i):= .inr ⟨i,_,rfl,rfl,hi,(W7.way i hi).2⟩;obtain⟨dd,td,da,y1,y2,ea,ew⟩:=uQ (ps:=ps) (ts:=ts) (t:=t) hvI;refine⟨_,rfl,_,rfl,dd,_,da,inD (Ot k7) (k7 _ _ WM (Kq _ _ E_)),Kz,y1,y2,_,rfl,?_⟩;rw[ea];have Ud:jF R (bx ps ts t) (some i)=decide ((R.getD i (0,0)).1∈bx ps ts t):=rfl;rw[Ud]
     cases Vj:decide ((R.getD i (0,0)).1∈bx ps ts t) with
     |true=>
      refine dH ⟨_,_,ys,rfl,E1,?_,by lia,k7⟩;rw[OY,List.filter_append,List.filter_cons,Vj];simp only[Bool.not_true,Bool.false_eq_true,if_false,List.filter_nil,List.append_nil];exact D6
     |false=>
      refine eT ?_;obtain⟨xs,e2,e4,e5⟩:=W7.at_ (fun r hr=>(X4 r hr).1) (nz hi (eq_of_beq (cw.mp iP)));obtain⟨c6,cln,cvi⟩:=(hC.kt (QG k7)) i xs e2;refine⟨_,rfl,m.d,_,rfl,W7.GB,_,rfl,m.ca,_,rfl,e4,?_⟩;refine⟨_,rfl,.inl ⟨rfl,_,bD.of E1⟩,_,rfl,ms.getD i 0,_,rfl,.inl (bD.of e5),?_⟩;refine⟨_,rfl,by lia,by lia,?_⟩;rw[Int.toNat_natCast];have Iy:((List.range xs.length).map fun k:Nat=>V.int (0+(k:Int))).length=xs.length:=by rw[List.length_map,List.length_range]
      refine tN (fun k=>jF R (bx ps ts t) ((oS i).getD k none)) (fun k=> .tuple [.str "room",wD R (some i),.int k,wD R ((oS i).getD k none)]) (sk 0 xs.length H7).g (by rw[Iy];exact Nat.le_trans c6 (by decide)) ?_ fun p H8 zs hp s8 hz hdz SF=> ?_
      ·intro k x H' C1 C0 hk sm hx c1 c0;rw[Iy] at hk;rw[List.getElem?_map,List.getElem?_range hk] at hx
       obtain rfl:x= .int (k:Int):=by
        have hx:some (V.int (0+(k:Int)))=some x:=hx;rw[Int.zero_add] at hx;cases hx;rfl
       have hxk:xs[k]? =some xs[k]:=by simp[hk]
       have Gv:=(cvi k _ hxk).kt (bI sm);obtain⟨dd,td,da,y1,y2,ea,ew⟩:=uQ (ps:=ps) (ts:=ts) (t:=t) Gv;refine⟨(dU.refl _).own (by decide),_,rfl,_,rfl,ms.getD i 0,_,k,xs[k],rfl,rfl,bD.of (sm _ _ e5),d5 hxk,_,rfl,dd,_,da,inD (fun c xs e=>sm _ _ (Ot k7 c xs e)) (sm _ _ (k7 _ _ WM (Kq _ _ E_))),Kz,y1,y2,_,rfl,?_⟩;rw[ea]
       cases hb:jF R (bx ps ts t) ((oS i).getD k none) with
       |false=>exact dH (c0 hb H' (aw.refl H'))
       |true=>
        refine eT ⟨_,rfl,_,rfl,_,rfl,_,rfl,ms.getD i 0,_,k,xs[k],rfl,rfl,bD.of (sm _ _ e5),d5 hxk,V8,fun t2 Ft=> ?_⟩;have s5:=aw.upd (o:= .tup [V.str "room",.ref (ws.getD i 0),.int (k:Int),xs[k]]) Ft;refine c1 hb _ _ s5 (.tup af (.cons (.str _) (.cons ((rP (sm _ _ (W7.way i hi).2)).kt (bI s5)) (.cons (.int _) (.cons ?_ .nil)))));rw[←ew hb];exact td.kt (bI s5)
      ·rw[Iy] at SF hdz;refine⟨ll,p,_,_,rfl,rfl,s8 _ _ E1,hz,?_,?_⟩
       ·have hL:sizeLine=16777216:=by decide
        lia
       ·refine⟨_,_,_,rfl,af,?_,by rw[List.length_append];lia,fun c o h e=>by rw[ah h];exact s8 _ _ (k7 c o h e)⟩;rw[OY,List.filter_append,List.filter_cons,Vj];simp only[Bool.not_false,if_true,List.filter_nil];unfold mJ;rw[List.flatMap_append,←List.append_assoc]
        have Yn:∀c xs,H8 c=some (.tup xs)→upd H8 ll (.lst (ys++zs)) c=some (.tup xs):=fun c xs e=>by
         rw[ah (aG e (s8 _ _ E1) (by intro z;cases z))];exact e
        refine((D6.kt (bI s8)).kt Yn).append ?_;rw[List.flatMap_singleton];rw[←cln] at hdz;exact hdz.kt Yn
   ·rintro σ H7 ⟨x5,x6,ys,rfl,E1,D6,WA,k7⟩
    rw[Xy] at D6 WA;rw[List.take_length,sI (aS R) _ (fun n=> !decide (n∈bx ps ts t)) (au ts) (fun n _ i hi=>by rw[gH hi])] at D6;exact⟨_,rfl,q ll ys H7 ya (fun c o e=>k7 c o (ak e ya) (Rq _ _ e)) E1 D6 (by lia)⟩
end
theorem n9{α:Type}(p q:α→Bool):∀l:List α,(∀x∈l,¬(p x=true∧q x=true))→(l.filter p).length+(l.filter q).length=(l.filter fun x=>p x||q x).length
 |[],_=>rfl
 |a::r,h=>by
  have ih:=n9 p q r fun x hx=>h x (List.mem_cons_of_mem _ hx);have ha:=h a List.mem_cons_self;rw[List.filter_cons,List.filter_cons,List.filter_cons];cases hp:p a<;>cases hq:q a
  ·simp only[Bool.false_eq_true,if_false,Bool.or_self];exact ih
  ·simp only[Bool.false_eq_true,if_false,if_true,Bool.or_true,List.length_cons]
   lia
  ·simp only[Bool.false_eq_true,if_false,if_true,Bool.or_false,List.length_cons]
   lia
  ·exact absurd ⟨hp,hq⟩ ha
theorem uZ(R:Rm):∀S:List Nat,S.Nodup→(S.flatMap (aS R)).length=((List.range R.length).filter fun i=>decide ((R.getD i (0,0)).1∈S)).length
 |[],_=>by
  rw[List.filter_eq_nil_iff.mpr fun i _=>by simp];rfl
 |n::S,h=>by
  rw[List.nodup_cons] at h;rw[List.flatMap_cons,List.length_append,uZ R S h.2];unfold aS;rw[n9 _ _ _ fun i _ z=> ?_]
  ·congr 1
   refine List.filter_congr fun i _=> ?_;generalize (R.getD i (0,0)).1=f;by_cases z:f=n<;>simp[z]
  ·have z1:(R.getD i (0,0)).1=n:=by simpa using z.1
   have z2:(R.getD i (0,0)).1∈S:=by simpa using z.2
   exact h.1 (z1▸z2)
theorem KJ(ts:ay)(R:Rm):((au ts).flatMap (aS R)).length≤R.length:=by
 rw[uZ R _ (jw ts)];refine Nat.le_trans (List.length_filter_le _ _) ?_;rw[List.length_range];exact Nat.le_refl _
def Lt(x:Str):Prop:=∀c∈x.cps.toList,dY c=true
theorem Lt.app{x y:Str}(h:Lt x)(h' :Lt y):Lt (x++y):=by
 intro c hc;rcases mem_cps_append.mp hc with hc|hc
 ·exact h c hc
 ·exact h' c hc
theorem Lt.slice{x:Str}(h:Lt x)(l u:Option Int):Lt (Txt.slice x l u):=by
 intro c hc;unfold Txt.slice at hc
 split at hc
 ·exact h c hc
 ·rw[List.toList_toArray] at hc;obtain⟨i,_,hi⟩:=List.mem_filterMap.mp hc;exact h c (Array.mem_toList_iff.mpr (Array.mem_of_getElem? hi))
theorem Lt.one{c:Nat}(h:dY c=true):Lt ⟨#[c]⟩:=by
 intro d hd;have hd:d∈[c]:=hd;rw[List.mem_singleton.mp hd];exact h
theorem Lt.name{x:Str}(h:Lt x)(h1:1≤x.length)(h6:x.length≤6):cV x=true:=by
 unfold cV;rw[decide_eq_true h1,decide_eq_true h6,List.all_eq_true.mpr h];rfl
theorem iQ{x:Str}{j:Nat}(h:j≤x.length):(Txt.slice x none (some (j:Int))).length=j:=by
 have hl:x.cps.toList.length=x.length:=rfl;rw[beq_iff_eq.mp (slice_closes_toL (x:=x) (j:=(j:Int)) (by lia) (by lia))];show(((x.cps.toList.drop (0:Int).toNat).take ((j:Int) - 0).toNat).toArray).size=j;rw[List.size_toArray,List.length_take,List.length_drop];have e1:((j:Int) - 0).toNat=j:=by lia
 have e2:(0:Int).toNat=0:=rfl;rw[e1,e2]
 lia
theorem tU{x:Str}{j:Nat}(h:j≤x.length):(Txt.slice x (some (j:Int)) none).length=x.length - j:=by
 have hl:x.cps.toList.length=x.length:=rfl;rw[slice_from_eq (x:=x) (i:=(j:Int)) (b:=x.length) (by lia) (by lia) rfl];show(((x.cps.toList.drop (j:Int).toNat).take ((x.length:Int) - (j:Int)).toNat).toArray).size=x.length - j;rw[List.size_toArray,List.length_take,List.length_drop];have e1:((x.length:Int) - (j:Int)).toNat=x.length - j:=by lia
 have e2:(j:Int).toNat=j:=by lia
 rw[e1,e2]
 lia
theorem nK{p:Str→Prop}:∀{ys:ax},(∀v∈ys,∃x,v= .str x∧p x)→∃xs:aO,ys=xs.map V.str∧∀x∈xs,p x
 |[],_=>⟨[],rfl,fun x hx=>by cases hx⟩
 |v::r,h=>by
  obtain⟨x,rfl,hx⟩:=h v List.mem_cons_self;obtain⟨xs,rfl,Bv⟩:=nK (ys:=r) fun u hu=>h u (List.mem_cons_of_mem _ hu)
  exact⟨x::xs,rfl,fun y hy=>by
   rcases List.mem_cons.mp hy with rfl|hy
   ·exact hx
   ·exact Bv y hy⟩
theorem nF{H:Hp}{Q:VK}{i:Int}(h0:0≤i)(h1:i<26)(q:∀c,dY c=true→Q (.str ⟨#[c]⟩) H):Qz (.str "abcdefghijklmnopqrstuvwxyz") (.int i) H Q:=by
 obtain⟨j,rfl⟩:∃j:Nat,i=j:=⟨i.toNat,by lia⟩;have e:("abcdefghijklmnopqrstuvwxyz" :Str).cps.toList=(List.range 26).map (· +97):=by decide+kernel
 have hj:j<26:=by lia
 refine⟨_,_,j+97,rfl,rfl,by decide+kernel,?_,q _ ?_⟩
 ·refine d5 ?_;rw[e,List.getElem?_map,List.getElem?_range hj];rfl
 ·unfold dY;rw[decide_eq_true (by lia),decide_eq_true (by lia)];rfl
section
variable{X:Cx}{c:Expr}{a b:List Stmt}{tc:TT}{t u:TS}{pos:Pos}
theorem _root_.L2.zM:BG X [] Qu:=⟨bh⟩
theorem _root_.L2.I_(hc:PT X c tc)(ha:BG X a t)(hb:BG X b u):Wj X (.If c a b pos) (To tc t u):=⟨b_ hc ha.h hb.h⟩
end
theorem nk{lo:Int}{n k m k0:Nat}{b:Addr}{js:List Nat}{g:TG}{te:TE}{σ:L2.St}{H:Hp}{Q:VK}(R:V→Prop)(hlen:n≤sizeLine)(B:bH H b k0)
 (h8:∀(i:Nat) (H' :Hp) (C1:V→Hp→Prop),i<n→Kept b H H'→bH H' b (k0+i*m)→(∀v gi,R v→bH gi b (k0+i*m+m)→Kept b H' gi→C1 v gi)→
  g (.int (lo+i)) (rO k js σ) H' fun me H2=>dU (rO k js σ) me∧te me H2 C1)
 (hq:∀p H' ys,H p=none→Kept b H H'→bH H' b (k0+n*m)→H' p=some (.lst ys)→ys.length=n→(∀v∈ys,R v)→Q (.ref p) H'):
 jf (OX lo n) k js g K9 te σ H Q:=by
 intro p hp;have UX:p≠b:=B.ne hp
 refine⟨fun i m' ys H' =>m' =n - i∧i≤n∧ys.length=i∧H' p=some (.lst ys)∧Kept b H H'∧bH H' b (k0+i*m)∧∀v∈ys,R v,
  ⟨n,rfl,Nat.zero_le _,rfl,af,(aw.upd hp).kept,by rw[Nat.zero_mul];exact B.same (aw.upd hp),fun v e=>by cases e⟩,?_⟩
 rintro i m' ys H' ⟨rfl,hi,ju,hl,hs,hB,hE⟩
 refine⟨hl,?_⟩;by_cases gB:i<n
 ·refine .inr ⟨gB,by lia,fun x gi hy=> ?_⟩;obtain⟨rfl,rfl⟩:=hy;refine h8 i _ _ gB hs hB fun v H4 r4 B4 s4=> ?_;have Q4:H4 p=some (.lst ys):=s4 _ _ UX hl;refine⟨Q4,n - (i+1),by lia,rfl,gB,by simp[ju],af,fun c o hc e=> ?_,?_,fun v' e=> ?_⟩
  ·rw[ah (ak e hp)];exact s4 _ _ hc (hs _ _ hc e)
  ·obtain⟨x,y,z,hb,r⟩:=B4;refine⟨x,y,z,?_,?_⟩
   ·rw[ah (fun z=>UX z.symm)];exact hb
   ·rw[show k0+(i+1)*m=k0+i*m+m by rw[Nat.succ_mul];lia];exact r
  ·rcases List.mem_append.mp e with e|e
   ·exact hE _ e
   ·rw[List.mem_singleton.mp e];exact r4
 ·have e:i=n:=by lia
  subst e;exact .inl ⟨Nat.le_refl _,hq p H' ys hp hs hB hl ju hE⟩
theorem qa(x y:Str):(x++y).length=x.length+y.length:=by
 show(x.cps++y.cps).size=x.cps.size+y.cps.size;exact Array.size_append
theorem afl(c:Nat):Txt.mul ⟨#[c]⟩ 6=⟨#[c,c,c,c,c,c]⟩:=rfl
theorem Lt.six{c:Nat}(h:dY c=true):Lt ⟨#[c,c,c,c,c,c]⟩:=by
 intro d hd;have hd:d∈[c,c,c,c,c,c]:=hd;simp only[List.mem_cons,List.not_mem_nil,or_false,or_self] at hd;rw[hd];exact h
theorem Lt.join{ts:aO}(h' :∀t∈ts,Lt t):Lt (Str.join "" ts):=by
 intro c hc;rcases(mem_join "" c ts).mp hc with⟨t,ht,hc⟩|⟨_,hc⟩
 ·exact h' t ht c hc
 ·have:c∈([]:List Nat):=hc;cases this
def u0:ax:=[.str "in",.str "or",.str "end",.str "make",.str "frame",.str "ground",.str "none",.str "turns",.str "put",.str "hand",.str "room"]
theorem GI:∀x∈u0,∃s,x= .str s∧cV s=true:=by
 intro x hx;simp only[u0,List.mem_cons,List.not_mem_nil,or_false] at hx
 rcases hx with rfl|rfl|rfl|rfl|rfl|rfl|rfl|rfl|rfl|rfl|rfl<;>exact⟨_,rfl,by decide+kernel⟩
section
variable{P:Program}{w:World}{K:Frag}{mg:Str→aN}{base:Heap}{A:qH}
def LQ:Sp:=fun vs H Q _=>∃(b:Addr) (n k:Nat),vs=[.ref b,.int n]∧bH H b k∧k+12≤100000∧n≤6∧∀l (xs:aO) H',H l=none→xs.length=n→(∀x∈xs,cV x=true)→H' l=some (.lst (xs.map V.str))→bH H' b (k+12)→Kept b H H'→Q (.ref l) H'
theorem vC(T:Txt K mg A):bu P w K mg base eF 2 A.lK A.kX ["_law_box_here","_law_many"] LQ:=by
 have aL:=gj (P:=P) (w:=w) (base:=base) T;refine T.qj.okM bZ (fun vs H Q E h=> ?_) (fun cJ Ar outer s H vs Q E hr h=> ?_)
 ·obtain⟨b,n,k,rfl,_⟩:=h;rfl
 ·obtain⟨b,n,k,rfl,B,hk,hn,q⟩:=h;have hu:=dv hr;refine⟨_,(dS ⟨(aZ (i:=2) bZ.nd rfl (Or.inr rfl) aM)⟩ (dS ⟨(aZ (i:=3) bZ.nd rfl (Or.inl rfl) (aA aL hr rfl T.aW T.aU.kp T.aV .nil aB (aa (pv 0) (aa ao ae))))⟩ (dS ⟨(aZ (i:=4) bZ.nd rfl (Or.inr rfl) (aA aL hr rfl T.aW T.aU.kp T.aV .nil aB (aa (pv 0) (aa ao ae))))⟩ (dS ⟨(aZ (i:=5) bZ.nd rfl (Or.inr rfl) (bb bj (b7 (aa ao (aa ao (aa ao (aa ao (aa ao (aa ao ae))))))) (aA aL hr rfl T.aW T.aU.kp T.aV .nil aB (aa (pv 0) (aa ao ae))) (fun _ _=>rfl)))⟩ (dS (I_ (ba j9 (pv 3) ao (br _)) (dS (LW (i:=6) bZ.nd rfl (Or.inr rfl) (LH (ee (fun _ _=>rfl) aM (ee (fun _ _=>rfl) aM (ee (fun _ _=>rfl) aM (ee (fun _ _=>rfl) aM (ee (fun _ _=>rfl) aM (ee (fun _ _=>rfl) aM (ee (fun _ _=>rfl) aM (ee (fun _ _=>rfl) aM (ee (fun _ _=>rfl) aM (ee (fun _ _=>rfl) aM (ee (fun _ _=>rfl) aM Kw)))))))))))) (by kernel_rfl) (Or.inl rfl)) (qv ⟨(aH (b9 (N:=["_law_k","_law_words","_law_first","_law_step"]) (k:=1) (js:=[6,4,5]) rfl (bq (by kernel_rfl)) (eO rfl T.gu (aa (pv 1) ae)) (fun _ _ _ _ _=>⟨(a_ (i:=0) (show(["_law_k","_law_words","_law_first","_law_step"]:aO).Nodup by decide+kernel) rfl (Or.inl rfl) (Or.inr rfl)),qF,(bb (pL (K:=K) rfl) (pv 1) (bt iY (bt fz (pv 2) (bt oz (bt iY (pv 3) ao) (pv 0))) ao) (fun _ _=>rfl))⟩)))⟩)) zM) (dS ⟨(aZ (i:=7) bZ.nd rfl (Or.inr rfl) (iq PySem.F.plainAttrs_str PySem.F.slot_str_join PySem.F.type_str_join LO aM (aa (b9 (N:=["_law_k","_law_letters","_law_box_here"]) (k:=1) (js:=[2,0]) rfl (bq (by kernel_rfl)) (eO rfl T.gu (aa (aA aL hr rfl T.aW T.aU.kp T.aV .nil aB (aa (pv 0) (aa ao ae))) ae)) (fun _ _ _ _ _=>⟨(a_ (i:=0) (show(["_law_k","_law_letters","_law_box_here"]:aO).Nodup by decide+kernel) rfl (Or.inl rfl) (Or.inr rfl)),qF,(bb uS (pv 1) (aA aL hr rfl T.aW T.aU.kp T.aV .nil aB (aa (pv 2) (aa ao ae))) (fun _ _=>rfl))⟩)) ae)))⟩ (dS ⟨(aZ (i:=8) bZ.nd rfl (Or.inr rfl) (aA aL hr rfl T.aW T.aU.kp T.aV .nil aB (aa (pv 0) (aa (bt fz (aT qh (by rfl) T.fK Boot.«len» (aa (pv 7) ae)) ao) ae))))⟩ (dS (I_ (PW.pt (WP (ba j9 (pv 3) ao (br _)) (zn (ba AL (pv 1) ao (br _))))) (dS ⟨(aZ (i:=9) bZ.nd rfl (Or.inr rfl) (mC xD (bt kS (pv 7) (bt BW (bb uS (pv 2) (pv 4) (fun _ _=>rfl)) ao)) pN (jy ao)))⟩ (qv ⟨(aH (b9 (N:=["_law_k","_law_whole","_law_first"]) (k:=1) (js:=[9,4]) rfl (bq (by kernel_rfl)) (eO rfl T.gu (aa (pv 1) ae)) (fun _ _ _ _ _=>⟨(a_ (i:=0) (show(["_law_k","_law_whole","_law_first"]:aO).Nodup by decide+kernel) rfl (Or.inl rfl) (Or.inr rfl)),qF,(mC xD (pv 1) pN (jy (bt fz ao (bt iY (bt fz (pv 2) (pv 0)) ao))))⟩)))⟩)) zM) (qv ⟨(aH (b9 (N:=["_law_k","_law_stem","_law_letters","_law_at","_law_first","_law_step"]) (k:=1) (js:=[7,2,8,4,5]) rfl (bq (by kernel_rfl)) (eO rfl T.gu (aa (pv 1) ae)) (fun _ _ _ _ _=>⟨(a_ (i:=0) (show(["_law_k","_law_stem","_law_letters","_law_at","_law_first","_law_step"]:aO).Nodup by decide+kernel) rfl (Or.inl rfl) (Or.inr rfl)),qF,(bt kS (bt kS (mC xD (pv 1) pN (jy (pv 3))) (bb uS (pv 2) (bt iY (bt fz (pv 4) (bt oz (pv 5) (pv 0))) ao) (fun _ _=>rfl))) (mC xD (pv 1) (jy (pv 3)) pN))⟩)))⟩))))))))),?_⟩;refine⟨_,rfl,b,3,k,rfl,B,by lia,by decide,by decide,fun way H1 w0 w1 B1 O1=> ?_⟩;refine⟨_,rfl,b,26,k+1,rfl,B1,by lia,by decide,by decide,fun first H2 f0 f1 B2 O2=> ?_⟩;refine⟨(show 6≤sizeLine by decide),fun p hp=> ?_⟩;have s3:=aw.upd (o:= .lst [V.int 1,V.int 3,V.int 5,V.int 7,V.int 9,V.int 11]) hp;have e3:upd H2 p (.lst [V.int 1,V.int 3,V.int 5,V.int 7,V.int 9,V.int 11]) p=some (.lst [V.int 1,V.int 3,V.int 5,V.int 7,V.int 9,V.int 11]):=af;generalize upd H2 p (.lst [V.int 1,V.int 3,V.int 5,V.int 7,V.int 9,V.int 11])=H3 at s3 e3;have Q0:p≠b:=B2.ne hp;refine⟨_,rfl,b,6,k+2,rfl,B2.same s3,by lia,by decide,by decide,fun r H4 r0 r1 B4 O4=> ?_⟩;refine mG (fun v=>∃i:Int,v= .int i∧0≤i∧i≤11) (O4.kept _ _ Q0 e3) r0 r1 ?_ fun v hv=> ?_
  ·intro x hx;simp only[List.mem_cons,List.not_mem_nil,or_false] at hx
   rcases hx with rfl|rfl|rfl|rfl|rfl|rfl<;>exact⟨_,rfl,by decide,by decide⟩
  obtain⟨step,rfl,st0,st1⟩:=hv;have K4:Kept b H H4:=((O1.kept.trans O2.kept).trans s3.kept).trans O4.kept
  have fr:∀{H' :Hp} {c:Addr} {k' :Nat},Kept b H H'→bH H' b k'→H' c=none→H c=none:=fun{H' c k'} K' B' hc=>by
   cases e:H c with
   |none=>rfl
   |some o=>rw[K' _ o (B'.ne hc) e] at hc;cases hc
  refine⟨_,rfl,rfl,_,rfl,?_⟩;refine oH (fun _=> ?_) (fun _=> ?_)
  ·refine⟨(show 11≤sizeLine by decide),fun wl Qo=> ?_⟩;have s5:=aw.upd (o:= .lst u0) Qo;have e5:upd H4 wl (.lst u0) wl=some (.lst u0):=af;have nwb:wl≠b:=B4.ne Qo;refine⟨_,rfl,_,rfl,by lia,by lia,?_⟩;rw[Int.toNat_natCast];refine nk (m:=0) (k0:=k+3) (fun v=>∃x,v= .str x∧cV x=true) (Nat.le_of_lt (bJ (by lia))) (B4.same s5) ?_ ?_
   ·intro i H' C1 hi K' B' c1;refine⟨(dU.refl _).own (by decide),_,rfl,_,rfl,_,rfl,step,10,rfl,rfl,(show(0:Int)<10 by decide),_,rfl,_,_,rfl,rfl,?_,first,_,rfl,rfl,_,11,rfl,rfl,(show(0:Int)<11 by decide),?_⟩
    ·exact .inl ⟨by lia,by lia⟩
    ·refine mG (fun v=>∃x,v= .str x∧cV x=true) (K' _ _ nwb e5) (Int.emod_nonneg _ (by decide)) (Int.emod_lt_of_pos _ (by decide)) GI fun v hv=>c1 v H' hv (B'.mono (by lia)) (Kept.refl b H')
   ·intro pl H' ys tS K' B' Ji ju hR;obtain⟨xs,rfl,Bv⟩:=nK hR;rw[List.length_map] at ju;exact q pl xs H' (fr K4 B4 (s5.free tS)) ju Bv Ji (B'.mono (by lia)) (K4.trans (s5.kept.trans K'))
  ·refine⟨rfl,_,rfl,b,6,k+3,rfl,B4,by lia,by decide,by decide,fun cnt H5 c0 c1 B5 O5=> ?_⟩;obtain⟨c,rfl⟩:∃c:Nat,cnt=c:=⟨cnt.toNat,by lia⟩;refine⟨_,rfl,by lia,by lia,?_⟩;rw[Int.toNat_natCast];have K5:Kept b H H5:=K4.trans O5.kept;refine nk (m:=1) (k0:=k+4) (fun v=>∃x:Str,v= .str x∧x.length=1∧Lt x) (Nat.le_of_lt (bJ (by lia))) B5 ?_ ?_
   ·intro i H' C1 hi K' B' q1;refine⟨(dU.refl _).own (by decide),_,rfl,_,rfl,b,26,_,rfl,B',by lia,by decide,by decide,fun r H6 r0 r1 B6 O6=> ?_⟩;exact nF r0 r1 fun ch yR=>q1 _ _ ⟨_,rfl,rfl,Lt.one yR⟩ B6 O6.kept
   ·intro pl H6 ys tS K6 B6 hp6 ju hR;obtain⟨xs,rfl,hx⟩:=nK hR;rw[List.length_map] at ju;have he:(Str.ofString "").length=0:=by decide+kernel
    have hj:Builtin.Str.tooLong (xs.toArray.foldl (fun a p=>a+p.length+(Str.ofString "").length) 0)=false:=PySem.StrLaws.joinFits (B:=1) (fun y hy=>Nat.le_of_eq (hx y hy).1) (by
     rw[he]
     lia)
    have hlen:(Txt.join (Str.ofString "") xs).length≤5:=by
     have h1:=PySem.StrLaws.join_length_le (Str.ofString "") xs;have h2:=PySem.StrLaws.sumLen_le xs (B:=1) (fun y hy=>Nat.le_of_eq (hx y hy).1);rw[he] at h1;show(Builtin.Str.glued _ xs).length≤5;rw[PySem.StrLaws.glued_eq_join]
     lia
    have T4:Lt (Txt.join (Str.ofString "") xs):=by
     show Lt (Builtin.Str.glued _ xs);rw[PySem.StrLaws.glued_eq_join];exact Lt.join fun t ht=>(hx t ht).2
    have K56:Kept b H H6:=K5.trans K6;refine⟨_,pl,xs,rfl,rfl,hp6,by unfold JoinOk;rw[hj];rfl,?_⟩;generalize Txt.join (Str.ofString "") xs=qR at hlen T4;have hL:sizeLine=16777216:=by decide
    refine⟨_,rfl,_,rfl,qR,rfl,by lia,(qR.length:Int),1,rfl,rfl,b,_,k+4+c*1,rfl,B6,by lia,by lia,by lia,fun at_ H7 a0 a1 B7 O7=> ?_⟩;obtain⟨at_,rfl⟩:∃j:Nat,at_=j:=⟨at_.toNat,by lia⟩;have ha:at_≤qR.length:=by lia
    have K7:Kept b H H7:=K56.trans O7.kept;refine⟨_,rfl,rfl,_,rfl,?_⟩;refine oH (fun _=> ?_) (fun _=> ?_)
    ·refine⟨_,rfl,_,7,rfl,rfl,_,rfl,?_⟩;rw[decide_eq_true (show(n:Int)<7 by lia)];refine eT ?_;refine⟨_,rfl,_,rfl,_,rfl,nF f0 f1 fun ch yR=> ?_⟩;have hmul:MulOk ⟨#[ch]⟩ 6:=⟨by decide,fun _ _=>by show ¬((1:Int)>(2 ^ 63 - 1) / 6);decide,fun _ _=>by show Builtin.Str.tooLong (1*6)=false;decide+kernel⟩;refine⟨⟨#[ch]⟩,6,rfl,rfl,hmul,?_⟩;rw[afl];have h6l:(⟨#[ch,ch,ch,ch,ch,ch]⟩:Str).length=6:=rfl;have Qo:(qR++⟨#[ch,ch,ch,ch,ch,ch]⟩).length=qR.length+6:=qa _ _;refine⟨qR,_,rfl,rfl,by lia,?_⟩;have hwo:Lt (qR++⟨#[ch,ch,ch,ch,ch,ch]⟩):=T4.app (Lt.six yR);generalize qR++⟨#[ch,ch,ch,ch,ch,ch]⟩=whole at Qo hwo;refine⟨6,rfl,whole,rfl,by lia,?_⟩;have mq:=iQ (x:=whole) (j:=6) (by lia);have hso:=hwo.slice none (some ((6:Nat):Int));have e6:((6:Nat):Int)=6:=rfl;rw[e6] at mq hso;generalize Txt.slice whole none (some 6)=wh at mq hso;refine⟨_,rfl,_,rfl,by lia,by lia,?_⟩;rw[Int.toNat_natCast];refine nk (m:=0) (k0:=k+4+c*1+1) (fun v=>∃x,v= .str x∧cV x=true) (Nat.le_of_lt (bJ (by lia))) B7 ?_ ?_
     ·intro i H' C1 hi K' B' q1;refine⟨(dU.refl _).own (by decide),_,rfl,_,rfl,_,rfl,first,_,rfl,rfl,_,6,rfl,rfl,(show(0:Int)<6 by decide),1,_,rfl,rfl,_,rfl,wh,rfl,by lia,?_⟩;obtain⟨j,hj⟩:∃j:Nat,1+(first+(0+(i:Int))) % 6=j:=⟨(1+(first+(0+(i:Int))) % 6).toNat,by lia⟩;rw[hj];exact q1 _ _ ⟨_,rfl,(hso.slice none (some (j:Int))).name (by rw[iQ (by lia)];lia) (by rw[iQ (by lia)];lia)⟩ (B'.mono (by lia)) (Kept.refl b H')
     ·intro pl H' ys tS K' B' Ji ju hR;obtain⟨xs,rfl,Bv⟩:=nK hR;rw[List.length_map] at ju;exact q pl xs H' (fr K7 B7 tS) ju Bv Ji (B'.mono (by lia)) (K7.trans K')
    ·refine dH ?_;refine⟨_,rfl,_,rfl,by lia,by lia,?_⟩;rw[Int.toNat_natCast];refine nk (m:=0) (k0:=k+4+c*1+1) (fun v=>∃x,v= .str x∧cV x=true) (Nat.le_of_lt (bJ (by lia))) B7 ?_ ?_
     ·intro i H' C1 hi K' B' q1;have l1:=iQ ha;have l2:=tU ha;have o1:=T4.slice none (some (at_:Int));have o2:=T4.slice (some (at_:Int)) none;refine⟨(dU.refl _).own (by decide),_,rfl,_,rfl,_,rfl,qR,rfl,by lia,?_⟩;refine⟨_,rfl,_,rfl,_,rfl,_,rfl,step,_,rfl,rfl,.inl ⟨by lia,by lia⟩,first,_,rfl,rfl,_,26,rfl,rfl,(show(0:Int)<26 by decide),nF (Int.emod_nonneg _ (by decide)) (Int.emod_lt_of_pos _ (by decide)) fun ch yR=> ?_⟩;have h1l:(⟨#[ch]⟩:Str).length=1:=rfl;have la:=qa (Txt.slice qR none (some (at_:Int))) ⟨#[ch]⟩;refine⟨_,_,rfl,rfl,by lia,_,rfl,_,rfl,_,rfl,qR,rfl,by lia,?_⟩;have lb:=qa (Txt.slice qR none (some (at_:Int))++⟨#[ch]⟩) (Txt.slice qR (some (at_:Int)) none);refine⟨_,_,rfl,rfl,by lia,?_⟩;exact q1 _ _ ⟨_,rfl,((o1.app (Lt.one yR)).app o2).name (by lia) (by lia)⟩ (B'.mono (by lia)) (Kept.refl b H')
     ·intro pl H' ys tS K' B' Ji ju hR;obtain⟨xs,rfl,Bv⟩:=nK hR;rw[List.length_map] at ju;exact q pl xs H' (fr K7 B7 tS) ju Bv Ji (B'.mono (by lia)) (K7.trans K')
end
theorem Fm{K:Frag}{a:Addr}{xs:ax}{k m k0:Nat}{b:Addr}{js:List Nat}{g:TG}{te:TE}{σ:L2.St}{H:Hp}{Q:VK}(E:Nat→V→Hp→Prop)(hlen:xs.length≤sizeLine)(ha:H a=some (.lst xs))(hab:a≠b)(B:bH H b k0)
 (mono:∀i v H' gi,E i v H'→(∀c ys,H' c=some (.tup ys)→gi c=some (.tup ys))→E i v gi)
 (h8:∀(i:Nat) (x:V) (H' :Hp) (C1:V→Hp→Prop),xs[i]? =some x→Kept b H H'→bH H' b (k0+i*m)→(∀v gi,E i v gi→bH gi b (k0+i*m+m)→Kept b H' gi→C1 v gi)→
  g x (rO k js σ) H' fun me H2=>dU (rO k js σ) me∧te me H2 C1)
 (hq:∀p H' ys,H p=none→Kept b H H'→bH H' b (k0+xs.length*m)→H' p=some (.lst ys)→ys.length=xs.length→(∀(i:Nat) v,ys[i]? =some v→E i v H')→Q (.ref p) H'):
 jf (QY K a) k js g K9 te σ H Q:=by
 intro p hp;have UX:p≠b:=B.ne hp
 refine⟨fun i m' ys H' =>m' =xs.length - i∧i≤xs.length∧ys.length=i∧H' p=some (.lst ys)∧Kept b H H'∧bH H' b (k0+i*m)∧∀(i:Nat) v,ys[i]? =some v→E i v H',
  ⟨xs.length,rfl,Nat.zero_le _,rfl,af,(aw.upd hp).kept,by rw[Nat.zero_mul];exact B.same (aw.upd hp),fun i v e=>by simp at e⟩,?_⟩
 rintro i m' ys H' ⟨rfl,hi,ju,hl,hs,hB,hE⟩
 refine⟨hl,?_⟩;have ha' :=hs _ _ hab ha;by_cases gB:i<xs.length
 ·have hx:xs[i]? =some xs[i]:=by simp[gB]
  refine .inr ⟨⟨xs,_,bD.of ha',hx⟩,by lia,fun x gi hy=> ?_⟩;obtain⟨rfl,hy⟩:=hy;have hx:=hy xs (bD.of ha');refine h8 i x _ _ hx hs hB fun v H4 r4 B4 s4=> ?_;have Q4:H4 p=some (.lst ys):=s4 _ _ UX hl;have kt4:=KZ s4 hB
  have ktp:∀c zs,H4 c=some (.tup zs)→upd H4 p (.lst (ys++[v])) c=some (.tup zs):=fun c zs e=>by
   rw[ah (aG e Q4 (by intro z;cases z))];exact e
  refine⟨Q4,xs.length - (i+1),by lia,rfl,gB,by simp[ju],af,fun c o hc e=> ?_,?_,fun j v' e=> ?_⟩
  ·rw[ah (ak e hp)];exact s4 _ _ hc (hs _ _ hc e)
  ·obtain⟨x,y,z,hb,r⟩:=B4;refine⟨x,y,z,?_,?_⟩
   ·rw[ah (fun z=>UX z.symm)];exact hb
   ·rw[show k0+(i+1)*m=k0+i*m+m by rw[Nat.succ_mul];lia];exact r
  ·rcases Nat.lt_or_ge j ys.length with hj|hj
   ·rw[List.getElem?_append_left hj] at e;exact mono j v' _ _ (mono j v' _ _ (hE j v' e) kt4) ktp
   ·rw[List.getElem?_append_right hj] at e
    have:j - ys.length=0:=by
     have:=(List.getElem?_eq_some_iff.mp e).1;simp at this
     lia
    rw[this] at e;cases e;rw[show j=i by lia];exact mono i v _ _ r4 ktp
 ·have e:i=xs.length:=by lia
  subst e;exact .inl ⟨⟨xs,bD.of ha',Nat.le_refl _⟩,hq p H' ys hp hs hB hl ju hE⟩
theorem Sf{kv:bG}{k:wn}{v:V}(h:(kv.map (·.1)).Nodup):((wp kv k v).map (·.1)).Nodup:=by
 by_cases e:(kv.any fun p=>decide (p.1=k))=true
 ·unfold wp;rw[if_pos e,List.map_map]
  have:((·.1) ∘ fun p:wn×V=>if p.1=k then(p.1,v) else p)=(·.1):=by
   funext p
   show(if p.1=k then(p.1,v) else p).1=p.1
   split<;>rfl
  rw[this];exact h
 ·have e' :bN kv k=none:=by
   unfold bN;rw[List.find?_eq_none.mpr]
   ·rfl
   ·intro p hp z;exact e (List.any_eq_true.mpr ⟨p,hp,z⟩)
  exact Mw v h e'
theorem Mh{q:wn×V→Prop}{kv:bG}{k:wn}{v:V}(h:∀p∈kv,q p)(hk:q (k,v)):∀p∈wp kv k v,q p:=by
 intro p hp;unfold wp at hp
 split at hp
 ·obtain⟨p',Ji,rfl⟩:=List.mem_map.mp hp;by_cases z:p'.1=k
  ·rw[if_pos z,z];exact hk
  ·rw[if_neg z];exact h p' Ji
 ·rcases List.mem_append.mp hp with hp|hp
  ·exact h p hp
  ·rw[List.mem_singleton.mp hp];exact hk
theorem u6{q:wn×V→Prop}:∀(more kv:bG),(kv.map (·.1)).Nodup→(∀p∈kv,q p)→(∀p∈more,q p)→((fw kv more).map (·.1)).Nodup∧∀p∈fw kv more,q p
 |[],_,h,h',_=>⟨h,h'⟩
 |x::r,kv,h,h',hm=>u6 r (wp kv x.1 x.2) (Sf h) (Mh h' (hm x List.mem_cons_self)) fun p hp=>hm p (List.mem_cons_of_mem _ hp)
theorem M4{H:Hp}{Q:VK}{i:Int}(h0:0≤i)(h1:i<4)(q:∀c,dY c=true→Q (.str ⟨#[c]⟩) H):Qz (.str "pqrs") (.int i) H Q:=by
 obtain⟨j,rfl⟩:∃j:Nat,i=j:=⟨i.toNat,by lia⟩;have e:("pqrs" :Str).cps.toList=(List.range 4).map (· +112):=by decide+kernel
 have hj:j<4:=by lia
 refine⟨_,_,j+112,rfl,rfl,by decide+kernel,?_,q _ ?_⟩
 ·refine d5 ?_;rw[e,List.getElem?_map,List.getElem?_range hj];rfl
 ·unfold dY;rw[decide_eq_true (by lia),decide_eq_true (by lia)];rfl
theorem AR{H:Hp}{R:Rm}:∀{kv:bG},(∀p∈kv,∃x o,p.1= .inr x∧cV x=true∧c_ H R p.2 o)→∃(ns:aO) (oh:ay),kv.length=ns.length∧oh.length=ns.length∧∀(j:Nat) k v,kv[j]? =some (k,v)→k= .inr (ns.getD j "")∧cV (ns.getD j "")=true∧c_ H R v (oh.getD j none)
 |[],_=>⟨[],[],rfl,rfl,fun j k v e=>by simp at e⟩
 |(k0,v0)::r,h=>by
  obtain⟨x,o,e,hn,hv⟩:=h (k0,v0) List.mem_cons_self;obtain⟨ns,oh,l1,l2,hr⟩:=AR (kv:=r) fun p hp=>h p (List.mem_cons_of_mem _ hp);refine⟨x::ns,o::oh,by rw[List.length_cons,List.length_cons,l1],by rw[List.length_cons,List.length_cons,l2],fun j k v ej=> ?_⟩
  cases j with
  |zero=>
   cases ej;exact⟨e,hn,hv⟩
  |succ j=>exact hr j k v ej
theorem cf.of{H:Hp}{R:Rm}{d:Addr}{kv:bG}(hd:H d=some (.dK kv))(h:∀p∈kv,∃x o,p.1= .inr x∧cV x=true∧c_ H R p.2 o):∃ns oh,cf H R d kv ns oh:=by
 obtain⟨ns,oh,l1,l2,hr⟩:=AR h;exact⟨ns,oh,hd,l1,l2,hr⟩
theorem yh{xs:aO}{i:Nat}(h:i<xs.length):xs[i]? =some (xs.getD i ""):=by
 rw[List.getD_eq_getElem?_getD,List.getElem?_eq_getElem h];rfl
theorem FO{k:wn}{x:Str}(h:kV k= .str x):k= .inr x:=by
 cases k with
 |inl i=>cases h
 |inr y=>cases h;rfl
def OP:TS:=fun D σ H=>∃(b:Addr) (m:MW) (ps ts:ay) (L top:Nat) (R:Rm) (ws ms:aY) (cs:cE) (G:List Nat) (nl:Addr) (xs:aO) (k:Nat),σ=[some (.ref b),some (.ref m.d),some (.ref nl)]∧bH H b k∧k+120≤100000∧aC H m ps ts L top R ws ms cs G∧(¬b∈m.own)∧ps.length=ts.length∧ts.length≤1000∧R.length≤1000∧H nl=some (.lst (xs.map V.str))∧nl≠b∧xs.length≤40∧(∀x∈xs,cV x=true)∧
 ∀d kv ns oh H',H d=none→cf H' R d kv ns oh→ns.length≤40→(kv.map (·.1)).Nodup→bH H' b (k+120)→Kept b H H'→D.rt (.ref d) H'
section
variable{P:Program}{w:World}{K:Frag}{mg:Str→aN}{base:Heap}{A:qH}
def L_:Sp:=fun vs H Q _=>∃b m ps ts L top R ws ms cs G,∃k:Nat,vs=[.ref b,.ref m.d]∧bH H b k∧k+200≤100000∧aC H m ps ts L top R ws ms cs G∧¬b∈m.own∧ps.length=ts.length∧ts.length≤1000∧R.length≤1000∧
 ∀d kv ns oh H',H d=none→cf H' R d kv ns oh→ns.length≤40→(kv.map (·.1)).Nodup→bH H' b (k+200)→Kept b H H'→Q (.ref d) H'
theorem vD(T:Txt K mg A):bu P w K mg base eF 4 A.lJ A.lS ["_law_box_here","_law_world_here"] L_:=by
 have aL:=(gj (P:=P) (w:=w) (base:=base) T).mono (by decide:_≤3);have xZ:=(vC (P:=P) (w:=w) (base:=base) T).mono (by decide:_≤3);have lG:=nU (P:=P) (w:=w) (base:=base) T;refine T.pM.ok jJ (fun vs H Q E h=> ?_) (fun cJ Ar outer s H vs Q E hr h=> ?_)
 ·obtain⟨b,m,ps,ts,L,top,R,ws,ms,cs,G,k,rfl,_⟩:=h;rfl
 ·obtain⟨b,m,ps,ts,L,top,R,ws,ms,cs,G,k,rfl,B,hk,W,hb,NX,Fx,hR,q⟩:=h;have hu:=dv hr;have AX:_+100<cLine:=Nat.lt_of_le_of_lt (Nat.add_le_add_left (by decide:100≤16*3+200) _) (by have:=hr.un;omega);refine⟨_,(ai (aZ (i:=2) jJ.nd rfl (Or.inl rfl) (aA xZ hr rfl T.xg T.qj.kp T.yC .nil aB (aa (pv 0) (aa (aA aL hr rfl T.aW T.aU.kp T.aV .nil aB (aa (pv 0) (aa ao ae))) ae)))) (ai (b_ (ba j9 (aA aL hr rfl T.aW T.aU.kp T.aV .nil aB (aa (pv 0) (aa ao ae))) ao (br _)) (aq (xx (i:=2) jJ.nd rfl (Or.inl rfl) (N:=["_law_k"]) (k:=1) (js:=[]) rfl (bq (by kernel_rfl)) (eO rfl T.gu (aa ao ae)) (fun _ _ _ _ _=>⟨(a_ (i:=0) (show(["_law_k"]:aO).Nodup by decide+kernel) rfl (Or.inl rfl) (Or.inr rfl)),qF,(bt kS (bb uS aM (bt iY (bt fz (bt oz ao (pv 0)) ao) ao) (fun _ _=>rfl)) (bb uS aM (bt iY (pv 0) ao) (fun _ _=>rfl)))⟩))) bh) (lr (OP) (aq (aH (cx (lZ rfl) (by rfl) T.qW Boot.«dict» (aa (b9 (N:=["_law_name","_law_box_here","_law_world_here"]) (k:=1) (js:=[0,1]) rfl (bq (by kernel_rfl)) (cQ (pv 2)) (fun _ _ _ _ _=>⟨(a_ (i:=0) (show(["_law_name","_law_box_here","_law_world_here"]:aO).Nodup by decide+kernel) rfl (Or.inl rfl) (Or.inr rfl)),qF,(gT (aa (pv 0) (aa (aA lG hr rfl T.qg T.kF.kp T.qE .nil aB (aa (pv 1) (aa (pv 2) ae))) ae)))⟩)) ae)))) ?ZJ))),?_⟩
  case ZJ=>
   rintro D σ H1 ⟨b,m,ps,ts,L,top,R,ws,ms,cs,G,nl,xs,k,rfl,B,hk,W,hb,NX,Fx,hR,AW,SS,Tc,Bv,q⟩
   have Wb:(xs.map V.str).length=xs.length:=List.length_map ..;refine⟨_,rfl,nl,rfl,⟨_,bD.of AW⟩,?_⟩;refine Fm (m:=3) (fun i v H' =>∃t y o,v= .ref t∧H' t=some (.tup [.str (xs.getD i ""),y])∧c_ H' R y o) (Nat.le_of_lt (bJ (by lia))) AW SS B ?_ ?_ ?_
   ·rintro i v H' gi ⟨t,y,o,rfl,et,hv⟩ kt
    exact⟨t,y,o,rfl,kt _ _ et,hv.kt kt⟩
   ·intro i x H' C1 hx K' B' c1
    have An:i<xs.length:=by
     have:=(List.getElem?_eq_some_iff.mp hx).1
     lia
    rw[List.getElem?_map,yh An] at hx;cases hx;refine⟨(dU.refl _).own (by decide),_,rfl,_,rfl,_,rfl,b,m,ps,ts,L,top,R,ws,ms,cs,G,k+i*3,rfl,B',by lia,W.kept fun c o hc e=>K' c o (fun z=>hb (z▸hc)) e,hb,NX,Fx,hR,fun v o H2 hv B2 K2=>⟨(show 2≤sizeLine by decide),fun t ht=> ?_⟩⟩;have s3:=aw.upd (o:= .tup [V.str (xs.getD i ""),v]) ht;exact c1 _ _ ⟨t,v,o,rfl,af,hv.kt (bI s3)⟩ (B2.same s3) (K2.trans s3.kept)
   ·intro pl H' ys tS K' B' Ji ju hE
    obtain⟨kvs,hkl,Pe⟩:∃kvs,nH H' ys kvs:=uL fun i v e=>by
     obtain⟨t,y,o,rfl,et,_⟩:=hE i v e;exact⟨t,.inr (xs.getD i ""),y,rfl,et⟩
    have xo:∀p∈kvs,∃x o,p.1= .inr x∧cV x=true∧c_ H' R p.2 o:=fun p hp=>by
     obtain⟨i,hi⟩:=List.mem_iff_getElem?.mp hp;obtain⟨a,ea,ha⟩:=Pe i p.1 p.2 hi;obtain⟨t,y,o,ev,et,hv⟩:=hE i _ ea;cases ev;rw[ha] at et
     have An:i<xs.length:=by
      have:=(List.getElem?_eq_some_iff.mp hi).1
      lia
     simp only[Option.some.injEq,HO.tup.injEq,List.cons.injEq,and_true] at et;exact⟨_,o,FO et.1,Bv _ (List.mem_of_getElem? (yh An)),et.2▸hv⟩
    refine⟨pl,ys,kvs,rfl,Ji,⟨hkl,Pe⟩,fun d hd=> ?_⟩;obtain⟨nd,al⟩:=u6 kvs [] List.nodup_nil (fun p hp=>nomatch hp) xo;have s4:=aw.upd (o:= .dK (fw [] kvs)) hd
    obtain⟨ns,oh,hh⟩:=cf.of (H:=upd H' d (.dK (fw [] kvs))) (R:=R) (d:=d) af fun p hp=>by
     obtain⟨x,o,e1,e2,e3⟩:=al p hp;exact⟨x,o,e1,e2,e3.kt (bI s4)⟩
    have Bu:=fc kvs [];have vi:=hh.ln;rw[List.length_nil] at Bu;refine q d _ ns oh _ ?_ hh (by lia) nd ((B'.same s4).mono (by lia)) (K'.trans s4.kept)
    cases e:H1 d with
    |none=>rfl
    |some o=>rw[K' _ o (B'.ne hd) e] at hd;cases hd
  refine⟨_,rfl,_,rfl,b,6,k,rfl,B,by lia,by decide,by decide,fun r H1 r0 r1 B1 O1=> ?_⟩;obtain⟨n,rfl⟩:∃n:Nat,r=n:=⟨r.toNat,by lia⟩;refine⟨b,n,k+1,rfl,B1,by lia,by lia,fun nl xs H2 AW Tc Bv ahb B2 K2=> ?_⟩;have K2:Kept b H H2:=O1.kept.trans K2;have SS:nl≠b:=B1.ne AW
  have fr:∀{H' :Hp} {c:Addr} {k' :Nat},Kept b H H'→bH H' b k'→H' c=none→H c=none:=fun{H' c k'} K' B' hc=>by
   cases e:H c with
   |none=>rfl
   |some o=>rw[K' _ o (B'.ne hc) e] at hc;cases hc
  have fin:∀(nl:Addr) (xs:aO) (H3:Hp) (k3:Nat),Kept b H H3→bH H3 b k3→k3≤k+20→H3 nl=some (.lst (xs.map V.str))→nl≠b→xs.length≤40→(∀x∈xs,cV x=true)→OP {nx:=fun _ H' =>Q .bC H',rt:=Q} [some (.ref b),some (.ref m.d),some (.ref nl)] H3:=fun nl xs H3 k3 K3 B3 hk3 AW SS Tc Bv=>
   ⟨b,m,ps,ts,L,top,R,ws,ms,cs,G,nl,xs,k3,rfl,B3,by lia,W.kept fun c o hc e=>K3 c o (fun z=>hb (z▸hc)) e,hb,NX,Fx,hR,AW,SS,Tc,Bv,fun d kv ns oh H' hd h1 h2 h3 B' K' =>q d kv ns oh H' (fr K3 B3 hd) h1 h2 h3 (B'.mono (by lia)) (K3.trans K')⟩
  refine⟨_,rfl,b,8,k+1+12,rfl,B2,by lia,by decide,by decide,fun r2 H3 _ _ B3 O3=>⟨rfl,_,rfl,?_⟩⟩;have K3:Kept b H H3:=K2.trans O3.kept;refine oH (fun _=> ?_) (fun _=>fin nl xs H3 _ K3 B3 (by lia) (O3.kept _ _ SS ahb) SS (by lia) Bv);refine⟨40,rfl,by decide,by decide,?_⟩;refine nk (n:=40) (m:=0) (k0:=k+1+12+1) (fun v=>∃x,v= .str x∧cV x=true) (Nat.le_of_lt (bJ (by lia))) B3 ?_ ?_
  ·intro i H' C1 hi K' B' q1;refine⟨(dU.refl _).own (by decide),_,rfl,7,_,rfl,rfl,.inl ⟨by lia,by lia⟩,_,3,rfl,rfl,_,26,rfl,rfl,(show(0:Int)<26 by decide),nF (Int.emod_nonneg _ (by decide)) (Int.emod_lt_of_pos _ (by decide)) fun ch yR=> ?_⟩;refine⟨_,rfl,_,4,rfl,rfl,(show(0:Int)<4 by decide),M4 (Int.emod_nonneg _ (by decide)) (Int.emod_lt_of_pos _ (by decide)) fun ch2 aaK=> ?_⟩;have la:=qa ⟨#[ch]⟩ ⟨#[ch2]⟩;have l1:(⟨#[ch]⟩:Str).length=1:=rfl;have l2:(⟨#[ch2]⟩:Str).length=1:=rfl;have hL:sizeLine=16777216:=by decide
   exact⟨_,_,rfl,rfl,by lia,q1 _ _ ⟨_,rfl,((Lt.one yR).app (Lt.one aaK)).name (by lia) (by lia)⟩ (B'.mono (by lia)) (Kept.refl b H')⟩
  ·intro pl H' ys tS K' B' Ji ju hR;obtain⟨xs,rfl,Bv⟩:=nK hR;rw[List.length_map] at ju;exact fin pl xs H' _ (K3.trans K') B' (by lia) Ji (B3.ne tS) (by lia) Bv
end
def nC(C:Addr)(H:Hp)(a:HA)(m:MW)(d:Addr)(n:Nat):Prop:=∃ps ts L pk R N rs ws ms cs G kv ns oh,gD C H a m ps ts L pk R N rs ws ms cs G∧cf H R d kv ns oh∧ns.length≤40∧(kv.map (·.1)).Nodup∧R.length+ts.length≤n∧N≤2*n∧(¬d∈a.own)∧¬d∈m.own
theorem nC.kept{C:Addr}{H H' :Hp}{a:HA}{m:MW}{d:Addr}{n:Nat}(h:nC C H a m d n)(k:∀c o,c∈a.own∨c∈m.own∨c=d→H c=some o→H' c=some o)(kt:∀c xs,H c=some (.tup xs)→H' c=some (.tup xs)):nC C H' a m d n:=by
 obtain⟨ps,ts,L,pk,R,N,rs,ws,ms,cs,G,kv,ns,oh,Z,hd,r⟩:=h;exact⟨ps,ts,L,pk,R,N,rs,ws,ms,cs,G,kv,ns,oh,Z.kept (fun c o hc e=>k c o (hc.imp id .inl) e) kt,hd.kept (k _ _ (.inr (.inr rfl)) hd.ob) kt,r⟩
theorem nC.same{C:Addr}{H H' :Hp}{a:HA}{m:MW}{d:Addr}{n:Nat}(h:nC C H a m d n)(s:aw H H'):nC C H' a m d n:=h.kept (fun c o _ e=>s c o e) (bI s)
theorem c_.app{H:Hp}{R:Rm}{v:V}{o:Option Nat}(h:c_ H R v o):∀e:Rm,c_ H (R++e) v o:=by
 intro e
 induction e generalizing R with
 |nil=>
  rw[List.append_nil];exact h
 |cons x e ih=>
  have:=ih h.snoc (R:=R++[x]);rw[List.append_assoc] at this;exact this
theorem cf.app{H:Hp}{R:Rm}{d:Addr}{kv:bG}{ns:aO}{oh:ay}(h:cf H R d kv ns oh)(e:Rm):cf H (R++e) d kv ns oh:=
 ⟨h.ob,h.ln,h.lo,fun j k v ej=>⟨(h.at_ j k v ej).1,(h.at_ j k v ej).2.1,(h.at_ j k v ej).2.2.app e⟩⟩
theorem jak{L:Nat}(h1:1≤L)(h2:L≤1000):Good [none] [none] L 0 []:=⟨⟨rfl,(by decide),(by decide),rfl,(fun i h0 hi=>absurd hi (by simp;lia)),(fun i j e=>by
 cases i with
 |zero=>cases e
 |succ i=>simp at e)⟩,rfl,(fun r hr=>nomatch hr),h1,h2,Nat.zero_le _,Nat.zero_le _⟩
section
variable{P:Program}{w:World}{K:Frag}{mg:Str→aN}{base:Heap}{A:qH}
def MZ(C:Addr):Sp:=fun vs H Q _=>∃b,vs=[.ref b]∧bH H b 0∧∀t a m d H',H t=none→H' t=some (.tup [.ref a.f,.ref m.d,.ref d])→nC C H' a m d 40→(∀c,c∈a.own∨c∈m.own∨c=d→H c=none)→Kept b H H'→bH H' b 1000→Q (.ref t) H'
theorem vM(T:Txt K mg A):bu P w K mg base eF 10 A.kr A.lN ["_law_box_here"] (MZ A.aj):=by
 have aL:=(gj (P:=P) (w:=w) (base:=base) T).mono (by decide:_≤9);have xn:=(vG (P:=P) (w:=w) (base:=base) T).mono (by decide:_≤9);have ng:=(qd (P:=P) (w:=w) (base:=base) T).mono (by decide:_≤9);have yg:=(vD (P:=P) (w:=w) (base:=base) T).mono (by decide:_≤9);have rY:=(qe (P:=P) (w:=w) (base:=base) T).mono (by decide:_≤8);refine T.qB.ok e_ (fun vs H Q E h=> ?_) (fun cJ Ar outer s H vs Q E hr h=> ?_)
 ·obtain⟨b,rfl,_⟩:=h;rfl
 ·obtain⟨b,rfl,B,q⟩:=h;have hu:=dv hr;have hgd:=hr.gd;refine⟨_,(ai (aZ (i:=1) e_.nd rfl (Or.inl rfl) (bb bj (b7 (aa ao (aa ao (aa ao (aa ao ae))))) (aA aL hr rfl T.aW T.aU.kp T.aV .nil aB (aa (pv 0) (aa ao ae))) (fun _ _=>rfl))) (ai (aZ (i:=2) e_.nd rfl (Or.inl rfl) (MQ T.Mn rY hr rfl T.LZ T.q_ .nil aB (aa (pv 1) ae))) (ai (aZ (i:=3) e_.nd rfl (Or.inl rfl) (aA xn hr rfl T.xq T.pU.kp T.yF .nil aB (aa (pv 1) ae))) (ai (ir PassesOwn.never rfl (eO rfl T.gu (aa (bt fz ao (aA aL hr rfl T.aW T.aU.kp T.aV .nil aB (aa (pv 0) (aa ao ae)))) ae)) (a_ (i:=4) e_.nd rfl (Or.inl rfl) (Or.inl rfl)) (aq (b_ (eS (dW (aA ng hr rfl T.sG T.mz.kp T.sD .nil aB (aa (pv 0) (aa (pv 2) (aa (pv 3) ae)))))) (aq (aH cG)) bh))) (aq (aH (gT (aa (pv 2) (aa (pv 3) (aa (aA yg hr rfl T.yn T.pM.kp T.xE .nil aB (aa (pv 0) (aa (pv 3) ae))) ae)))))))))),?_⟩
  have made:∀{H0 H1:Hp} {x dx:Addr} {a:HA},H0 x=none→H0 dx=none→a.f=x→(∀c∈a.own,c=x∨upd (upd H0 dx (.own x)) x (.ins A.aj dx []) c=none)→(∀b o,upd (upd H0 dx (.own x)) x (.ins A.aj dx []) b=some o→b≠x→H1 b=some o)→aw H0 H1∧∀c∈a.own,H0 c=none:=fun{H0 H1 x dx a} hx hdx ef go kp=>by
   have s0:aw H0 (upd (upd H0 dx (.own x)) x (.ins A.aj dx [])):=fun c o e=>by
    rw[ah (ak e hx),ah (ak e hdx)];exact e
   refine⟨fun c o e=>kp c o (s0 c o e) (ak e hx),fun c hc=> ?_⟩;rcases go c hc with h|h
   ·rw[h];exact hx
   ·exact s0.free h
  have V8:(4:Nat)≤sizeLine:=by decide
  have Wo:(3:Nat)≤sizeLine:=by decide
  refine⟨V8,fun lp T_=> ?_⟩;have sl:=aw.upd (o:= .lst [V.int 60,V.int 200,V.int 1000,V.int 24]) T_;have el:upd H lp (.lst [V.int 60,V.int 200,V.int 1000,V.int 24]) lp=some (.lst [V.int 60,V.int 200,V.int 1000,V.int 24]):=af;generalize upd H lp (.lst [V.int 60,V.int 200,V.int 1000,V.int 24])=Ha at sl el;have nlb:lp≠b:=B.ne T_;refine⟨_,rfl,b,4,0,rfl,B.same sl,by lia,by decide,by decide,fun r Hc r0 r1 Bc Oc=> ?_⟩;have Kc:Kept b H Hc:=sl.kept.trans Oc.kept;refine mG (fun v=>∃L:Nat,v= .int L∧1≤L∧L≤1000) (Oc.kept _ _ nlb el) r0 r1 ?_ fun v hv=> ?_
  ·intro x hx;simp only[List.mem_cons,List.not_mem_nil,or_false] at hx;rcases hx with rfl|rfl|rfl|rfl
   ·exact⟨60,rfl,by decide,by decide⟩
   ·exact⟨200,rfl,by decide,by decide⟩
   ·exact⟨1000,rfl,by decide,by decide⟩
   ·exact⟨24,rfl,by decide,by decide⟩
  obtain⟨L,rfl,hL1,hL2⟩:=hv;refine⟨_,rfl,?_⟩;intro x0 dx0 hx0 Zl ne0;refine⟨x0,dx0,L,rfl,af,hL1,hL2,fun a0 H1 ef0 go0 h0 kp0=>⟨rfl,_,rfl,L,rfl,fun m0 H2 M0 s2 gm0=> ?_⟩⟩;obtain⟨s1,fa0⟩:=made hx0 Zl ef0 go0 kp0;subst ef0;have B2:=(Bc.same s1).same s2;have K2:Kept b H H2:=Kc.trans (s1.trans s2).kept
  have fr:∀{H' :Hp} {c:Addr} {k' :Nat},Kept b H H'→bH H' b k'→H' c=none→H c=none:=fun{H' c k'} K' B' hc=>by
   cases e:H c with
   |none=>rfl
   |some o=>rw[K' _ o (B'.ne hc) e] at hc;cases hc
  have fr0:∀c,c∈a0.own∨c∈m0.own→H c=none:=fun c hc=>by
   rcases hc with h|h
   ·exact fr Kc Bc (fa0 c h)
   ·exact fr (Kc.trans s1.kept) (Bc.same s1) (gm0 c h)
  have Z0:gD A.aj H2 a0 m0 [none] [none] L 0 [] 0 [] [] [] [] []:=⟨h0.same s2,M0,jak hL1 hL2,rfl,fun i vs e=>by simp at e,⟨fun _=>[],fun i xs e=>by simp at e⟩,fun c hc PN =>by
   obtain⟨o,e⟩:=h0.al c hc;rw[gm0 c PN] at e;cases e⟩
  refine⟨_,rfl,b,26,1,rfl,B2,by lia,by decide,by decide,fun r H3 r0 r1 B3 O3=>⟨10,r,rfl,rfl,10+r,rfl,by lia,by lia,?_⟩⟩;have Z3:gD A.aj H3 a0 m0 [none] [none] L 0 [] 0 [] [] [] [] []:=Z0.kept (fun c o hc e=>O3.kept c o (B.ne (fr0 c hc)) e) (KZ O3.kept B2);refine wF (lo:=0) (n:=(10+r).toNat) (fun i σ H' =>∃(x4:Option V) (a:HA) (m:MW) (ps ts:ay) (pk:Nat) (R:Rm) (N:Nat) (rs ws ms:aY) (cs:cE) (G:List Nat),σ=[some (.ref b),some (.int L),some (.ref a.f),some (.ref m.d),x4]∧gD A.aj H' a m ps ts L pk R N rs ws ms cs G∧(∀c,c∈a.own∨c∈m.own→H c=none)∧Kept b H H'∧bH H' b (2+12*i)∧R.length+ts.length≤1+i∧N≤2*i) ⟨_,a0,m0,_,_,_,_,_,_,_,_,_,_,rfl,Z3,fr0,K2.trans O3.kept,B3,Nat.le_refl _,Nat.le_refl _⟩ ?_ ?_
  ·rintro i σ H4 hi ⟨x4,a,m,ps,ts,pk,R,N,rs,ws,ms,cs,G,rfl,Z,IS,K4,B4,hRl,hN⟩
   have NF :i<36:=by lia
   refine⟨_,rfl,_,rfl,_,rfl,b,2+12*i,a,m,ps,ts,L,pk,R,N,rs,ws,ms,cs,G,rfl,B4,by lia,Z,fun z=>B.ne (IS b (.inl z)) rfl,fun z=>B.ne (IS b (.inr z)) rfl,by lia,by lia,fun a' m' FC ts' MI R' N' Mx H_ KC MF G' H5 Z' ef ed ga gm kp kt B' hR' hN' _=> ?_⟩;refine⟨_,rfl,dH ⟨_,a',m',FC,ts',MI,R',N',Mx,H_,KC,MF,G',by rw[ef,ed];rfl,Z',fun c hc=> ?_,fun c o hc e=> ?_,B'.mono (by lia),by lia,by lia⟩⟩
   ·rcases hc with h|h
    ·exact(ga c h).elim (fun h=>IS c (.inl h)) (fun h=>fr K4 B4 h)
    ·exact(gm c h).elim (fun h=>IS c (.inr h)) (fun h=>fr K4 B4 h)
   ·refine kp c o hc (fun z=> ?_) (fun z=> ?_) (K4 c o hc e)
    ·rw[IS c (.inl z)] at e;cases e
    ·rw[IS c (.inr z)] at e;cases e
  ·rintro σ H4 ⟨x4,a,m,ps,ts,pk,R,N,rs,ws,ms,cs,G,rfl,Z,IS,K4,B4,hRl,hN⟩
   have hW:=Z.G.W.len;refine⟨_,rfl,_,rfl,_,rfl,_,rfl,b,m,ps,ts,L,pk,R,ws,ms,cs,G,2+12*(10+r).toNat,rfl,B4,by lia,Z.mo,fun z=>B.ne (IS b (.inr z)) rfl,hW,by lia,by lia,fun d kv ns oh H5 hd hh AY nd B5 K5=>⟨Wo,fun t ht=> ?_⟩⟩;have s6:=aw.upd (o:= .tup [V.ref a.f,.ref m.d,.ref d]) ht;have fd:=fr K4 B4 hd;have Z5:gD A.aj H5 a m ps ts L pk R N rs ws ms cs G:=Z.kept (fun c o hc e=>K5 c o (B.ne (IS c hc)) e) (KZ K5 B4);refine q t a m d _ (fr (K4.trans K5) B5 ht) af ⟨ps,ts,L,pk,R,N,rs,ws,ms,cs,G,kv,ns,oh,Z5.same s6,hh.same s6,AY,nd,by lia,by lia,fun z=> ?_,fun z=> ?_⟩ (fun c hc=> ?_) ((K4.trans K5).trans s6.kept) ((B5.same s6).mono (by lia))
   ·obtain⟨o,e⟩:=Z.h.al d z;rw[hd] at e;cases e
   ·obtain⟨o,e⟩:=Z.mo.al d z;rw[hd] at e;cases e
   ·rcases hc with h|h|h
    ·exact IS c (.inl h)
    ·exact IS c (.inr h)
    ·rw[h];exact fd
end
open PySem.SeqAt
structure Ly(k:Nat)(d:PyData):Prop where
 lay:d.canLay0=true
 mix:noMix d d=true
 dp:d.depth≤k
theorem Ly.mono{k k' :Nat}{d:PyData}(h:Ly k d)(hk:k≤k'):Ly k' d:=⟨h.lay,h.mix,Nat.le_trans h.dp hk⟩
theorem Ly.shaped{k:Nat}{d:PyData}(h:Ly k d)(hk:k≤64):shaped d=true:=by
 show(PyData.canLay0 d&&decide (PyData.depth d≤64))=true;rw[h.lay,decide_eq_true (Nat.le_trans h.dp hk)];rfl
theorem Bt{k:Nat}:∀{ds:List PyData},(∀d∈ds,Ly k d)→PyData.canLayAll0 ds=true∧noMixAll ds ds=true∧PyData.depthAll ds≤k
 |[],_=>by simp[PyData.canLayAll0,noMixAll,PyData.depthAll]
 |d::r,h=>by
  obtain⟨h1,h2,h3⟩:=Bt (ds:=r) fun x hx=>h x (List.mem_cons_of_mem _ hx);have g:=h d List.mem_cons_self;refine⟨?_,?_,?_⟩
  ·simp only[PyData.canLayAll0,g.lay,h1,Bool.and_self]
  ·simp only[noMixAll,g.mix,h2,Bool.and_self]
  ·simp only[PyData.depthAll];exact Nat.max_le.mpr ⟨g.dp,h3⟩
theorem Ly.tup{k:Nat}{ds:List PyData}(h:∀d∈ds,Ly k d):Ly (k+1) (.tuple ds):=by
 obtain⟨h1,h2,h3⟩:=Bt h;refine⟨?_,?_,?_⟩
 ·simp only[PyData.canLay0,h1]
 ·simp only[noMix,h2]
 ·simp only[PyData.depth]
  lia
theorem Ly.list{k:Nat}{ds:List PyData}(h:∀d∈ds,Ly k d):Ly (k+1) (.list ds):=by
 obtain⟨h1,h2,h3⟩:=Bt h;refine⟨?_,?_,?_⟩
 ·simp only[PyData.canLay0,h1]
 ·simp only[noMix,h2]
 ·simp only[PyData.depth]
  lia
theorem rp(i:Int):Ly 1 (.int i):=⟨by simp only[PyData.canLay0],by simp only[noMix],by simp[PyData.depth]⟩
theorem CV:Ly 1 .none:=⟨by simp only[PyData.canLay0],by simp only[noMix],by simp[PyData.depth]⟩
theorem VC(o:Option Nat):Ly 1 (oD o):=by
 cases o with
 |none=>exact CV
 |some n=>exact rp _
theorem L6{x:Str}(h:cV x=true):PyData.strOk x=true:=by
 unfold cV at h;rw[Bool.and_eq_true] at h;show x.cps.all (· <1114112)=true;rw[←Array.all_toList];rw[List.all_eq_true];intro c hc;have:=List.all_eq_true.mp h.2 c hc;unfold dY at this;rw[Bool.and_eq_true] at this;have h2:=of_decide_eq_true this.2;exact decide_eq_true (by lia)
theorem Gg{x:Str}(h:cV x=true):x.length≤6:=by
 unfold cV at h;rw[Bool.and_eq_true,Bool.and_eq_true] at h;exact of_decide_eq_true h.1.2
theorem DJ{x:Str}(h:cV x=true):Ly 1 (.str x):=⟨by simp only[PyData.canLay0];exact L6 h,by simp only[noMix],by simp[PyData.depth]⟩
theorem Fo{x:Str}(h:cV x=true):Fits 150 3 (.str x):=by
 refine⟨?_,?_,?_⟩
 ·simp only[PyData.showable]
 ·simp[PyData.depth]
 ·have h1:=PyData.shown_le 8 (by decide) (.str x) (PyData.leavesShort_of_canLay0 8 _ (DJ h).lay (by simp only[PyData.intsShort]));have h2:PyData.weight (.str x)=x.length:=by simp only[PyData.weight];rfl
  have h3:=Gg h
  lia
theorem RP(f p:Nat):Ly 2 (eL f p):=Ly.tup fun d hd=>by
 simp only[List.mem_cons,List.not_mem_nil,or_false] at hd;rcases hd with rfl|rfl
 ·exact rp _
 ·exact rp _
theorem nJ{H:Hp}:∀{xs:ax} {ds:List PyData},xs.length=ds.length→(∀(j:Nat) x d,xs[j]? =some x→ds[j]? =some d→Dat H x d)→DatAll H xs ds
 |[],[],_,_=> .nil
 |[],_::_,h,_=>by simp at h
 |_::_,[],h,_=>by simp at h
 |x::xs,d::ds,h,k=> .cons (k 0 x d rfl rfl) (nJ (by simpa using h) fun j y e h1 h2=>k (j+1) y e (by simpa using h1) (by simpa using h2))
theorem c_.ly{H:Hp}{R:Rm}{v:V}{o:Option Nat}(h:c_ H R v o):∃e,mi H v e∧Ly 2 e:=by
 rcases h with⟨_,h|⟨i,h⟩⟩|⟨i,t,h1,h2,h3,h4⟩
 ·exact⟨.none,by rw[h];exact .bC,CV.mono (by decide)⟩
 ·exact⟨.int i,by rw[h];exact .int i,(rp i).mono (by decide)⟩
 ·exact⟨_,by rw[h2];exact rP h4,RP _ _⟩
theorem wQ{H:Hp}{R:Rm}:∀{kv:bG},(∀p∈kv,∃x o,p.1= .inr x∧cV x=true∧c_ H R p.2 o)→∃ds:List PyData,ds.length=kv.length∧(∀d∈ds,Ly 3 d)∧∀(j:Nat) p d,kv[j]? =some p→ds[j]? =some d→∃x e,p.1= .inr x∧mi H p.2 e∧d= .tuple [.str x,e]
 |[],_=>⟨[],rfl,(fun d hd=>by cases hd),(fun j p d e=>by simp at e)⟩
 |p0::r,h=>by
  obtain⟨x,o,e,hn,hv⟩:=h p0 List.mem_cons_self;obtain⟨d,hd,hl⟩:=hv.ly;obtain⟨ds,l1,l2,hr⟩:=wQ (kv:=r) fun p hp=>h p (List.mem_cons_of_mem _ hp);refine⟨.tuple [.str x,d]::ds,by rw[List.length_cons,List.length_cons,l1],fun f hf=> ?_,fun j p f e1 e2=> ?_⟩
  ·rcases List.mem_cons.mp hf with rfl|hf
   ·refine Ly.tup fun g hg=> ?_;simp only[List.mem_cons,List.not_mem_nil,or_false] at hg;rcases hg with rfl|rfl
    ·exact(DJ hn).mono (by decide)
    ·exact hl
   ·exact l2 f hf
  ·cases j with
   |zero=>
    cases e1;cases e2;exact⟨x,d,e,hd,rfl⟩
   |succ j=>exact hr j p f e1 e2
theorem cf.data{H:Hp}{R:Rm}{d:Addr}{kv:bG}{ns:aO}{oh:ay}(h:cf H R d kv ns oh):∃ds:List PyData,Ly 4 (.list ds)∧∀H' ys,aw H H'→nH H' ys kv→DatAll H' ys ds:=by
 obtain⟨ds,h1,h2,h3⟩:=wQ (H:=H) (R:=R) (kv:=kv) fun p hp=>by
  obtain⟨j,hj⟩:=List.mem_iff_getElem?.mp hp;obtain⟨e1,e2,e3⟩:=h.at_ j p.1 p.2 hj;exact⟨_,_,e1,e2,e3⟩
 refine⟨ds,Ly.list h2,fun H' ys s hp=>nJ (by rw[hp.1,h1]) fun j y d e1 e2=> ?_⟩
 have hj:j<kv.length:=by
  have:=(List.getElem?_eq_some_iff.mp e2).1
  lia
 have hk:kv[j]? =some kv[j]:=by simp[hj]
 obtain⟨x,e,f1,f2,rfl⟩:=h3 j _ d hk e2;obtain⟨a,g1,g2⟩:=hp.2 j kv[j].1 kv[j].2 hk;rw[e1] at g1;cases g1;refine .tup g2 (.cons ?_ (.cons (f2.kt (bI s)).dat .nil));rw[f1];exact .str x
theorem Ry(H:Hp)(o:Option Nat):Dat H (oV o) (oD o):=by
 cases rE H [o] with
 |cons h _=>exact h
def frD(ps:ay)(R:Rm)(A4:Nat→List PyData)(n:Nat):PyData:= .tuple [.int n,oD (ps.getD n none),.tuple ((aS R n).map fun m=> .tuple (A4 m))]
def Xh(ps ts:ay)(L:Nat)(R:Rm)(A4:Nat→List PyData):PyData:= .tuple [.int L,.tuple ((au ts).map fun n=>frD ps R A4 n)]
theorem xv.dat{ps:ay}{R:Rm}{cs:cE}{H:Hp}{n:Nat}{o:Option Nat}{v:V}{A4:Nat→List PyData}(hp:ps[n]? =some o)(hd:∀(m:Nat) vs,cs[m]? =some vs→DatAll H vs (A4 m))(h:xv R cs H n o v):Dat H v (frD ps R A4 n):=by
 obtain⟨t,tt,xs,rfl,h2,h3,h4,h5⟩:=h;have e:ps.getD n none=o:=by rw[List.getD_eq_getElem?_getD,hp];rfl
 unfold frD;rw[e];refine .tup h2 (.cons (.int _) (.cons (Ry _ _) (.cons (.tup h3 (nJ (by rw[List.length_map];exact h4) fun j x d e1 e2=> ?_)) .nil)));obtain⟨u,m,vs,rfl,f2,f3,f4⟩:=h5 j x e1;rw[List.getElem?_map,f2] at e2;cases e2;exact .tup f4 (hd m vs f3)
theorem vg.dat{ps ts:ay}{L:Nat}{R:Rm}{cs:cE}{H:Hp}{v:V}{A4:Nat→List PyData}(hd:∀(m:Nat) vs,cs[m]? =some vs→DatAll H vs (A4 m))(h:vg ps ts L R cs H v):Dat H v (Xh ps ts L R A4):=by
 obtain⟨t,tt,xs,rfl,h2,h3,h4,h5⟩:=h;refine .tup h2 (.cons (.int _) (.cons (.tup h3 (nJ (by rw[List.length_map];exact h4) fun j x d e1 e2=> ?_)) .nil));obtain⟨n,o,f1,f2,f3⟩:=h5 j x e1;rw[List.getElem?_map,f1] at e2;cases e2;exact f3.dat f2 hd
theorem RA{ps ts:ay}{L:Nat}{R:Rm}{A4:Nat→List PyData}(h:∀m,∀d∈A4 m,Ly 2 d):Ly 7 (Xh ps ts L R A4):=by
 refine Ly.tup fun d hd=> ?_;simp only[List.mem_cons,List.not_mem_nil,or_false] at hd;rcases hd with rfl|rfl
 ·exact(rp _).mono (by decide)
 ·refine Ly.tup fun d hd=> ?_;obtain⟨n,_,rfl⟩:=List.mem_map.mp hd;refine Ly.tup fun d hd=> ?_;simp only[List.mem_cons,List.not_mem_nil,or_false] at hd;rcases hd with rfl|rfl|rfl
  ·exact(rp _).mono (by decide)
  ·exact(VC _).mono (by decide)
  ·refine Ly.tup fun d hd=> ?_;obtain⟨m,_,rfl⟩:=List.mem_map.mp hd;exact Ly.tup (h m)
theorem wo{H:Hp}{R:Rm}:∀{xs:ax},(∀v∈xs,∃o,c_ H R v o)→∃ds,DatAll H xs ds∧∀d∈ds,Ly 2 d
 |[],_=>⟨[],.nil,fun d hd=>by cases hd⟩
 |v::r,h=>by
  obtain⟨ds,h1,h2⟩:=wo (xs:=r) fun u hu=>h u (List.mem_cons_of_mem _ hu);obtain⟨o,hv⟩:=h v List.mem_cons_self;obtain⟨e,he,hl⟩:=hv.ly;exact⟨e::ds,.cons he.dat h1,fun d hd=>(List.mem_cons.mp hd).elim (fun z=>z▸hl) (h2 d)⟩
theorem fY.data{H:Hp}{R:Rm}{cs:cE}{oS:Nat→ay}(c:fY H R cs oS):∃A4:Nat→List PyData,(∀(m:Nat) vs,cs[m]? =some vs→DatAll H vs (A4 m))∧∀m,∀d∈A4 m,Ly 2 d:=by
 have ex:∀m:Nat,∃ds:List PyData,(∀vs,cs[m]? =some vs→DatAll H vs ds)∧∀d∈ds,Ly 2 d:=fun m=>by
  cases e:cs[m]? with
  |none=>exact⟨[],(fun vs h=>by cases h),(fun d hd=>by cases hd)⟩
  |some vs=>
   obtain⟨ds,h1,h2⟩:=wo (H:=H) (R:=R) (xs:=vs) fun v hv=>by
    obtain⟨k,hk⟩:=List.mem_iff_getElem?.mp hv;exact⟨_,(c m vs e).2.2 k v hk⟩
   exact⟨ds,(fun vs' h=>by cases h;exact h1),h2⟩
 obtain⟨f,hf⟩:=Classical.axiomOfChoice ex;exact⟨f,fun m vs h=>(hf m).1 vs h,fun m=>(hf m).2⟩
theorem sf{α β:Type}(f:α→List β){c:Nat}:∀l:List α,(∀x∈l,(f x).length≤c)→(l.flatMap f).length≤l.length*c
 |[],_=>by simp
 |a::r,h=>by
  rw[List.flatMap_cons,List.length_append,List.length_cons,Nat.succ_mul];have:=sf f r fun x hx=>h x (List.mem_cons_of_mem _ hx);have:=h a List.mem_cons_self
  lia
theorem Ai(R:Rm){S:List Nat}(h:S.Nodup):(S.flatMap (aS R)).length≤R.length:=by
 rw[uZ R _ h];refine Nat.le_trans (List.length_filter_le _ _) ?_;rw[List.length_range];exact Nat.le_refl _
theorem LS{R:Rm}(hR:6*R.length≤1000)(h6:∀r∈R,r.2≤6)(hf:∀r∈R,r.1≤1000):∀o:Option Nat,Fits 1000 4 (wD R o)
 |none=>Ei.mono (by decide) (by decide)
 |some i=>by
  refine Hy ?_ ?_
  ·by_cases hi:i<R.length
   ·have:=hf _ (xz hi)
    lia
   ·rw[List.getD_eq_getElem?_getD,List.getElem?_eq_none (by lia)];exact Nat.zero_le _
  ·have:=IZ R h6 i
   lia
theorem EW{ts:ay}{R:Rm}{S:List Nat}{ns:aO}{oh:ay}{oS:Nat→ay}(hR:6*R.length≤1000)(h6:∀r∈R,r.2≤6)(hf:∀r∈R,r.1≤1000)(AY:ns.length≤40)(hn:∀x∈ns,cV x=true)(hoS:∀i,i<R.length→(oS i).length≤6):(PyData.list (n_ ts R S ns oh oS)).showable=true∧(PyData.list (n_ ts R S ns oh oS)).depth≤90∧(PyData.list (n_ ts R S ns oh oS)).shown.length≤sizeLine:=by
 have hw:=LS hR h6 hf
 have f:Fits _ 6 (.list (n_ ts R S ns oh oS)):=Fits.list (B:=8000) (k:=5) fun d hd=>by
  rcases List.mem_append.mp hd with hd|hd
  ·obtain⟨j,hj,rfl⟩:=List.mem_map.mp hd;refine(Fits.tup (B:=1000) (k:=4) fun e he=> ?_).mono (by show 1000*3+2*3+3≤8000;decide) (Nat.le_refl _);simp only[List.mem_cons,List.not_mem_nil,or_false] at he;rcases he with rfl|rfl|rfl
   ·exact(wk (by decide+kernel)).mono (by decide) (by decide)
   ·have hj:=List.mem_range.mp (List.mem_filter.mp hj).1;exact(Fo (hn _ (List.mem_of_getElem? (yh hj)))).mono (by decide) (by decide)
   ·exact hw _
  ·obtain⟨i,hi,hd⟩:=List.mem_flatMap.mp hd;obtain⟨k,hk,rfl⟩:=List.mem_map.mp hd;obtain⟨n,_,KP⟩:=List.mem_flatMap.mp hi;have hk:=List.mem_range.mp (List.mem_filter.mp hk).1;have h6' :=hoS i (dy KP);refine(Fits.tup (B:=1000) (k:=4) fun e he=> ?_).mono (by show 1000*4+2*4+3≤8000;decide) (Nat.le_refl _);simp only[List.mem_cons,List.not_mem_nil,or_false] at he;rcases he with rfl|rfl|rfl|rfl
   ·exact(wk (by decide+kernel)).mono (by decide) (by decide)
   ·exact hw _
   ·exact(uw (by lia)).mono (by decide) (by decide)
   ·exact hw _
 have l1:(sr R S ns oh).length≤40:=by
  unfold sr;rw[List.length_map];refine Nat.le_trans (List.length_filter_le _ _) ?_;rw[List.length_range];exact AY
 have l2:(mJ R S oS (((au ts).filter fun n=> !decide (n∈S)).flatMap (aS R))).length≤R.length*6:=by
  unfold mJ;refine Nat.le_trans (sf _ (c:=6) _ fun i hi=> ?_) (Nat.mul_le_mul_right 6 (Ai R ((jw ts).filter _)));obtain⟨n,_,KP⟩:=List.mem_flatMap.mp hi;unfold Gb;rw[List.length_map];refine Nat.le_trans (List.length_filter_le _ _) ?_;rw[List.length_range];exact hoS i (dy KP)
 have l3:(n_ ts R S ns oh oS).length≤1040:=by
  unfold n_;rw[List.length_append]
  lia
 have hs:sizeLine=16777216:=by decide
 exact⟨f.sh,Nat.le_trans f.dp (by decide),Nat.le_trans f.ln (by rw[hs];lia)⟩
theorem Mu{ts:ay}(h0:ts[0]? =some none){v:V}(hv:v∈vS ((au ts).map nV) (some 1) none):∃t,v=nV t∧t≠0∧ts[t]? =some none:=by
 have hv:=List.mem_of_mem_take hv;have hm:0∈au ts:=cw.mpr (by rw[h0];rfl);have z_:0<(au ts).length:=List.length_pos_of_mem hm
 have e:HT.za ((au ts).map nV).length 0 (some 1)=1:=by
  rw[show(1:Int)=((1:Nat):Int) from rfl,HT.M1,List.length_map]
  lia
 rw[e] at hv;obtain⟨i,hi⟩:=List.mem_iff_getElem?.mp hv;rw[List.getElem?_drop,List.getElem?_map] at hi
 cases hg:(au ts)[1+i]? with
 |none=>
  rw[hg] at hi;cases hi
 |some t=>
  rw[hg] at hi;cases hi;refine⟨t,rfl,fun z=> ?_,eq_of_beq (cw.mp (List.mem_of_getElem? hg))⟩;subst z;have hs:(au ts).Pairwise (· < ·):=List.Pairwise.filter _ List.pairwise_lt_range;have h1:=(List.getElem?_eq_some_iff.mp hg);obtain⟨h1,h2⟩:=h1;have:=List.pairwise_iff_getElem.mp hs 0 (1+i) z_ h1 (by lia);rw[h2] at this;exact absurd this (Nat.not_lt_zero _)
theorem S8(x:Str):(!decide (V.str x=V.str x))=false:=by rw[decide_eq_true rfl];rfl
section
variable{P:Program}{w:World}{K:Frag}{mg:Str→aN}{base:Heap}{A:qH}
def MA(C:Addr):Sp:=fun vs H Q _=>∃a m d n,vs=[.ref a.f,.ref m.d,.ref d]∧nC C H a m d n∧n≤100∧∀H',aw H H'→Q (.bl true) H'
theorem vR(T:Txt K mg A):bu P w K mg base eF 10 A.lX A.kJ ["_law_house","_law_world_here","_law_hands_here"] (MA A.aj):=by
 have bO:=(de (P:=P) (w:=w) (base:=base) T).mono (by decide:_≤9);have xi:=(vk (P:=P) (w:=w) (base:=base) T).mono (by decide:_≤9);have ER:=(By (P:=P) (w:=w) (base:=base) T).mono (by decide:_≤9);have sS:=(rj (P:=P) (w:=w) (base:=base) T).mono (by decide:_≤9);have u4:=(sR (P:=P) (w:=w) (base:=base) T).mono (by decide:_≤9);have rR:=(p_ (P:=P) (w:=w) (base:=base) T).mono (by decide:_≤9);refine T.iM.ok cU (fun vs H Q E h=> ?_) (fun cJ Ar outer s H vs Q E hr h=> ?_)
 ·obtain⟨a,m,d,n,rfl,_⟩:=h;rfl
 ·obtain⟨a,m,d,n,rfl,Sc,hn,q⟩:=h;have hu:=dv hr;have hgd:=hr.gd;have AX:_+100<cLine:=Nat.lt_of_le_of_lt (Nat.add_le_add_left (by decide:100≤16*9+200) _) (by have:=hr.un;omega);refine⟨_,(ai (aZ (i:=3) cU.nd rfl (Or.inl rfl) (cx (lZ rfl) (by rfl) T.qW Boot.«dict» (aa (KR (cx (iH rfl) (by rfl) T.pE Boot.«list» (aa (oT plainAttrs_dict slot_dict_items type_dict_items mN (pv 2)) ae)) ao (wK ra ao)) ae))) (ai (ir PassesOwn.never rfl (cQ (mC Ma (aA bO hr rfl T.dN T.cI.kp T.dE .nil aB (aa (pv 1) ae)) (jy ao) pN)) (a_ (i:=4) cU.nd rfl (Or.inl rfl) (Or.inl rfl)) (aq (ir PassesOwn.never rfl (cQ (b7 (aa (pv 2) (aa (pv 3) (aa j8 (aa (pv 2) ae)))))) (a_ (i:=5) cU.nd rfl (Or.inl rfl) (Or.inl rfl)) (ai (aZ (i:=6) cU.nd rfl (Or.inl rfl) (aA xi hr rfl T.xI T.pZ.kp T.xb .nil aB (aa (pv 1) (aa (pv 4) (aa (pv 5) ae))))) (ai (aZ (i:=7) cU.nd rfl (Or.inl rfl) (cx ur (by rfl) T.qW Boot.«dict» (aa (pv 5) ae))) (ai (aZ (i:=8) cU.nd rfl (Or.inl rfl) (aA ER hr rfl T.Ex T.wJ.kp T.E3 .nil aB (aa (pv 0) (aa (pv 4) (aa (pv 7) ae))))) (ai (b_ (PW.pt (jac (ba UP (aT (wd hgd AX) (by rfl) T.xT Boot.«repr» (aa (pv 8) ae)) (aT (wd hgd AX) (by rfl) T.xT Boot.«repr» (aa (pv 6) ae)) (br _)) (ZB (ba (wL AX) (cx (iH rfl) (by rfl) T.pE Boot.«list» (aa (oT plainAttrs_dict slot_dict_items type_dict_items mN (pv 7)) ae)) (cx (iH rfl) (by rfl) T.pE Boot.«list» (aa (oT plainAttrs_dict slot_dict_items type_dict_items mN (pv 5)) ae)) (br _))))) (aq (aH qC)) bh) (ai (bB (iq plainAttrs_list PySem.F.slot_list_append PySem.F.type_list_append cv (pv 8) (aa cG ae))) (aq (bB (oT plainAttrs_list PySem.F.slot_list_reverse PySem.F.type_list_reverse Bd (pv 8)))))))))))) (aq (aH (iB (fq (w6 AX) (dP (pv 0) T.az T.sN sS hr T.sT .nil aB) (aA u4 hr rfl T.uz T.m_.kp T.uG .nil aB (aa (pv 1) ae)) (br _)) (iG (fq j9 (dP (pv 0) T.az T.rq rR hr T.qP .nil aB) (aX hu (pv 1) aM (fun _ _=>rfl)) (br _)))))))),?_⟩;obtain⟨ps,ts,L,pk,R,N,rs,ws,ms,cs,G,kv,ns,oh,Z,hd,AY,nd,Vx,hN,YS,Yw⟩:=Sc;have hW:=Z.G.W.len;have Fx:=Z.G.ts;have hR:R.length≤100:=by lia
  refine⟨_,rfl,.inr (.inr (.inl ⟨rfl,.inl ⟨_,hd.ob⟩⟩)),d,kv,rfl,rfl,hd.ob,fun v hv=> ?_⟩;have s1:=aw.upd (o:=j3 v d) hv;refine⟨v,d,kv,rfl,af,s1 _ _ hd.ob,fun l ys H2 hl sm hy hp=> ?_⟩;have s2:aw H H2:=s1.trans sm;refine⟨0,rfl,1,rfl, -1,rfl,l,ys,rfl,rfl,rfl,bD.of hy,fun p zs hp0 SF hz=> ?_⟩;have s3:=aw.upd (o:= .lst zs) hp0;have e3:upd H2 p (.lst zs) p=some (.lst zs):=af;generalize upd H2 p (.lst zs)=H3 at s3 e3
  have hz1:∀z∈zs,∃a x u o,z= .ref a∧H2 a=some (.tup [.str x,u])∧cV x=true∧c_ H R u o:=fun z hzm=>by
   obtain⟨i,_,hi⟩:=hz z hzm
   have hik:i<kv.length:=by
    have:=(List.getElem?_eq_some_iff.mp hi).1;have:=hp.1
    lia
   have hk:kv[i]? =some kv[i]:=by simp[hik]
   obtain⟨a',g1,g2⟩:=hp.2 i kv[i].1 kv[i].2 hk;obtain⟨f1,f2,f3⟩:=hd.at_ i kv[i].1 kv[i].2 hk;rw[hi] at g1;cases g1;rw[f1] at g2;exact⟨a',_,_,_,rfl,g2,f2,f3⟩
  obtain⟨kvs,hkl,Pe⟩:∃kvs,nH H3 zs kvs:=uL fun i v e=>by
   obtain⟨a',x,u,o,rfl,g,_,_⟩:=hz1 v (List.mem_of_getElem? e);exact⟨a',.inr x,u,rfl,s3 _ _ g⟩
  have xo:∀p∈kvs,∃x o,p.1= .inr x∧cV x=true∧c_ H R p.2 o:=fun p hpm=>by
   obtain⟨i,hi⟩:=List.mem_iff_getElem?.mp hpm;obtain⟨a',ea,ha⟩:=Pe i p.1 p.2 hi;obtain⟨a2,x,u,o,ez,g,g2,g3⟩:=hz1 _ (List.mem_of_getElem? ea);cases ez;rw[s3 _ _ g] at ha;simp only[Option.some.injEq,HO.tup.injEq,List.cons.injEq,and_true] at ha;exact⟨x,o,FO ha.1.symm,g2,ha.2▸g3⟩
  refine⟨p,zs,kvs,rfl,e3,⟨hkl,Pe⟩,fun d2 hd2=> ?_⟩;obtain⟨nd2,al⟩:=u6 kvs [] List.nodup_nil (fun p hp=>nomatch hp) xo;have s4:=aw.upd (o:= .dK (fw [] kvs)) hd2;have Tp:aw H (upd H3 d2 (.dK (fw [] kvs))):=(s2.trans s3).trans s4
  obtain⟨ns2,oh2,hh2⟩:=cf.of (H:=upd H3 d2 (.dK (fw [] kvs))) (R:=R) (d:=d2) af fun p hp=>by
   obtain⟨x,o,e1,e2,e3⟩:=al p hp;exact⟨x,o,e1,e2,e3.kt (bI Tp)⟩
  generalize upd H3 d2 (.dK (fw [] kvs))=H4 at s4 Tp hh2
  have Y9:ns2.length≤40:=by
   have h1:=fc kvs [];rw[List.length_nil] at h1;have:=hh2.ln;have:=hp.1;have:=hd.ln
   lia
  have Z4:=Z.same Tp
  have fo:∀{c:Addr} {H' :Hp},aw H H'→H' c=none→(¬c∈a.own)∧¬c∈m.own:=fun{c H'} s' hc=>by
   refine⟨fun z=> ?_,fun z=> ?_⟩
   ·obtain⟨o,e⟩:=Z.h.al c z;rw[s' _ _ e] at hc;cases hc
   ·obtain⟨o,e⟩:=Z.mo.al c z;rw[s' _ _ e] at hc;cases hc
  have Vq:=fo (s2.trans s3) hd2;refine⟨_,rfl,m,ps,ts,L,pk,R,ws,ms,cs,G,rfl,Z4.mo,by lia,fun st H5 iP s5 Zv=>⟨1,rfl,st,_,rfl,bD.of Zv,fun fp hfp=> ?_⟩⟩;have s6:=aw.upd (o:= .lst (vS ((au ts).map nV) (some 1) none)) hfp;have e6:upd H5 fp (.lst (vS ((au ts).map nV) (some 1) none)) fp=some (.lst (vS ((au ts).map nV) (some 1) none)):=af;generalize upd H5 fp (.lst (vS ((au ts).map nV) (some 1) none))=H6 at s6 e6;have s46:aw H4 H6:=s5.trans s6;refine⟨fp,rfl,⟨_,bD.of e6⟩,?_⟩;refine fi (K:=K) (a:=fp) (xs:=vS ((au ts).map nV) (some 1) none) (fun i σ H' =>∃(x4 x5 x6 x7 x8:Option V),σ=[some (.ref a.f),some (.ref m.d),some (.ref d),some (.ref d2),x4,x5,x6,x7,x8]∧aw H6 H') ⟨_,_,_,_,_,rfl,aw.refl H6⟩ ?_ ?_ ?_
  ·rintro i σ H' _ ⟨x4,x5,x6,x7,x8,rfl,s'⟩
   exact bD.of (s' _ _ e6)
  ·rintro i x σ H7 hx ⟨x4,x5,x6,x7,x8,rfl,s7⟩
   obtain⟨t,rfl,ht0,pF⟩:=Mu Z.G.g (List.mem_of_getElem? hx);have Rl:aw H H7:=(Tp.trans s46).trans s7;refine⟨_,rfl,_,rfl,fun e0 Fp=>⟨_,rfl,(show 4≤sizeLine by decide),fun lp T_=> ?_⟩⟩;have s8:=aw.upd (o:= .dK []) Fp;have e8:upd H7 e0 (.dK []) e0=some (.dK []):=af;generalize upd H7 e0 (.dK [])=H8 at s8 e8 T_;have s9:=aw.upd (o:= .lst [V.ref d,.ref d2,.ref e0,.ref d]) T_;have e9:upd H8 lp (.lst [V.ref d,.ref d2,.ref e0,.ref d]) lp=some (.lst [V.ref d,.ref d2,.ref e0,.ref d]):=af;generalize upd H8 lp (.lst [V.ref d,.ref d2,.ref e0,.ref d])=H9 at s9 e9;have s09:aw H H9:=Rl.trans (s8.trans s9);have ne0:=fo Rl Fp
   have hv9:∀v∈[V.ref d,.ref d2,.ref e0,.ref d],∃d' vj Fu Kj,v= .ref d'∧cf H9 R d' vj Fu Kj∧Fu.length≤40∧(vj.map (·.1)).Nodup∧(¬d'∈a.own)∧¬d'∈m.own:=fun v hv=>by
    simp only[List.mem_cons,List.not_mem_nil,or_false] at hv;have h1:∃d' vj Fu Kj,V.ref d= .ref d'∧cf H9 R d' vj Fu Kj∧Fu.length≤40∧(vj.map (·.1)).Nodup∧(¬d'∈a.own)∧¬d'∈m.own:=⟨d,kv,ns,oh,rfl,hd.same s09,AY,nd,YS,Yw⟩;rcases hv with rfl|rfl|rfl|rfl
    ·exact h1
    ·exact⟨d2,_,ns2,oh2,rfl,hh2.same ((s46.trans s7).trans (s8.trans s9)),Y9,nd2,Vq.1,Vq.2⟩
    ·exact⟨e0,[],[],[],rfl,⟨s9 _ _ e8,rfl,rfl,fun j k v e=>by simp at e⟩,Nat.zero_le _,List.nodup_nil,ne0.1,ne0.2⟩
    ·exact h1
   refine⟨lp,rfl,⟨_,bD.of e9⟩,?_⟩;refine fi (K:=K) (a:=lp) (xs:=[V.ref d,.ref d2,.ref e0,.ref d]) (fun i σ H' =>∃(x5 x6 x7 x8:Option V),σ=[some (.ref a.f),some (.ref m.d),some (.ref d),some (.ref d2),some (.int t),x5,x6,x7,x8]∧aw H9 H') ⟨_,_,_,_,rfl,aw.refl H9⟩ ?_ ?_ ?_
   ·rintro i σ H' _ ⟨x5,x6,x7,x8,rfl,s'⟩
    exact bD.of (s' _ _ e9)
   ·rintro i x σ Si hx ⟨x5,x6,x7,x8,rfl,Fe⟩
    obtain⟨d',vj,Fu,Kj,rfl,JT,ZA,nd',aq6,aaf⟩:=hv9 x (List.mem_of_getElem? hx);have QK:aw H Si:=s09.trans Fe;have Z10:=Z.same QK;obtain⟨oS,c0⟩:=Z.ok;have Yr:=c0.kt (bI QK);have Vg:=JT.same Fe;refine⟨_,rfl,_,rfl,_,rfl,m,ps,ts,L,pk,R,ws,ms,cs,G,oS,d',vj,Fu,Kj,t,rfl,Z10.mo,Z.G.W,by lia,fun r hr=>⟨(Z.G.rw r hr).1,(Z.G.rw r hr).2.2⟩,Nat.le_trans (KJ ts R) (by lia),Yr,Vg,by lia,nd',aaf,fun dl ys1 Qp hdl Tr ag ZF _=> ?_⟩;have XH:aw H Qp:=QK.trans Tr;have A9:=Vg.same Tr;refine⟨_,rfl,d',vj,rfl,A9.ob,fun d3 Kn=> ?_⟩;have MC:=aw.upd (o:= .dK vj) Kn;have Sq:cf (upd Qp d3 (.dK vj)) R d3 vj Fu Kj :=⟨af,A9.ln,A9.lo,fun j k v e=>⟨(A9.at_ j k v e).1,(A9.at_ j k v e).2.1,(A9.at_ j k v e).2.2.kt (bI MC)⟩⟩;have n3:=fo XH Kn;generalize upd Qp d3 (.dK vj)=H12 at MC Sq;have UA:aw H H12:=XH.trans MC;have Z12:=Z.same UA;refine⟨_,rfl,_,rfl,_,rfl,a,ps,ts,L,pk,R,N,rs,cs,d3,vj,Fu,Kj,oS,t,rfl,Z12.h,Z.r1,Z.cl,n3.1,Sq,by lia,Z.G.W,rW pF,ht0,by lia,c0.kt (bI UA),fun fl Ef H13 BE s13 We adu ju=> ?_⟩;have IA:aw Qp H13:=MC.trans s13
    obtain⟨w1,w2,w3⟩:=EW (ts:=ts) (R:=R) (S:=bx ps ts t) (ns:=Fu) (oh:=Kj) (oS:=oS) (by lia) (fun r hr=>(Z.G.rw r hr).2.1) (fun r hr=>by have:=(Z.G.rw r hr).2.2;lia) ZA (fun x hx=>by
     obtain⟨j,hj⟩:=List.mem_iff_getElem?.mp hx;have FD:=(List.getElem?_eq_some_iff.mp hj).1
     have hjk:j<vj.length:=by
      have:=JT.ln
      lia
     have hk:vj[j]? =some vj[j]:=by simp[hjk]
     have:=(JT.at_ j vj[j].1 vj[j].2 hk).2.1;rw[List.getD_eq_getElem?_getD,hj] at this;exact this) (fun i hi=>by
     have An:i<cs.length:=by rw[Z.cl];exact hi
     have hc:cs[i]? =some cs[i]:=by simp[An]
     have:=(c0 i _ hc).1;have:=(c0 i _ hc).2.1
     lia)
    refine⟨_,rfl,_,.list (n_ ts R (bx ps ts t) Fu Kj oS),rfl,.lst We adu.dat,w1,w2,w3,_,rfl,_,.list (n_ ts R (bx ps ts t) Fu Kj oS),rfl,.lst (IA _ _ ag) (ZF.kt (bI IA)).dat,w1,w2,w3,rfl,_,rfl,?_⟩;rw[S8];refine dH ?_;have MS:=Sq.same s13;refine⟨_,rfl,.inr (.inr (.inl ⟨rfl,.inl ⟨_,MS.ob⟩⟩)),d3,vj,rfl,rfl,MS.ob,fun v1 hv1=> ?_⟩;have s14:=aw.upd (o:=j3 v1 d3) hv1;refine⟨v1,d3,vj,rfl,af,s14 _ _ MS.ob,fun l1 zs1 H15 Bu ZP ack acr=> ?_⟩;have zh:aw H13 H15:=s14.trans ZP;have QS:=(A9.same IA).same zh;refine⟨_,rfl,.inr (.inr (.inl ⟨rfl,.inl ⟨_,QS.ob⟩⟩)),d',vj,rfl,rfl,QS.ob,fun v2 Sr=> ?_⟩;have Kq:=aw.upd (o:=j3 v2 d') Sr;refine⟨v2,d',vj,rfl,af,Kq _ _ QS.ob,fun l2 zs2 H17 vi aaU ahC adR=> ?_⟩;have Al:aw H15 H17:=Kq.trans aaU;obtain⟨ds,lds,dds⟩:=MS.data;refine⟨.list ds,.list ds,.lst (Al _ _ ack) (DatAll.same Al (dds H15 zs1 zh acr)),.lst ahC (dds H17 zs2 (zh.trans Al) adR),lds.shaped (by decide),lds.shaped (by decide),lds.mix,_,rfl,?_⟩;rw[PySem.Spec.same_self];refine dH ?_;have Vd:=Al _ _ (zh _ _ We);refine⟨_,rfl,.inl ⟨rfl,_,bD.of Vd⟩,fl,Ef,.bC,rfl,rfl,Vd,Nat.lt_of_le_of_lt ju (by decide),?_⟩;refine⟨_,rfl,.inl ⟨rfl,_,bD.of af⟩,fl,_,rfl,rfl,af,?_⟩;refine⟨_,_,_,_,rfl,fun c o e=> ?_⟩;have S9:H9 fl=none:=((Fe.trans Tr).trans MC).free BE;rw[ah (ak e S9),ah (ak e S9)];exact(((((Fe.trans Tr).trans MC).trans s13).trans zh).trans Al) _ _ e
   ·rintro σ Si ⟨x5,x6,x7,x8,rfl,Fe⟩
    exact⟨_,_,_,_,_,rfl,s7.trans ((s8.trans s9).trans Fe)⟩
  ·rintro σ H7 ⟨x4,x5,x6,x7,x8,rfl,s7⟩
   have Rl:aw H H7:=(Tp.trans s46).trans s7;have Z7:=Z.same Rl;obtain⟨oS,c0⟩:=Z.ok;obtain⟨A4,d1,d2'⟩:=c0.data;have lp:=RA (ps:=ps) (ts:=ts) (L:=L) (R:=R) d2';obtain⟨dx,ho⟩:=Z7.h.ob;refine⟨_,rfl,a.f,dx,_,rfl,ho,aR (by decide+kernel),a,ps,ts,L,pk,R,N,rs,cs,rfl,Z7.h,Z.r1,Z.cl,hW,Fx,by lia,fun v1 H8 s8 p1=> ?_⟩;have Z8:=Z7.same s8;refine⟨_,rfl,m,ps,ts,L,pk,R,ws,ms,cs,G,rfl,Z8.mo,Z.r1,hW,Fx,by lia,fun v2 H9 s9 p2=> ?_⟩;refine⟨_,_,Dat.same s9 (p1.dat fun m vs e=>DatAll.same (Rl.trans s8) (d1 m vs e)),p2.dat fun m vs e=>DatAll.same ((Rl.trans s8).trans s9) (d1 m vs e),lp.shaped (by decide),lp.shaped (by decide),lp.mix,?_⟩;rw[PySem.Spec.same_self];have Z9:=Z8.same s9;obtain⟨dx9,ho9⟩:=Z9.h.ob;refine⟨_,rfl,eT ?_⟩;refine⟨_,rfl,a.f,dx9,_,rfl,ho9,aR (by decide+kernel),a,ps,ts,L,pk,R,N,rs,cs,rfl,Z9.h,_,rfl,m.d,_,rfl,Z9.mo.Te,rfl,?_⟩;rw[decide_eq_true (rfl:V.int (pk:Nat)=V.int (pk:Nat))];exact q H9 ((Rl.trans s8).trans s9)
def Cm(K:Frag):Sp:=fun vs H Q _=>∃(a:Addr) (ns:List Int),vs=[.ref a]∧bD K H a (ns.map V.int)∧ns.length≤63∧∀H',Q (.bl true) H'
theorem Q8(T:Txt K mg A):bu P w K mg base eF 11 A.FV A.zr ["_law_script"] (Cm K):=by
 have zE:=(xa (P:=P) (w:=w) (base:=base) T).mono (by decide:_≤10);have Bo:=(zo (P:=P) (w:=w) (base:=base) T).mono (by decide:_≤10);have yD:=vM (P:=P) (w:=w) (base:=base) T;have lg:=vR (P:=P) (w:=w) (base:=base) T;have ng:=(qd (P:=P) (w:=w) (base:=base) T).mono (by decide:_≤10);refine T.Vv.ok rg (fun vs H Q E h=> ?_) (fun cJ Ar outer s H vs Q E hr h=> ?_)
 ·obtain⟨a,ns,rfl,_⟩:=h;rfl
 ·obtain⟨a,ns,rfl,hS,hlen,q⟩:=h;have hu:=dv hr;refine⟨_,(ai (aZ (i:=1) rg.nd rfl (Or.inl rfl) cG) (ai (ir PassesOwn.never rfl (eO rfl T.gu (aa (aT (nE rfl) (by rfl) T.wA Boot.«max» (aa ao (aa (aT (EI rfl) (by rfl) T.FI Boot.«min» (aa ao (aa (aT bp (by rfl) T.fK Boot.«len» (aa (pv 0) ae)) ae))) ae))) ae)) (a_ (i:=2) rg.nd rfl (Or.inl rfl) (Or.inl rfl)) (ai (aZ (i:=3) rg.nd rfl (Or.inl rfl) (aA Bo hr rfl T.Bz T.uy.kp T.Bm .nil aB (aa (aA zE hr rfl T.AO T.sy.kp T.zk .nil aB (aa (pv 0) (aa (pv 2) ae))) ae))) (ai (aZ (i:=4) rg.nd rfl (Or.inl rfl) (aA yD hr rfl T.yd T.qB.kp T.xN .nil aB (aa (pv 3) ae))) (ai (b_ (PW.pt (jac (ba rM (pv 4) cG (br _)) (ZB (eS (dW (aA lg hr rfl T.lC T.iM.kp T.kQ .nil aB (aa (bb du (pv 4) ao (fun _ _=>rfl)) (aa (bb du (pv 4) ao (fun _ _=>rfl)) (aa (bb du (pv 4) ao (fun _ _=>rfl)) ae))))))))) (aq (aH qC)) bh) (ai (b_ (PW.pt (jac (eS (dW (aA ng hr rfl T.sG T.mz.kp T.sD .nil aB (aa (pv 3) (aa (bb du (pv 4) ao (fun _ _=>rfl)) (aa (bb du (pv 4) ao (fun _ _=>rfl)) ae)))))) (ZB (eS (dW (aA lg hr rfl T.lC T.iM.kp T.kQ .nil aB (aa (bb du (pv 4) ao (fun _ _=>rfl)) (aa (bb du (pv 4) ao (fun _ _=>rfl)) (aa (bb du (pv 4) ao (fun _ _=>rfl)) ae))))))))) (aq (aH qC)) bh) (ai (b_ (PW.pt (WP (ba tM (pv 1) cG (br _)) (zn (eS (dW (aA lg hr rfl T.lC T.iM.kp T.kQ .nil aB (aa (bb du (pv 1) ao (fun _ _=>rfl)) (aa (bb du (pv 1) ao (fun _ _=>rfl)) (aa (bb du (pv 1) ao (fun _ _=>rfl)) ae))))))))) (aq (aH qC)) bh) (aq (aZ (i:=1) rg.nd rfl (Or.inl rfl) (pv 4))))))))) (aq (aH qC)))),?_⟩;refine⟨_,rfl,a,_,rfl,.inl hS,5,_,rfl,2,_,rfl,?_⟩;generalize hn:(if(if((List.map V.int ns).length:Int)<5 then((List.map V.int ns).length:Int) else 5)>2 then(if((List.map V.int ns).length:Int)<5 then((List.map V.int ns).length:Int) else 5) else 2)=n
  have nn:0≤n∧n≤5:=by
   rw[←hn]
   split<;>split<;>lia
  refine⟨n,rfl,by lia,by lia,?_⟩;refine wF (lo:=0) (n:=n.toNat) (fun i σ H' =>∃(v1:V) (x2 x3 x4:Option V),σ=[some (.ref a),some v1,x2,x3,x4]∧aw H H'∧(v1= .bC∨∃t a' m' d',v1= .ref t∧H' t=some (.tup [.ref a'.f,.ref m'.d,.ref d'])∧nC A.aj H' a' m' d' 41)) ⟨_,_,_,_,rfl,aw.refl H,.inl rfl⟩ ?_ ?_
  ·rintro i σ H1 hi ⟨v1,x2,x3,x4,rfl,s1,hv1⟩
   refine⟨_,rfl,_,rfl,a,ns,_,rfl,s1.seq hS,by lia,by lia,fun c=>⟨c,rfl,fun b H2 hb B2 s2=> ?_⟩⟩;refine⟨_,rfl,b,rfl,B2,fun t a2 m2 d2 H3 ht0 XT Sc fr K3 B3=> ?_⟩;refine⟨_,rfl,rfl,_,rfl,?_⟩;rw[decide_eq_false (by intro z;cases z)];refine dH ?_;refine⟨_,rfl,t,_,0,_,rfl,rfl,mr.of XT,rfl,_,rfl,t,_,1,_,rfl,rfl,mr.of XT,rfl,_,rfl,t,_,2,_,rfl,rfl,mr.of XT,rfl,a2,m2,d2,40,rfl,Sc,by decide,fun H4 s4=>⟨_,rfl,dH ?_⟩⟩;have ht4:=s4 _ _ XT;have S4:=Sc.same s4;have B4:=B3.same s4;obtain⟨ps,ts,L,pk,R,N,rs,ws,ms,cs,G,kv,nms,oh,Z,hd,AY,nd,Vx,hN,YS,Yw⟩:=S4;have nb:∀{c:Addr},H2 c=none→c≠b:=fun hc=>B2.ne hc;refine⟨_,rfl,_,rfl,t,_,0,_,rfl,rfl,mr.of ht4,rfl,_,rfl,t,_,1,_,rfl,rfl,mr.of ht4,rfl,b,1000,a2,m2,ps,ts,L,pk,R,N,rs,ws,ms,cs,G,rfl,B4,by decide,Z,fun z=>nb (fr b (.inl z)) rfl,fun z=>nb (fr b (.inr (.inl z))) rfl,by lia,by lia,fun a' m' FC ts' MI R' N' Mx H_ KC MF G' H5 Z' ef ed ga gm kp kt B' hR' hN' hRe=>⟨_,rfl,dH ?_⟩⟩;obtain⟨ex,rfl⟩:=hRe
   have YE:H5 t=some (.tup [.ref a'.f,.ref m'.d,.ref d2]):=by
    rw[ef,ed];exact kt _ _ ht4
   have no4:∀{c:Addr} {o:HO},H2 c=some o→c≠b→H4 c=some o:=fun e hc=>s4 _ _ (K3 _ _ hc e)
   have f2:∀{c:Addr},H4 c=none→H2 c=none:=fun{c} hc=>by
    cases e:H2 c with
    |none=>rfl
    |some o=>
     by_cases z:c=b
     ·obtain⟨x,y,u,eb,_⟩:=B4;rw[z,eb] at hc;cases hc
     ·rw[no4 e z] at hc;cases hc
   have Wg:∀o,H4 d2=some o→H5 d2=some o:=fun o e=>kp d2 o (nb (fr d2 (.inr (.inr rfl)))) YS Yw e
   have S5:nC A.aj H5 a' m' d2 41:=by
    refine⟨FC,ts',L,MI,R++ex,N',Mx,H_,KC,MF,G',kv,nms,oh,Z',(hd.kept (Wg _ hd.ob) kt).app ex,AY,nd,by lia,by lia,fun z=> ?_,fun z=> ?_⟩
    ·rcases ga d2 z with h|h
     ·exact YS h
     ·rw[hd.ob] at h;cases h
    ·rcases gm d2 z with h|h
     ·exact Yw h
     ·rw[hd.ob] at h;cases h
   refine⟨_,rfl,t,_,0,_,rfl,rfl,mr.of YE,rfl,_,rfl,t,_,1,_,rfl,rfl,mr.of YE,rfl,_,rfl,t,_,2,_,rfl,rfl,mr.of YE,rfl,a',m',d2,41,rfl,S5,by decide,fun H6 s6=>⟨_,rfl,dH ?_⟩⟩
   have Kq:aw H1 H6:=fun c o e=>by
    have cb:c≠b:=ak e hb;have e2:=s2 _ _ e;refine s6 _ _ (kp c o cb (fun z=> ?_) (fun z=> ?_) (no4 e2 cb))
    ·rw[fr c (.inl z)] at e2;cases e2
    ·rw[fr c (.inr (.inl z))] at e2;cases e2
   have fin:∀H7,aw H6 H7→∃(v1:V) (x2 x3 x4:Option V),[some (.ref a),some (.ref t),some (.int (0+(i:Int))),some (.ref b),some (.ref t)]=[some (.ref a),some v1,x2,x3,x4]∧aw H H7∧(v1= .bC∨∃t a' m' d',v1= .ref t∧H7 t=some (.tup [.ref a'.f,.ref m'.d,.ref d'])∧nC A.aj H7 a' m' d' 41):=fun H7 s7=>
    ⟨_,_,_,_,rfl,(s1.trans Kq).trans s7,.inr ⟨t,a',m',d2,rfl,s7 _ _ (s6 _ _ YE),(S5.same s6).same s7⟩⟩
   refine⟨_,rfl,rfl,_,rfl,?_⟩;rcases hv1 with rfl|⟨t1,a1,m1,d1,rfl,YG,S1⟩
   ·rw[decide_eq_true (rfl:V.bC=V.bC)];exact dH ⟨_,rfl,fin H6 (aw.refl H6)⟩
   ·rw[decide_eq_false (by intro z;cases z)];refine eT ?_;have ht6:=Kq _ _ YG;refine⟨_,rfl,t1,_,0,_,rfl,rfl,mr.of ht6,rfl,_,rfl,t1,_,1,_,rfl,rfl,mr.of ht6,rfl,_,rfl,t1,_,2,_,rfl,rfl,mr.of ht6,rfl,a1,m1,d1,41,rfl,S1.same Kq,by decide,fun H7 s7=>⟨_,rfl,dH ⟨_,rfl,fin H7 s7⟩⟩⟩
  ·rintro σ H1 ⟨v1,x2,x3,x4,rfl,s1,_⟩
   exact q H1
end
theorem walk{l:PySem.W.OpenLaw}{q:Program}{loose:aO}{XP:(Str→aN)→Heap→Prop}{YP:World→Heap→Prop}{d:DefRec}{K:Params→Frag}(hn:l.most=some 63)(V9:d.params.defaults=[])
 (hY:∀(w:World) (h:Heap),YP w h→(K w.params).In h)
 (F:∀(w:World) (mg:Str→aN) (fa:Addr) (h:Heap),(K w.params).In h→h.Ns mainGlobals mg→mg d.name=some (.ref fa)→
  ∃fd:FuncData,(∀(s:Shared) (u:Value),BindsTo s fd ⟨[u],[]⟩ [("_law_script",u)])∧∀base:Heap,(K w.params).In base→base.Ns mainGlobals mg→bu l.prog w (K w.params) mg base eF 11 fa fd ["_law_script"] (Cm (K w.params))):
 PySem.W.WalkO q loose XP YP l.row.toRowW d [] (fun f vs=>PySem.call f vs):=
 L2.LU (n:=63) (k:=11) (x:="_law_script") (CX:=fun _=>eF) (sp:=fun w=>Cm (K w.params)) hn (by decide) V9 ⟨rfl,by decide,by decide,rfl⟩ hY F (fun _ _ a ns hl _ hS=>⟨a,ns,rfl,hS,hl,fun _=>rfl⟩) fun _ _ _ _ _ z=>z
theorem RN{l:PySem.W.OpenLaw}{w:World}{K:Frag}{h:Heap}{mg:Str→aN}{fa:Addr}(X:K.In h)(G:h.Ns mainGlobals mg)(WN:mg "law"=some (.ref fa))(hT:∃A:qH,Txt K mg A):
 ∃fd:FuncData,(∀(s:Shared) (u:Value),BindsTo s fd ⟨[u],[]⟩ [("_law_script",u)])∧∀base:Heap,K.In base→base.Ns mainGlobals mg→bu l.prog w K mg base eF 11 fa fd ["_law_script"] (Cm K):=by
 obtain⟨A,T⟩:=hT;have e:=WN.symm.trans T.UD;cases e;exact⟨A.zr,T.TQ,fun base _ _=>Q8 T⟩
abbrev fS(n q:Str)(s:Stmt)(kV dc pm:Value)(an:Option Addr)(cd ct:Value):FuncData:=fnOf n q (kW s) (iR s) (av s) .none kV dc pm an cd ct
abbrev LK(K:Frag)(f:Addr)(n q:Str)(s:Stmt)(kV dc pm:Value)(an:Option Addr)(cd ct oc:Value)(od:Option Addr)(sl:Array (aN)):Prop:=K.lookup f=some ⟨oc,od,.func (fS n q s kV dc pm an cd ct),sl⟩
theorem fm{K:Frag}{f:Addr}{n q:Str}{s:Stmt}{kV dc pm:Value}{an:Option Addr}{cd ct oc:Value}{od:Option Addr}{sl:Array (aN)}(l:LK K f n q s kV dc pm an cd ct oc od sl)(c:PySem.W.codeIn K cd q=true)(k:PySem.W.keepIn K (.ref f)=true):eP K n q s f (fS n q s kV dc pm an cd ct):=RI (st:=s) l c k
theorem xB{P:aI→Prop}(h:∀a,P [a]):∀us:aI,us.length=1→P us:=fun us hl=>match us,hl with|[_],_=>h _
theorem pC{P:aI→Prop}(h:∀a b,P [a,b]):∀us:aI,us.length=2→P us:=fun us hl=>match us,hl with|[_,_],_=>h _ _
theorem Ku{P:aI→Prop}(h:∀a b c,P [a,b,c]):∀us:aI,us.length=3→P us:=fun us hl=>match us,hl with|[_,_,_],_=>h _ _ _
theorem bn4{P:aI→Prop}(h:∀a b c d,P [a,b,c,d]):∀us:aI,us.length=4→P us:=fun us hl=>match us,hl with|[_,_,_,_],_=>h _ _ _ _
open PySem.W (nsIn findIn isFn codeIn keepIn typeIn specialIn readsIn findCls mroIn hasDictIn plainGet plainOver makesIn takesIn mg_of mg_none_of) in
theorem QN{K:Frag}{h:Heap}{mg:Str→aN}(X:K.In h)(G:h.Ns mainGlobals mg)
 {Cy:Addr}
 {kc:Addr}
 {f0 f1 f2 f3 f4 f5 f6 f7 f8 f9 S0 Wc Sl Ta Xw O_ VL Vr UM V7 WG U5 Rn XD VR Se Uo UY US VA Xc Ts Sh Ug Ww QZ VI TN XR Ys Yj X1 SG YB Yd SO Yv Yc Yk Yq Yt Yh X9 Yo Yg YA YV XS Yx X2:Addr} {od0 an0 od1 an1 od2 an2 od3 an3 od4 an4 od5 an5 od6 an6 od7 an7 od8 an8 od9 an9 abS Zx YZ aiv adW ahj abQ aaO aeh afx af9 aeb afO Zq ZS acF agi acy ahr afz Zf aiB adL ZZ ahg Zk acz afF aiA aeY aaY acp acA ag4 agN adJ ahs ab3 aid aeC acU aam adY aee afe aaz abG abL ae0 afU abn af8 afv aeN aff aeD ait aap acm agr aak afm aaP aaG ab_ abU adx ab5 ab4 ahK acD ac3 aae aiq ahT aaj ahD aaZ aho aaH adN ZM adM aaD aea afV adA afP aht ad6 ahI acW abI ae7 aev ahz Y_ ahY adQ abP:Option Addr} {sl0 sl1 sl2 sl3 sl4 sl5 sl6 sl7 sl8 sl9 adl agz ahB ZN ac6 ac7 ae5 aeE ahV afK acb abi agB acS aha adb afq abW abj agK Zy aeF afM afi ae1 af3 ZH ain aey ahX agx af0 ahh acL acs ab8 abg ag9 acV ahk aeI af2 agv agg aew abv acR afy ahJ adH:Array (aN)} {oc0 kV0 dc0 pm0 cd0 ct0 oc1 kV1 dc1 pm1 cd1 ct1 oc2 kV2 dc2 pm2 cd2 ct2 oc3 kV3 dc3 pm3 cd3 ct3 oc4 kV4 dc4 pm4 cd4 ct4 oc5 kV5 dc5 pm5 cd5 ct5 oc6 kV6 dc6 pm6 cd6 ct6 oc7 kV7 dc7 pm7 cd7 ct7 oc8 kV8 dc8 pm8 cd8 ct8 oc9 kV9 dc9 pm9 cd9 ct9 Y3 ahx aa3 aa0 XG Zc abY ah0 ah9 aby VE ada aa9 abw acq abK VT adz agV aab ady abd Vo agn aaV ag1 aef agR Vu Zi abD adK ac1 afh VO agk aik afS abJ afI Wf ad4 aeB acO aic Zu Vm Zr aez aeQ adg Zh VM agO afT aaB abH aaI TM acI ad8 ag3 ag7 aei TU af_ afW aeW aeP ahG WO ads aeT abO ahw abt TF ag6 ag_ aa6 aga Y5 Um aia ais agU abp afd Vp Y1 Zm adX ZI Y0 U0 afX aa4 adS ae9 Z_ TZ Y2 ahd afw adt acd Ut ade ace abx aeH acK Wy aej ahP afJ acY aa7 Ur afo aag aiu abl agQ Vs ahy adI aaT adi aaq UJ aco ae4 aaL agF aeK Xq ahW acn aeZ aax ah2 Tg aaJ ahM ae3 ah8 ahQ XC aiy ahq afb ZT ahp U3 ad0 Zo ad1 afn acZ V0 acw ZK aa1 abF ae8 Us afp aeL acN ag8 agW T8 Zn ab1 adm aa8 abB UL Zw aeg Y4 abo aa_ Wu acP agt ahA aio afA U9 ZD adV aaF af5 ahU Uw agw afZ agP afr afQ VF aaQ ZR adD aar aa5 Xs adO aim aac abA aix Ux ahf abb acC ZL adB Wa aeo acT aal ah5 agA Uz abM ahS ahi adh Y7 VZ abu afE aer agE ags T9 YX ZU ah4 ag0 adC VX aeU aaX ahZ aaC abf U6 agl age aib ahl Zs UQ ah1 ad_ abV Zt agJ Tn af4 aem abq ahN agu WY ahL aeq ac8 aep ab7 Xr aeS aet aiw afj aie V1 afL aeR aat adF af6 Tu ad3 aeM aij air af7 UC adU agI ZY aca afs WT aiz:Value}
 {pO:Tok}
 {qO:Tok}
 {lh:Tok}
 {eC:Tok}
 {jT:Tok}
 {i_:Tok}
 (c_0:nsIn K mainGlobals "Frames"=some (some (.ref Cy)))
 (c_1:nsIn K mainGlobals "House"=some (some (.ref kc)))
 (a0:nsIn K mainGlobals "is_number"=some (some (.ref f0)))
 (l0:LK K f0 "is_number" "is_number" ij kV0 dc0 pm0 an0 cd0 ct0 oc0 od0 sl0) (c0:codeIn K cd0 "is_number"=true) (k0:keepIn K (.ref f0)=true)
 (a1:nsIn K mainGlobals "is_whole"=some (some (.ref f1)))
 (l1:LK K f1 "is_whole" "is_whole" jd kV1 dc1 pm1 an1 cd1 ct1 oc1 od1 sl1) (c1:codeIn K cd1 "is_whole"=true) (k1:keepIn K (.ref f1)=true)
 (a2:nsIn K mainGlobals "is_name"=some (some (.ref f2)))
 (l2:LK K f2 "is_name" "is_name" kg kV2 dc2 pm2 an2 cd2 ct2 oc2 od2 sl2) (c2:codeIn K cd2 "is_name"=true) (k2:keepIn K (.ref f2)=true)
 (a3:nsIn K mainGlobals "is_count"=some (some (.ref f3)))
 (l3:LK K f3 "is_count" "is_count" je kV3 dc3 pm3 an3 cd3 ct3 oc3 od3 sl3) (c3:codeIn K cd3 "is_count"=true) (k3:keepIn K (.ref f3)=true)
 (a4:nsIn K mainGlobals "is_pair"=some (some (.ref f4)))
 (l4:LK K f4 "is_pair" "is_pair" jZ kV4 dc4 pm4 an4 cd4 ct4 oc4 od4 sl4) (c4:codeIn K cd4 "is_pair"=true) (k4:keepIn K (.ref f4)=true)
 (a5:nsIn K mainGlobals "ways_in"=some (some (.ref f5)))
 (l5:LK K f5 "ways_in" "ways_in" ke kV5 dc5 pm5 an5 cd5 ct5 oc5 od5 sl5) (c5:codeIn K cd5 "ways_in"=true) (k5:keepIn K (.ref f5)=true)
 (a6:nsIn K mainGlobals "want_hands"=some (some (.ref f6)))
 (l6:LK K f6 "want_hands" "want_hands" fQ kV6 dc6 pm6 an6 cd6 ct6 oc6 od6 sl6) (c6:codeIn K cd6 "want_hands"=true) (k6:keepIn K (.ref f6)=true)
 (a7:nsIn K mainGlobals "are_hands"=some (some (.ref f7)))
 (l7:LK K f7 "are_hands" "are_hands" ia kV7 dc7 pm7 an7 cd7 ct7 oc7 od7 sl7) (c7:codeIn K cd7 "are_hands"=true) (k7:keepIn K (.ref f7)=true)
 (a8:nsIn K mainGlobals "leads_in"=some (some (.ref f8)))
 (l8:LK K f8 "leads_in" "leads_in" jg kV8 dc8 pm8 an8 cd8 ct8 oc8 od8 sl8) (c8:codeIn K cd8 "leads_in"=true) (k8:keepIn K (.ref f8)=true)
 (a9:nsIn K mainGlobals "links_of"=some (some (.ref f9)))
 (l9:LK K f9 "links_of" "links_of" i3 kV9 dc9 pm9 an9 cd9 ct9 oc9 od9 sl9) (c9:codeIn K cd9 "links_of"=true) (k9:keepIn K (.ref f9)=true)
 (a10:findIn K (.ref Cy) "__init__"=some (some (.ref S0)))
 (i10:isFn K (.ref S0)=true)
 (l10:LK K S0 "__init__" "Frames.__init__" cL ahx aa3 aa0 Zx XG Zc Y3 abS adl) (Yr:codeIn K XG "Frames.__init__"=true) (ZQ:keepIn K (.ref S0)=true)
 (a11:findIn K (.ref kc) "begin"=some (some (.ref Wc)))
 (i11:isFn K (.ref Wc)=true)
 (l11:LK K Wc "begin" "Frames.begin" d_ ah0 ah9 aby aiv VE ada abY YZ agz) (c11:codeIn K VE "Frames.begin"=true) (k11:keepIn K (.ref Wc)=true)
 (a12:findIn K (.ref kc) "finish"=some (some (.ref Sl)))
 (i12:isFn K (.ref Sl)=true)
 (X3:LK K Sl "finish" "Frames.finish" dF abw acq abK ahj VT adz aa9 adW ahB) (c12:codeIn K VT "Frames.finish"=true) (k12:keepIn K (.ref Sl)=true)
 (a13:findIn K (.ref kc) "part"=some (some (.ref Ta)))
 (i13:isFn K (.ref Ta)=true)
 (l13:LK K Ta "part" "Frames.part" eU aab ady abd aaO Vo agn agV abQ ZN) (c13:codeIn K Vo "Frames.part"=true) (k13:keepIn K (.ref Ta)=true)
 (a14:findIn K (.ref kc) "inside"=some (some (.ref Xw)))
 (i14:isFn K (.ref Xw)=true)
 (l14:LK K Xw "inside" "Frames.inside" dQ ag1 aef agR afx Vu Zi aaV aeh ac6) (c14:codeIn K Vu "Frames.inside"=true) (k14:keepIn K (.ref Xw)=true)
 (a15:findIn K (.ref kc) "row"=some (some (.ref O_)))
 (i15:isFn K (.ref O_)=true)
 (Vk:LK K O_ "row" "Frames.row" gq adK ac1 afh aeb VO agk abD af9 ac7) (c15:codeIn K VO "Frames.row"=true) (k15:keepIn K (.ref O_)=true)
 (a16:findIn K (.ref kc) "ended_by"=some (some (.ref VL)))
 (i16:isFn K (.ref VL)=true)
 (l16:LK K VL "ended_by" "Frames.ended_by" cK afS abJ afI Zq Wf ad4 aik afO ae5) (c16:codeIn K Wf "Frames.ended_by"=true) (k16:keepIn K (.ref VL)=true)
 (a17:findIn K (.ref kc) "stands"=some (some (.ref Vr)))
 (i17:isFn K (.ref Vr)=true)
 (l17:LK K Vr "stands" "Frames.stands" dO acO aic Zu acF Vm Zr aeB ZS aeE) (c17:codeIn K Vm "Frames.stands"=true) (k17:keepIn K (.ref Vr)=true)
 (a18:findIn K (.ref kc) "standing"=some (some (.ref UM)))
 (i18:isFn K (.ref UM)=true)
 (l18:LK K UM "standing" "Frames.standing" cN aeQ adg Zh acy VM agO aez agi ahV) (c18:codeIn K VM "Frames.standing"=true) (k18:keepIn K (.ref UM)=true)
 (a19:findIn K (.ref kc) "begun"=some (some (.ref V7)))
 (i19:isFn K (.ref V7)=true)
 (l19:LK K V7 "begun" "Frames.begun" eD aaB abH aaI afz TM acI afT ahr afK) (c19:codeIn K TM "Frames.begun"=true) (k19:keepIn K (.ref V7)=true)
 (a20:findIn K (.ref kc) "was_begun"=some (some (.ref WG)))
 (i20:isFn K (.ref WG)=true)
 (l20:LK K WG "was_begun" "Frames.was_begun" cy ag3 ag7 aei aiB TU af_ ad8 Zf acb) (c20:codeIn K TU "Frames.was_begun"=true) (k20:keepIn K (.ref WG)=true)
 (a21:findIn K (.ref kc) "want_begun"=some (some (.ref U5)))
 (i21:isFn K (.ref U5)=true)
 (l21:LK K U5 "want_begun" "Frames.want_begun" ck aeW aeP ahG ZZ WO ads afW adL abi) (c21:codeIn K WO "Frames.want_begun"=true) (k21:keepIn K (.ref U5)=true)
 (a22:findIn K (.ref kc) "want_standing"=some (some (.ref Rn)))
 (i22:isFn K (.ref Rn)=true)
 (l22:LK K Rn "want_standing" "Frames.want_standing" bU abO ahw abt Zk TF ag6 aeT ahg agB) (c22:codeIn K TF "Frames.want_standing"=true) (k22:keepIn K (.ref Rn)=true)
 (a23:findIn K (.ref kc) "want_beginning"=some (some (.ref XD)))
 (i23:isFn K (.ref XD)=true)
 (l23:LK K XD "want_beginning" "Frames.want_beginning" bP aa6 aga Y5 afF Um aia ag_ acz acS) (c23:codeIn K Um "Frames.want_beginning"=true) (SW:keepIn K (.ref XD)=true)
 (a24:findIn K (.ref kc) "want_finishing"=some (some (.ref VR)))
 (i24:isFn K (.ref VR)=true)
 (l24:LK K VR "want_finishing" "Frames.want_finishing" bQ agU abp afd aeY Vp Y1 ais aiA aha) (c24:codeIn K Vp "Frames.want_finishing"=true) (k24:keepIn K (.ref VR)=true)
 (a25:findIn K (.ref kc) "__init__"=some (some (.ref Se)))
 (i25:isFn K (.ref Se)=true)
 (YM:LK K Se "__init__" "House.__init__" dj adX ZI Y0 acp U0 afX Zm aaY adb) (c25:codeIn K U0 "House.__init__"=true) (k25:keepIn K (.ref Se)=true)
 (a26:findIn K (.ref kc) "make"=some (some (.ref Uo)))
 (i26:isFn K (.ref Uo)=true)
 (l26:LK K Uo "make" "House.make" fP adS ae9 Z_ ag4 TZ Y2 aa4 acA afq) (c26:codeIn K TZ "House.make"=true) (k26:keepIn K (.ref Uo)=true)
 (a27:findIn K (.ref kc) "put"=some (some (.ref UY)))
 (i27:isFn K (.ref UY)=true)
 (l27:LK K UY "put" "House.put" hV afw adt acd adJ Ut ade ahd agN abW) (c27:codeIn K Ut "House.put"=true) (k27:keepIn K (.ref UY)=true)
 (a28:findIn K (.ref kc) "cells"=some (some (.ref US)))
 (i28:isFn K (.ref US)=true)
 (l28:LK K US "cells" "House.cells" eX abx aeH acK ab3 Wy aej ace ahs abj) (c28:codeIn K Wy "House.cells"=true) (k28:keepIn K (.ref US)=true)
 (a29:findIn K (.ref kc) "used"=some (some (.ref VA)))
 (i29:isFn K (.ref VA)=true)
 (l29:LK K VA "used" "House.used" fM afJ acY aa7 aeC Ur afo ahP aid agK) (c29:codeIn K Ur "House.used"=true) (k29:keepIn K (.ref VA)=true)
 (a30:findIn K (.ref kc) "left"=some (some (.ref Xc)))
 (i30:isFn K (.ref Xc)=true)
 (l30:LK K Xc "left" "House.left" fT aiu abl agQ aam Vs ahy aag acU Zy) (c30:codeIn K Vs "House.left"=true) (k30:keepIn K (.ref Xc)=true)
 (a31:findIn K (.ref kc) "greatest"=some (some (.ref Ts)))
 (i31:isFn K (.ref Ts)=true)
 (l31:LK K Ts "greatest" "House.greatest" df aaT adi aaq aee UJ aco adI adY aeF) (c31:codeIn K UJ "House.greatest"=true) (k31:keepIn K (.ref Ts)=true)
 (a32:findIn K (.ref kc) "rooms"=some (some (.ref Sh)))
 (i32:isFn K (.ref Sh)=true)
 (Yb:LK K Sh "rooms" "House.rooms" ff aaL agF aeK aaz Xq ahW ae4 afe afM) (c32:codeIn K Xq "House.rooms"=true) (k32:keepIn K (.ref Sh)=true)
 (a33:findIn K (.ref kc) "picture"=some (some (.ref Ug)))
 (i33:isFn K (.ref Ug)=true)
 (l33:LK K Ug "picture" "House.picture" dJ aeZ aax ah2 abL Tg aaJ acn abG afi) (c33:codeIn K Tg "House.picture"=true) (k33:keepIn K (.ref Ug)=true)
 (a34:findIn K (.ref kc) "picture_of"=some (some (.ref Ww)))
 (i34:isFn K (.ref Ww)=true)
 (l34:LK K Ww "picture_of" "House.picture_of" cD ae3 ah8 ahQ afU XC aiy ahM ae0 ae1) (c34:codeIn K XC "House.picture_of"=true) (SR:keepIn K (.ref Ww)=true)
 (a35:findIn K (.ref kc) "is_way"=some (some (.ref QZ)))
 (i35:isFn K (.ref QZ)=true)
 (XX:LK K QZ "is_way" "House.is_way" eJ afb ZT ahp af8 U3 ad0 ahq abn af3) (c35:codeIn K U3 "House.is_way"=true) (k35:keepIn K (.ref QZ)=true)
 (a36:findIn K (.ref kc) "is_value"=some (some (.ref VI)))
 (i36:isFn K (.ref VI)=true)
 (l36:LK K VI "is_value" "House.is_value" cY ad1 afn acZ aeN V0 acw Zo afv ZH) (c36:codeIn K V0 "House.is_value"=true) (k36:keepIn K (.ref VI)=true)
 (a37:findIn K (.ref kc) "want_room"=some (some (.ref TN)))
 (i37:isFn K (.ref TN)=true)
 (l37:LK K TN "want_room" "House.want_room" cS aa1 abF ae8 aeD Us afp ZK aff ain) (c37:codeIn K Us "House.want_room"=true) (k37:keepIn K (.ref TN)=true)
 (a38:nsIn K mainGlobals "want_cell"=some (some (.ref XR)))
 (l38:LK K XR "want_cell" "want_cell" ig acN ag8 agW aap T8 Zn aeL ait aey) (c38:codeIn K T8 "want_cell"=true) (k38:keepIn K (.ref XR)=true)
 (a39:nsIn K mainGlobals "_law_cell"=some (some (.ref Ys)))
 (l39:LK K Ys "_law_cell" "_law_cell" g_ adm aa8 abB agr UL Zw ab1 acm ahX) (c39:codeIn K UL "_law_cell"=true) (k39:keepIn K (.ref Ys)=true)
 (a40:nsIn K mainGlobals "_law_box"=some (some (.ref Yj)))
 (l40:LK K Yj "_law_box" "_law_box" jm Y4 abo aa_ afm Wu acP aeg aak agx) (c40:codeIn K Wu "_law_box"=true) (k40:keepIn K (.ref Yj)=true)
 (a41:nsIn K mainGlobals "_law_take"=some (some (.ref X1)))
 (l41:LK K X1 "_law_take" "_law_take" h9 ahA aio afA aaG U9 ZD agt aaP af0) (c41:codeIn K U9 "_law_take"=true) (k41:keepIn K (.ref X1)=true)
 (a42:nsIn K mainGlobals "_law_names"=some (some (.ref SG)))
 (l42:LK K SG "_law_names" "_law_names" fU aaF af5 ahU abU Uw agw adV ab_ ahh) (c42:codeIn K Uw "_law_names"=true) (k42:keepIn K (.ref SG)=true)
 (a43:nsIn K mainGlobals "_law_world"=some (some (.ref YB)))
 (l43:LK K YB "_law_world" "_law_world" fZ agP afr afQ ab5 VF aaQ afZ adx acL) (c43:codeIn K VF "_law_world"=true) (k43:keepIn K (.ref YB)=true)
 (a44:nsIn K mainGlobals "_law_row"=some (some (.ref Yd)))
 (l44:LK K Yd "_law_row" "_law_row" i9 adD aar aa5 ahK Xs adO ZR ab4 acs) (c44:codeIn K Xs "_law_row"=true) (k44:keepIn K (.ref Yd)=true)
 (a45:nsIn K mainGlobals "_law_standing"=some (some (.ref SO)))
 (l45:LK K SO "_law_standing" "_law_standing" dM aac abA aix ac3 Ux ahf aim acD ab8) (c45:codeIn K Ux "_law_standing"=true) (k45:keepIn K (.ref SO)=true)
 (a46:nsIn K mainGlobals "_law_used"=some (some (.ref Yv)))
 (l46:LK K Yv "_law_used" "_law_used" g7 acC ZL adB aiq Wa aeo abb aae abg) (c46:codeIn K Wa "_law_used"=true) (k46:keepIn K (.ref Yv)=true)
 (a47:nsIn K mainGlobals "_law_begun"=some (some (.ref Yc)))
 (l47:LK K Yc "_law_begun" "_law_begun" fX aal ah5 agA aaj Uz abM acT ahT ag9) (c47:codeIn K Uz "_law_begun"=true) (k47:keepIn K (.ref Yc)=true)
 (a48:nsIn K mainGlobals "_law_given"=some (some (.ref Yk)))
 (l48:LK K Yk "_law_given" "_law_given" fN ahi adh Y7 aaZ VZ abu ahS ahD acV) (c48:codeIn K VZ "_law_given"=true) (k48:keepIn K (.ref Yk)=true)
 (a49:nsIn K mainGlobals "_law_ended"=some (some (.ref Yq)))
 (l49:LK K Yq "_law_ended" "_law_ended" fL aer agE ags aaH T9 YX afE aho ahk) (c49:codeIn K T9 "_law_ended"=true) (k49:keepIn K (.ref Yq)=true)
 (a50:nsIn K mainGlobals "_law_picture"=some (some (.ref Yt)))
 (l50:LK K Yt "_law_picture" "_law_picture" eE ah4 ag0 adC ZM VX aeU ZU adN aeI) (c50:codeIn K VX "_law_picture"=true) (k50:keepIn K (.ref Yt)=true)
 (a51:nsIn K mainGlobals "_law_all_rooms"=some (some (.ref Yh)))
 (l51:LK K Yh "_law_all_rooms" "_law_all_rooms" di ahZ aaC abf aaD U6 agl aaX adM af2) (c51:codeIn K U6 "_law_all_rooms"=true) (k51:keepIn K (.ref Yh)=true)
 (a52:nsIn K mainGlobals "_law_value"=some (some (.ref X9)))
 (l52:LK K X9 "_law_value" "_law_value" gh aib ahl Zs afV UQ ah1 age aea agv) (c52:codeIn K UQ "_law_value"=true) (k52:keepIn K (.ref X9)=true)
 (a53:nsIn K mainGlobals "_law_deed"=some (some (.ref Yo)))
 (l53:LK K Yo "_law_deed" "_law_deed" h_ abV Zt agJ afP Tn af4 ad_ adA agg) (c53:codeIn K Tn "_law_deed"=true) (k53:keepIn K (.ref Yo)=true)
 (a54:nsIn K mainGlobals "_law_hands"=some (some (.ref Yg)))
 (l54:LK K Yg "_law_hands" "_law_hands" gw abq ahN agu ad6 WY ahL aem aht aew) (c54:codeIn K WY "_law_hands"=true) (k54:keepIn K (.ref Yg)=true)
 (a55:nsIn K mainGlobals "_law_inner"=some (some (.ref YA)))
 (l55:LK K YA "_law_inner" "_law_inner" fR ac8 aep ab7 acW Xr aeS aeq ahI abv) (c55:codeIn K Xr "_law_inner"=true) (k55:keepIn K (.ref YA)=true)
 (a56:nsIn K mainGlobals "_law_steps"=some (some (.ref YV)))
 (l56:LK K YV "_law_steps" "_law_steps" gp aiw afj aie ae7 V1 afL aet abI acR) (c56:codeIn K V1 "_law_steps"=true) (k56:keepIn K (.ref YV)=true)
 (a57:nsIn K mainGlobals "_law_scene"=some (some (.ref XS)))
 (l57:LK K XS "_law_scene" "_law_scene" gy aat adF af6 ahz Tu ad3 aeR aev afy) (c57:codeIn K Tu "_law_scene"=true) (k57:keepIn K (.ref XS)=true)
 (a58:nsIn K mainGlobals "_law_right"=some (some (.ref Yx)))
 (l58:LK K Yx "_law_right" "_law_right" gx aij air af7 ahY UC adU aeM Y_ ahJ) (c58:codeIn K UC "_law_right"=true) (k58:keepIn K (.ref Yx)=true)
 (a59:nsIn K mainGlobals "law"=some (some (.ref X2)))
 (l59:LK K X2 "law" "law" zJ ZY aca afs abP WT aiz agI adQ adH) (c59:codeIn K WT "law"=true) (k59:keepIn K (.ref X2)=true)
 (adq:plainGet K Cy Str.empty=true) (aes:hasDictIn K Cy=true) (ae6:plainOver K Cy=true) (aeJ:findIn K (.ref Cy) "__setattr__"=some (some (.builtin "object.__setattr__"))) (Za:makesIn K Cy=true) (adT:keepIn K (.ref Cy)=true)
 (Ze:specialIn K (.ref Cy) "__getattribute__"=some (some (.builtin "type.__getattribute__"))) (agm:readsIn K Cy (.type "type")=true) (abR:findCls K (.ref Cy) (.type "type") "__init__"=some (.val (.ref S0)))
 (yZ:findIn K (.ref Cy) "parents"=some none)
 (Cb:findIn K (.ref Cy) "takers"=some none)
 (agy:plainGet K kc Str.empty=true) (YY:hasDictIn K kc=true) (Zb:plainOver K kc=true) (adf:findIn K (.ref kc) "__setattr__"=some (some (.builtin "object.__setattr__"))) (agT:makesIn K kc=true) (agZ:keepIn K (.ref kc)=true)
 (Et:findIn K (.ref kc) "bound"=some none)
 (Br:findIn K (.ref kc) "floors"=some none)
 (zA:findIn K (.ref kc) "lengths"=some none)
 (zp:findIn K (.ref kc) "parents"=some none)
 (JF:findIn K (.ref kc) "peak"=some none)
 (B0:findIn K (.ref kc) "takers"=some none)
 (Dn:nsIn K mainGlobals "all"=some none)
 (xu:nsIn K mainGlobals "bool"=some none)
 (qW:nsIn K mainGlobals "dict"=some none)
 (jB:nsIn K mainGlobals "enumerate"=some none)
 (Di:nsIn K mainGlobals "int"=some none)
 (bY:nsIn K mainGlobals "isinstance"=some none)
 (fK:nsIn K mainGlobals "len"=some none)
 (pE:nsIn K mainGlobals "list"=some none)
 (wA:nsIn K mainGlobals "max"=some none)
 (FI:nsIn K mainGlobals "min"=some none)
 (gu:nsIn K mainGlobals "range"=some none)
 (xT:nsIn K mainGlobals "repr"=some none)
 (kY:nsIn K mainGlobals "reversed"=some none)
 (IV:nsIn K mainGlobals "str"=some none)
 (Dc:nsIn K mainGlobals "sum"=some none)
 (gW:nsIn K mainGlobals "tuple"=some none)
 (GC:nsIn K mainGlobals "GROUND"=some (some (.int 0 pO)))
 (E6:nsIn K mainGlobals "LETTERS"=some (some (.str "abcdefghijklmnopqrstuvwxyz" qO)))
 (yl:nsIn K mainGlobals "MOST_CELLS"=some (some (.int 1000 lh)))
 (mX:nsIn K mainGlobals "MOST_CELLS_OF_ROOM"=some (some (.int 6 eC)))
 (vY:nsIn K mainGlobals "MOST_FRAMES"=some (some (.int 100 jT)))
 (uM:nsIn K mainGlobals "MOST_LETTERS"=some (some (.int 6 i_))):
 ∃A:qH,Txt K mg A:=
 ⟨⟨f0,_,f1,_,f2,_,f3,_,f4,_,f5,_,f6,_,f7,_,f8,_,f9,_,S0,_,Wc,_,Sl,_,Ta,_,Xw,_,O_,_,VL,_,Vr,_,UM,_,V7,_,WG,_,U5,_,Rn,_,XD,_,VR,_,Se,_,Uo,_,UY,_,US,_,VA,_,Xc,_,Ts,_,Sh,_,Ug,_,Ww,_,QZ,_,VI,_,TN,_,XR,_,Ys,_,Yj,_,X1,_,SG,_,YB,_,Yd,_,SO,_,Yv,_,Yc,_,Yk,_,Yq,_,Yt,_,Yh,_,X9,_,Yo,_,Yg,_,YA,_,YV,_,XS,_,Yx,_,X2,_,Cy,kc⟩,
  ⟨mg_of X G a0,
  fm l0 c0 k0,
  (fm l0 c0 k0).binds (ps:=["thing"]) fun _ _ _ _ _ _=>xB fun _=>rfl,
  mg_of X G a1,
  fm l1 c1 k1,
  (fm l1 c1 k1).binds (ps:=["thing","low","high"]) fun _ _ _ _ _ _=>Ku fun _ _ _=>rfl,
  mg_of X G a2,
  fm l2 c2 k2,
  (fm l2 c2 k2).binds (ps:=["thing"]) fun _ _ _ _ _ _=>xB fun _=>rfl,
  mg_of X G a3,
  fm l3 c3 k3,
  (fm l3 c3 k3).binds (ps:=["thing"]) fun _ _ _ _ _ _=>xB fun _=>rfl,
  mg_of X G a4,
  fm l4 c4 k4,
  (fm l4 c4 k4).binds (ps:=["thing"]) fun _ _ _ _ _ _=>xB fun _=>rfl,
  mg_of X G a5,
  fm l5 c5 k5,
  (fm l5 c5 k5).binds (ps:=["house","frame","hands"]) fun _ _ _ _ _ _=>Ku fun _ _ _=>rfl,
  mg_of X G a6,
  fm l6 c6 k6,
  (fm l6 c6 k6).binds (ps:=["house","frame","hands"]) fun _ _ _ _ _ _=>Ku fun _ _ _=>rfl,
  mg_of X G a7,
  fm l7 c7 k7,
  (fm l7 c7 k7).binds (ps:=["house","thing"]) fun _ _ _ _ _ _=>pC fun _ _=>rfl,
  mg_of X G a8,
  fm l8 c8 k8,
  (fm l8 c8 k8).binds (ps:=["value","part"]) fun _ _ _ _ _ _=>pC fun _ _=>rfl,
  mg_of X G a9,
  fm l9 c9 k9,
  (fm l9 c9 k9).binds (ps:=["house","holder","part"]) fun _ _ _ _ _ _=>Ku fun _ _ _=>rfl,
  fm l10 Yr ZQ,
  (fm l10 Yr ZQ).binds (ps:=["self"]) fun _ _ _ _ _ _=>xB fun _=>rfl,
  fm l11 c11 k11,
  (fm l11 c11 k11).binds (ps:=["self","frame"]) fun _ _ _ _ _ _=>pC fun _ _=>rfl,
  ⟨a11,i11,k11⟩,
  fm X3 c12 k12,
  (fm X3 c12 k12).binds (ps:=["self","frame"]) fun _ _ _ _ _ _=>pC fun _ _=>rfl,
  ⟨a12,i12,k12⟩,
  fm l13 c13 k13,
  (fm l13 c13 k13).binds (ps:=["self","frame"]) fun _ _ _ _ _ _=>pC fun _ _=>rfl,
  ⟨a13,i13,k13⟩,
  fm l14 c14 k14,
  (fm l14 c14 k14).binds (ps:=["self","frame"]) fun _ _ _ _ _ _=>pC fun _ _=>rfl,
  ⟨a14,i14,k14⟩,
  fm Vk c15 k15,
  (fm Vk c15 k15).binds (ps:=["self","frame"]) fun _ _ _ _ _ _=>pC fun _ _=>rfl,
  ⟨a15,i15,k15⟩,
  fm l16 c16 k16,
  (fm l16 c16 k16).binds (ps:=["self","frame"]) fun _ _ _ _ _ _=>pC fun _ _=>rfl,
  ⟨a16,i16,k16⟩,
  fm l17 c17 k17,
  (fm l17 c17 k17).binds (ps:=["self","thing"]) fun _ _ _ _ _ _=>pC fun _ _=>rfl,
  ⟨a17,i17,k17⟩,
  fm l18 c18 k18,
  (fm l18 c18 k18).binds (ps:=["self"]) fun _ _ _ _ _ _=>xB fun _=>rfl,
  ⟨a18,i18,k18⟩,
  fm l19 c19 k19,
  (fm l19 c19 k19).binds (ps:=["self"]) fun _ _ _ _ _ _=>xB fun _=>rfl,
  ⟨a19,i19,k19⟩,
  fm l20 c20 k20,
  (fm l20 c20 k20).binds (ps:=["self","thing"]) fun _ _ _ _ _ _=>pC fun _ _=>rfl,
  ⟨a20,i20,k20⟩,
  fm l21 c21 k21,
  (fm l21 c21 k21).binds (ps:=["self","thing"]) fun _ _ _ _ _ _=>pC fun _ _=>rfl,
  ⟨a21,i21,k21⟩,
  fm l22 c22 k22,
  (fm l22 c22 k22).binds (ps:=["self","thing"]) fun _ _ _ _ _ _=>pC fun _ _=>rfl,
  ⟨a22,i22,k22⟩,
  fm l23 c23 SW,
  (fm l23 c23 SW).binds (ps:=["self","thing"]) fun _ _ _ _ _ _=>pC fun _ _=>rfl,
  ⟨a23,i23,SW⟩,
  fm l24 c24 k24,
  (fm l24 c24 k24).binds (ps:=["self","thing"]) fun _ _ _ _ _ _=>pC fun _ _=>rfl,
  ⟨a24,i24,k24⟩,
  fm YM c25 k25,
  (fm YM c25 k25).binds (ps:=["self","limit"]) fun _ _ _ _ _ _=>pC fun _ _=>rfl,
  fm l26 c26 k26,
  (fm l26 c26 k26).binds (ps:=["self","frame","size"]) fun _ _ _ _ _ _=>Ku fun _ _ _=>rfl,
  ⟨a26,i26,k26⟩,
  fm l27 c27 k27,
  (fm l27 c27 k27).binds (ps:=["self","way","k","value"]) fun _ _ _ _ _ _=>bn4 fun _ _ _ _=>rfl,
  ⟨a27,i27,k27⟩,
  fm l28 c28 k28,
  (fm l28 c28 k28).binds (ps:=["self","way"]) fun _ _ _ _ _ _=>pC fun _ _=>rfl,
  ⟨a28,i28,k28⟩,
  fm l29 c29 k29,
  (fm l29 c29 k29).binds (ps:=["self"]) fun _ _ _ _ _ _=>xB fun _=>rfl,
  ⟨a29,i29,k29⟩,
  fm l30 c30 k30,
  (fm l30 c30 k30).binds (ps:=["self"]) fun _ _ _ _ _ _=>xB fun _=>rfl,
  ⟨a30,i30,k30⟩,
  fm l31 c31 k31,
  (fm l31 c31 k31).binds (ps:=["self"]) fun _ _ _ _ _ _=>xB fun _=>rfl,
  ⟨a31,i31,k31⟩,
  fm Yb c32 k32,
  (fm Yb c32 k32).binds (ps:=["self","frame"]) fun _ _ _ _ _ _=>pC fun _ _=>rfl,
  ⟨a32,i32,k32⟩,
  fm l33 c33 k33,
  (fm l33 c33 k33).binds (ps:=["self"]) fun _ _ _ _ _ _=>xB fun _=>rfl,
  ⟨a33,i33,k33⟩,
  fm l34 c34 SR,
  (fm l34 c34 SR).binds (ps:=["self","frame"]) fun _ _ _ _ _ _=>pC fun _ _=>rfl,
  ⟨a34,i34,SR⟩,
  fm XX c35 k35,
  (fm XX c35 k35).binds (ps:=["self","thing"]) fun _ _ _ _ _ _=>pC fun _ _=>rfl,
  ⟨a35,i35,k35⟩,
  fm l36 c36 k36,
  (fm l36 c36 k36).binds (ps:=["self","thing"]) fun _ _ _ _ _ _=>pC fun _ _=>rfl,
  ⟨a36,i36,k36⟩,
  fm l37 c37 k37,
  (fm l37 c37 k37).binds (ps:=["self","thing"]) fun _ _ _ _ _ _=>pC fun _ _=>rfl,
  ⟨a37,i37,k37⟩,
  mg_of X G a38,
  fm l38 c38 k38,
  (fm l38 c38 k38).binds (ps:=["room","thing"]) fun _ _ _ _ _ _=>pC fun _ _=>rfl,
  mg_of X G a39,
  fm l39 c39 k39,
  (fm l39 c39 k39).binds (ps:=["_law_script","_law_k"]) fun _ _ _ _ _ _=>pC fun _ _=>rfl,
  mg_of X G a40,
  fm l40 c40 k40,
  (fm l40 c40 k40).binds (ps:=["_law_cell_here"]) fun _ _ _ _ _ _=>xB fun _=>rfl,
  mg_of X G a41,
  fm l41 c41 k41,
  (fm l41 c41 k41).binds (ps:=["_law_box_here","_law_many"]) fun _ _ _ _ _ _=>pC fun _ _=>rfl,
  mg_of X G a42,
  fm l42 c42 k42,
  (fm l42 c42 k42).binds (ps:=["_law_box_here","_law_many"]) fun _ _ _ _ _ _=>pC fun _ _=>rfl,
  mg_of X G a43,
  fm l43 c43 k43,
  (fm l43 c43 k43).binds (ps:=["_law_limit"]) fun _ _ _ _ _ _=>xB fun _=>rfl,
  mg_of X G a44,
  fm l44 c44 k44,
  (fm l44 c44 k44).binds (ps:=["_law_world_here","_law_frame"]) fun _ _ _ _ _ _=>pC fun _ _=>rfl,
  mg_of X G a45,
  fm l45 c45 k45,
  (fm l45 c45 k45).binds (ps:=["_law_world_here"]) fun _ _ _ _ _ _=>xB fun _=>rfl,
  mg_of X G a46,
  fm l46 c46 k46,
  (fm l46 c46 k46).binds (ps:=["_law_world_here"]) fun _ _ _ _ _ _=>xB fun _=>rfl,
  mg_of X G a47,
  fm l47 c47 k47,
  (fm l47 c47 k47).binds (ps:=["_law_world_here","_law_frame"]) fun _ _ _ _ _ _=>pC fun _ _=>rfl,
  mg_of X G a48,
  fm l48 c48 k48,
  (fm l48 c48 k48).binds (ps:=["_law_world_here","_law_frame","_law_size"]) fun _ _ _ _ _ _=>Ku fun _ _ _=>rfl,
  mg_of X G a49,
  fm l49 c49 k49,
  (fm l49 c49 k49).binds (ps:=["_law_world_here","_law_frame"]) fun _ _ _ _ _ _=>pC fun _ _=>rfl,
  mg_of X G a50,
  fm l50 c50 k50,
  (fm l50 c50 k50).binds (ps:=["_law_world_here"]) fun _ _ _ _ _ _=>xB fun _=>rfl,
  mg_of X G a51,
  fm l51 c51 k51,
  (fm l51 c51 k51).binds (ps:=["_law_world_here"]) fun _ _ _ _ _ _=>xB fun _=>rfl,
  mg_of X G a52,
  fm l52 c52 k52,
  (fm l52 c52 k52).binds (ps:=["_law_box_here","_law_world_here"]) fun _ _ _ _ _ _=>pC fun _ _=>rfl,
  mg_of X G a53,
  fm l53 c53 k53,
  (fm l53 c53 k53).binds (ps:=["_law_box_here","_law_house","_law_world_here"]) fun _ _ _ _ _ _=>Ku fun _ _ _=>rfl,
  mg_of X G a54,
  fm l54 c54 k54,
  (fm l54 c54 k54).binds (ps:=["_law_box_here","_law_world_here"]) fun _ _ _ _ _ _=>pC fun _ _=>rfl,
  mg_of X G a55,
  fm l55 c55 k55,
  (fm l55 c55 k55).binds (ps:=["_law_world_here","_law_frame"]) fun _ _ _ _ _ _=>pC fun _ _=>rfl,
  mg_of X G a56,
  fm l56 c56 k56,
  (fm l56 c56 k56).binds (ps:=["_law_world_here","_law_frame","_law_hands_here"]) fun _ _ _ _ _ _=>Ku fun _ _ _=>rfl,
  mg_of X G a57,
  fm l57 c57 k57,
  (fm l57 c57 k57).binds (ps:=["_law_box_here"]) fun _ _ _ _ _ _=>xB fun _=>rfl,
  mg_of X G a58,
  fm l58 c58 k58,
  (fm l58 c58 k58).binds (ps:=["_law_house","_law_world_here","_law_hands_here"]) fun _ _ _ _ _ _=>Ku fun _ _ _=>rfl,
  mg_of X G a59,
  fm l59 c59 k59,
  (fm l59 c59 k59).binds (ps:=["_law_script"]) fun _ _ _ _ _ _=>xB fun _=>rfl,
  mg_of X G c_0,
  ⟨adq,aes,ae6,aeJ⟩,
  ⟨Za,a10,i10,adT⟩,
  ⟨Ze,agm,abR,ZQ⟩,
  yZ,
  Cb,
  mg_of X G c_1,
  ⟨agy,YY,Zb,adf⟩,
  ⟨agT,a25,i25,agZ⟩,
  Et,
  Br,
  zA,
  zp,
  JF,
  B0,
  fun s v=> .of_eq rfl,
  mg_none_of X G Dn,
  mg_none_of X G xu,
  mg_none_of X G qW,
  mg_none_of X G jB,
  mg_none_of X G Di,
  mg_none_of X G bY,
  mg_none_of X G fK,
  mg_none_of X G pE,
  mg_none_of X G wA,
  mg_none_of X G FI,
  mg_none_of X G gu,
  mg_none_of X G xT,
  mg_none_of X G kY,
  mg_none_of X G IV,
  mg_none_of X G Dc,
  mg_none_of X G gW,
  ⟨_,⟨_,rfl⟩,mg_of X G GC⟩,
  ⟨_,⟨_,rfl⟩,mg_of X G E6⟩,
  ⟨_,⟨_,rfl⟩,mg_of X G yl⟩,
  ⟨_,⟨_,rfl⟩,mg_of X G mX⟩,
  ⟨_,⟨_,rfl⟩,mg_of X G vY⟩,
  ⟨_,⟨_,rfl⟩,mg_of X G uM⟩⟩⟩
end My
open PySem PySem.W PyProof.Rows
set_option maxRecDepth 100000 in
set_option maxHeartbeats 0 in
theorem PySem.Challenge.cw_framerooms_k26_ways_in_holds : PySem.Challenge.rw_framerooms_k26_ways_in.Holds := by
 w_on
 refine holds_law (by decide+kernel) fun Zd=> ?_;refine holds_open (q:=My.mQ) (loose:=[]) (Xt:=fun s=>xlAt My.mQ [] s&&recOk (RowW.records PySem.Challenge.rw_framerooms_k26_ways_in.row.toRowW) s) (XP:=XL My.mQ []) (Yf:=My.mw.obs) (Ya:=My.mw.val) (YP:=Hook.says (kHook My.A8 My.R_ My.Dj)) My.Sm My.mw.of My.mw.keeps (fun s e=>xl_of s (Bool.and_eq_true_iff.mp e).1) XL.keeps (by rfl) (by rfl) (by rfl) (fun s e=>recFacts_of (Bool.and_eq_true_iff.mp e).2) (by rfl) Zd (by decide+kernel) ⟨rfl,rfl,rfl,rfl,rfl,by decide+kernel⟩ ?hw ?hc
 case hw=>w_witness2
 k_fill
 refine My.walk (l:=PySem.Challenge.rw_framerooms_k26_ways_in) rfl rfl (fun w h Y=>PySem.W.kIn_of Y) ?F
 case F=>
  intro w mg fa h KX G U4;refine' My.RN KX G U4 ?T
  refine' My.QN KX G _ _ _ _ _ _ _ _ _ _ _ _ _ _ _ _ _ _ _ _ _ _ _ _ _ _ _ _ _ _ _ _ _ _ _ _ _ _ _ _ _ _ _ _ _ _ _ _ _ _ _ _ _ _ _ _ _ _ _ _ _ _ _ _ _ _ _ _ _ _ _ _ _ _ _ _ _ _ _ _ _ _ _ _ _ _ _ _ _ _ _ _ _ _ _ _ _ _ _ _ _ _ _ _ _ _ _ _ _ _ _ _ _ _ _ _ _ _ _ _ _ _ _ _ _ _ _ _ _ _ _ _ _ _ _ _ _ _ _ _ _ _ _ _ _ _ _ _ _ _ _ _ _ _ _ _ _ _ _ _ _ _ _ _ _ _ _ _ _ _ _ _ _ _ _ _ _ _ _ _ _ _ _ _ _ _ _ _ _ _ _ _ _ _ _ _ _ _ _ _ _ _ _ _ _ _ _ _ _ _ _ _ _ _ _ _ _ _ _ _ _ _ _ _ _ _ _ _ _ _ _ _ _ _ _ _ _ _ _ _ _ _ _ _ _ _ _ _ _ _ _ _ _ _ _ _ _ _ _ _ _ _ _ _ _ _ _ _ _ _ _ _ _ _ _ _ _ _ _ _ _ _ _ _ _ _ _ _ _ _ _ _ _ _ _ _ _ _ _ _ _ _ _ _ _ _ _ _ _ _ _ _ _ _ _
  any_goals first|k_is|(show _=_;k_is)|exact⟨rfl,rfl,rfl,rfl⟩|rfl|decide+kernel|(intro self;(repeat rw[refuseLoop_ref]);exact L2.xy self)
