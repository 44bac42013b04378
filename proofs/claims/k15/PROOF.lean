import PyProof.Rows.All
import Wide.All
import OpenK.AllK
import Wide.FinOn
import Lean
import PyProof.EqAt
import PyProof.EqKinds
import PyProof.TupleCall
import PySem.Challenge.RW_framerooms_k15_pictures_and_twins
set_option Elab.async false
set_option linter.all false
set_option maxRecDepth 100000
set_option maxHeartbeats 4000000
open PySem.W (Frag any_some bind_fn callWith_K cellsFrom_some emptyDict findObj_own fnOf handedIn instObj kcp_self kia_one kitOne kitx_dict kitx_list lookIn looks_findIn methodCall_KW methodObj notCls plainGet_of set_plain takerIn)
open PySem.F (args_dict_get_3 args_dict_items_1 entry_dict_get entry_dict_items excBase_ValueError plainAttrs_dict plainAttrs_list slot_dict_get slot_dict_items slot_dict_setdefault type_dict_items)
open PySem in
abbrev aL:=List (Addr×Obj)
open PySem in
abbrev aO:=List (Option Nat)
open PySem in
abbrev aA:=List Value
open PySem in
abbrev aH:=Option Value
open PySem in
abbrev aX:=List Str
open PySem in
abbrev aY:=List Addr
open PySem in
abbrev cQ:=List Expr
namespace L2
open PySem PySem.Spec PyProof.Rows
def jp(s:Stmt)(j:Nat):Stmt:=match s with
 | .ClassDef _ _ _ body _ _ _ _ _ _ _=>body.getD j (.Pass ⟨0,0,0,0⟩)
 |_=> .Pass ⟨0,0,0,0⟩
def pj(s:Stmt):Arguments:=match s with
 | .FunctionDef _ a _ _ _ _ _ _ _ _=>a
 |_=>{posonlyargs:=[],args:=[],vararg:=none,kwonlyargs:=[],kw_defaults:=[],kwarg:=none,defaults:=[]}
def j_(s:Stmt):List Stmt:=match s with
 | .FunctionDef _ _ b _ _ _ _ _ _ _=>b
 |_=>[]
def av(s:Stmt):Scope:=match s with
 | .FunctionDef _ _ _ _ _ _ sc _ _ _=>sc
 |_=>{kind:= .function,names:=[],isGenerator:=false,isCoroutine:=false}
end L2
namespace My
open PySem L2 PyProof.Rows
def top(i:Nat):Stmt:=PySem.Challenge.pw_framerooms_k15_pictures_and_twins.main.body.getD i (.Pass ⟨0,0,0,0⟩)
abbrev cC:Stmt:=(jp (top 1) 0)
abbrev cZ:Stmt:=(jp (top 3) 0)
abbrev eK:Stmt:=(jp (top 5) 0)
abbrev dX:Stmt:=(jp (top 9) 0)
abbrev dm:Stmt:=(jp (top 10) 0)
abbrev jb:Stmt:=(top 12)
abbrev lj:Stmt:=(top 13)
abbrev lu:Stmt:=(top 14)
abbrev mM:Stmt:=(top 15)
abbrev dC:Stmt:=(jp (top 19) 0)
abbrev fu:Stmt:=(jp (top 19) 1)
abbrev eJ:Stmt:=(jp (top 19) 2)
abbrev gk:Stmt:=(jp (top 19) 3)
abbrev eM:Stmt:=(jp (top 19) 4)
abbrev iA:Stmt:=(jp (top 19) 5)
abbrev dk:Stmt:=(jp (top 19) 7)
abbrev eU:Stmt:=(jp (top 19) 8)
abbrev dH:Stmt:=(jp (top 19) 9)
abbrev fJ:Stmt:=(jp (top 19) 10)
abbrev cU:Stmt:=(jp (top 19) 11)
abbrev cL:Stmt:=(jp (top 19) 12)
abbrev cb:Stmt:=(jp (top 19) 13)
abbrev bZ:Stmt:=(jp (top 19) 14)
abbrev b7:Stmt:=(jp (top 19) 15)
abbrev dW:Stmt:=(jp (top 23) 0)
abbrev ib:Stmt:=(jp (top 23) 1)
abbrev jx:Stmt:=(jp (top 23) 2)
abbrev jt:Stmt:=(jp (top 23) 3)
abbrev hU:Stmt:=(jp (top 23) 4)
abbrev gh:Stmt:=(jp (top 23) 5)
abbrev iJ:Stmt:=(jp (top 23) 6)
abbrev ig:Stmt:=(jp (top 23) 7)
abbrev gq:Stmt:=(jp (top 23) 8)
abbrev dY:Stmt:=(jp (top 23) 9)
abbrev gr:Stmt:=(jp (top 23) 10)
abbrev eS:Stmt:=(jp (top 23) 11)
abbrev cV:Stmt:=(jp (top 23) 12)
abbrev ip:Stmt:=(jp (top 23) 13)
abbrev fB:Stmt:=(jp (top 23) 14)
abbrev d6:Stmt:=(jp (top 23) 15)
abbrev dE:Stmt:=(jp (top 23) 16)
abbrev jF:Stmt:=(top 24)
abbrev jg:Stmt:=(top 26)
abbrev kA:Stmt:=(top 27)
abbrev jD:Stmt:=(top 28)
abbrev iw:Stmt:=(top 29)
abbrev eP:Stmt:=(top 30)
abbrev kZ:Stmt:=(top 31)
abbrev hX:Stmt:=(top 32)
abbrev gu:Stmt:=(top 33)
abbrev il:Stmt:=(top 34)
abbrev jn:Stmt:=(top 35)
abbrev jf:Stmt:=(top 36)
abbrev lr:Stmt:=(top 37)
abbrev ie:Stmt:=(top 38)
abbrev jo:Stmt:=(top 39)
abbrev jq:Stmt:=(top 40)
abbrev fG:Stmt:=(top 41)
abbrev jr:Stmt:=(top 42)
abbrev mN:Stmt:=(top 43)
abbrev gp:Stmt:=(top 44)
abbrev ik:Stmt:=(top 45)
abbrev fj:Stmt:=(top 46)
abbrev df:Stmt:=(top 47)
abbrev h_:Stmt:=(top 48)
abbrev Dn:Stmt:=(top 49)
section hd
open PySem PySem.W PySem.Calls PyProof.Rows
noncomputable section
abbrev aD(x:String)(n:Nat):Value:=Value.str (Str.ofString x) n
abbrev d_(l:Array Value):Obj:={cls:=Value.type "tuple",data:=Data.seq l}
abbrev DS(l:Array Value):Obj:={cls:=Value.none,data:=Data.fields l}
abbrev zp(l:Array Value):Obj:={cls:=Value.type "code",data:=Data.fields l}
abbrev Hz(a b:String)(n l r u:Nat):Obj:=zp #[aD a n,aD b (n+1),aD "/claim/cut.py" (n+2),.int l 0,.int 0 0,.int 0 0,.int 0 0,.int 0 0,.ref r,.bool false,.int 181 0,.ref (r+1),.none,.none,.none,.none,.int u 0,.int l 0,aD "/claim/cut.py" (u+1)]
abbrev jh(a b:String)(n l p r u:Nat):Obj:=zp #[aD a n,aD b (n+1),aD "/claim/cut.py" (n+2),.int l 0,.int p 0,.int 0 0,.int 0 0,.int 3 0,.ref r,.bool true,.int 181 0,.ref (r+1),.none,.ref (r+2),.ref (r+3),.ref (r+4),.int u 0,.int l 0,aD "/claim/cut.py" (u+1)]
abbrev fh(n q:String)(s:Stmt)(m:String)(k:Nat)(c:Addr):Obj:={cls:=Value.type "function",data:=Data.func {name:=Str.ofString n,qualname:=Str.ofString q,params:=L2.pj s,body:= .stmts (L2.j_ s),scope:=L2.av s,globals:=3,closure:=[],defaults:=Value.none,kwdefaults:=Value.none,pyModule:=aD m k,code:=Value.ref c}}
abbrev fg(n q:String)(s:Stmt):Obj:={cls:=Value.none,data:=Data.func {name:=Str.ofString n,qualname:=Str.ofString q,params:=L2.pj s,body:= .stmts (L2.j_ s),scope:=L2.av s,globals:=0,closure:=[],defaults:=Value.none,kwdefaults:=Value.none}}
variable(P:Params)
abbrev aI(P:Params)(x:String)(n:Nat)(v:Value):DictEntry:={hash:=PyData.keyHash P (Str.ofString x),key:=Value.str (Str.ofString x) n,val:=v}
abbrev ao:Obj:=d_ #[]
abbrev aW:Obj:=DS #[]
abbrev Qg:Obj:=Hz "<module>" "<module>" 182 1 11 185
abbrev N0:Obj:={cls:= .type "frame",slots:= #[some (.ref 13),some (.ref 3),some (.ref 3),none,some (aD "__main__" 164),none,some (.ref 0)]}
abbrev hd3:Obj:={cls:= .type "dict",data:=Data.dict #[aI P "__name__" 165 (aD "framerooms.errors" 187),aI P "__doc__" 166 (.none),aI P "__package__" 167 (.none),aI P "__loader__" 168 (.builtin ("__main__.__loader__#opa" ++ "que")),aI P "__spec__" 169 (.none),aI P "__annotations__" 170 (.ref 6),aI P "__builtins__" 171 (.ref 4),aI P "__file__" 173 (aD "/claim/cut.py" 172),aI P "__cached__" 174 (.none),aI P "RoomError" 214 (.ref 31),aI P "NoNumber" 239 (.ref 51),aI P "NoValue" 264 (.ref 70),aI P "NoFrame" 289 (.ref 89),aI P "Gone" 316 (.ref 108),aI P "Ground" 339 (.ref 127),aI P "TooMany" 364 (.ref 146),aI P "Full" 391 (.ref 165),aI P "NoWay" 416 (.ref 184)] 18}
abbrev ZJ:Obj:=DS #[.int 2 0,.int 0 0,.ref 20,.int 6 0,.int 0 0,.ref 40,.int 11 0,.int 0 0,.ref 59,.int 16 0,.int 0 0,.ref 78,.int 21 0,.int 0 0,.ref 97,.int 27 0,.int 0 0,.ref 116,.int 31 0,.int 0 0,.ref 135,.int 36 0,.int 0 0,.ref 154,.int 42 0,.int 0 0,.ref 173]
abbrev Ov:Obj:=d_ #[.type "ValueError"]
abbrev gf:Obj:={cls:= .type "builtin_function_or_method",data:=Data.fields #[.builtin "type.__prepare__",.type "type"]}
abbrev Vm:Obj:={cls:= .type "dict",data:=Data.dict #[aI P "__module__" 196 (aD "framerooms.errors" 187),aI P "__qualname__" 198 (aD "RoomError" 197),aI P "__firstlineno__" 200 (.int 2 199),aI P "__init__" 208 (.ref 28),aI P "__static_attributes__" 209 (.ref 29)] 5}
abbrev V2:Obj:=DS #[.int 4 0,.int 4 0,.ref 27]
abbrev V5:Obj:=Hz "RoomError" "RoomError" 191 2 18 194
abbrev V9:Obj:={cls:= .type "frame",slots:= #[some (.ref 20),some (.ref 3),some (.ref 17),none,some (aD "framerooms.errors" 187),none,some (.ref 0)]}
abbrev Qn:Obj:=d_ #[aD "self" 204,aD "text" 205]
abbrev Vq:Obj:=fg "__init__" "RoomError.__init__" cC
abbrev Of:Obj:=jh "__init__" "RoomError.__init__" 201 4 2 22 206
abbrev OG:Obj:=fh "__init__" "RoomError.__init__" cC "framerooms.errors" 187 27
abbrev OK:Obj:={cls:= .type "dict",data:=Data.dict #[aI P "__module__" 196 (aD "framerooms.errors" 187),aI P "__firstlineno__" 200 (.int 2 199),aI P "__init__" 208 (.ref 28),aI P "__static_attributes__" 209 (.ref 29),aI P "__weakref__" 211 (.ref 32),aI P "__doc__" 212 (.none)] 3}
abbrev aj8:Obj:={cls:= .type "type",data:=Data.cls {name:=Str.ofString "RoomError",bases:=[.type "ValueError"],mro:=[.ref 31,.type "ValueError",.type "Exception",.type "BaseException",.type "object"],ns:=30,qualname:=Str.ofString "RoomError",subclasses:=[.ref 51,.ref 70,.ref 89,.ref 108,.ref 127,.ref 146,.ref 165,.ref 184]},slots:= #[some (.ref 15),none,some (aD "RoomError" 189),some (aD "RoomError" 197),some (.builtin "ValueError.__new__"),some (.bool true)]}
abbrev NW:Obj:={cls:= .type "getset_descriptor",data:=Data.fields #[aD "__weakref__" 210,.ref 31,.builtin "ExceptionGroup.__weakref__",.none]}
abbrev Vz:Obj:={cls:= .type "super",data:=Data.fields #[.ref 31,.ref 31,.ref 31]}
abbrev U3:Obj:={cls:= .type "builtin_function_or_method",data:=Data.fields #[.builtin "object.__init_subclass__",.ref 31]}
abbrev fA:Obj:=d_ #[.ref 31]
abbrev VE:Obj:={cls:= .type "dict",data:=Data.dict #[aI P "__module__" 222 (aD "framerooms.errors" 187),aI P "__qualname__" 224 (aD "NoNumber" 223),aI P "__firstlineno__" 226 (.int 6 225),aI P "__init__" 234 (.ref 48),aI P "__static_attributes__" 236 (.ref 49)] 5}
abbrev Uz:Obj:=DS #[.int 8 0,.int 4 0,.ref 47]
abbrev UO:Obj:=Hz "NoNumber" "NoNumber" 217 6 38 220
abbrev Uy:Obj:={cls:= .type "frame",slots:= #[some (.ref 40),some (.ref 3),some (.ref 37),none,some (aD "framerooms.errors" 187),none,some (.ref 0)]}
abbrev PL:Obj:=d_ #[aD "self" 230,aD "found" 231]
abbrev UK:Obj:=fg "__init__" "NoNumber.__init__" (jp (top 2) 0)
abbrev OT:Obj:=jh "__init__" "NoNumber.__init__" 227 8 2 42 232
abbrev Oh:Obj:=fh "__init__" "NoNumber.__init__" (jp (top 2) 0) "framerooms.errors" 187 47
abbrev PX:Obj:=d_ #[aD "found" 235]
abbrev OE:Obj:={cls:= .type "dict",data:=Data.dict #[aI P "__module__" 222 (aD "framerooms.errors" 187),aI P "__firstlineno__" 226 (.int 6 225),aI P "__init__" 234 (.ref 48),aI P "__static_attributes__" 236 (.ref 49),aI P "__doc__" 237 (.none)] 2}
abbrev N5:Obj:={cls:= .type "type",data:=Data.cls {name:=Str.ofString "NoNumber",bases:=[.ref 31],mro:=[.ref 51,.ref 31,.type "ValueError",.type "Exception",.type "BaseException",.type "object"],ns:=50,qualname:=Str.ofString "NoNumber"},slots:= #[some (.ref 35),none,some (aD "NoNumber" 215),some (aD "NoNumber" 223),some (.builtin "ValueError.__new__"),some (.bool true)]}
abbrev Uw:Obj:={cls:= .type "super",data:=Data.fields #[.ref 51,.ref 51,.ref 51]}
abbrev UT:Obj:={cls:= .type "builtin_function_or_method",data:=Data.fields #[.builtin "object.__init_subclass__",.ref 51]}
abbrev VC:Obj:={cls:= .type "dict",data:=Data.dict #[aI P "__module__" 247 (aD "framerooms.errors" 187),aI P "__qualname__" 249 (aD "NoValue" 248),aI P "__firstlineno__" 251 (.int 11 250),aI P "__init__" 259 (.ref 67),aI P "__static_attributes__" 261 (.ref 68)] 5}
abbrev V0:Obj:=DS #[.int 13 0,.int 4 0,.ref 66]
abbrev UB:Obj:=Hz "NoValue" "NoValue" 242 11 57 245
abbrev Wn:Obj:={cls:= .type "frame",slots:= #[some (.ref 59),some (.ref 3),some (.ref 56),none,some (aD "framerooms.errors" 187),none,some (.ref 0)]}
abbrev OC:Obj:=d_ #[aD "self" 255,aD "found" 256]
abbrev VZ:Obj:=fg "__init__" "NoValue.__init__" cZ
abbrev Ou:Obj:=jh "__init__" "NoValue.__init__" 252 13 2 61 257
abbrev OI:Obj:=fh "__init__" "NoValue.__init__" cZ "framerooms.errors" 187 66
abbrev Oo:Obj:=d_ #[aD "found" 260]
abbrev Pp:Obj:={cls:= .type "dict",data:=Data.dict #[aI P "__module__" 247 (aD "framerooms.errors" 187),aI P "__firstlineno__" 251 (.int 11 250),aI P "__init__" 259 (.ref 67),aI P "__static_attributes__" 261 (.ref 68),aI P "__doc__" 262 (.none)] 2}
abbrev PK:Obj:={cls:= .type "type",data:=Data.cls {name:=Str.ofString "NoValue",bases:=[.ref 31],mro:=[.ref 70,.ref 31,.type "ValueError",.type "Exception",.type "BaseException",.type "object"],ns:=69,qualname:=Str.ofString "NoValue"},slots:= #[some (.ref 54),none,some (aD "NoValue" 240),some (aD "NoValue" 248),some (.builtin "ValueError.__new__"),some (.bool true)]}
abbrev Wk:Obj:={cls:= .type "super",data:=Data.fields #[.ref 70,.ref 70,.ref 70]}
abbrev U_:Obj:={cls:= .type "builtin_function_or_method",data:=Data.fields #[.builtin "object.__init_subclass__",.ref 70]}
abbrev VG:Obj:={cls:= .type "dict",data:=Data.dict #[aI P "__module__" 272 (aD "framerooms.errors" 187),aI P "__qualname__" 274 (aD "NoFrame" 273),aI P "__firstlineno__" 276 (.int 16 275),aI P "__init__" 284 (.ref 86),aI P "__static_attributes__" 286 (.ref 87)] 5}
abbrev U0:Obj:=DS #[.int 18 0,.int 4 0,.ref 85]
abbrev UW:Obj:=Hz "NoFrame" "NoFrame" 267 16 76 270
abbrev Ui:Obj:={cls:= .type "frame",slots:= #[some (.ref 78),some (.ref 3),some (.ref 75),none,some (aD "framerooms.errors" 187),none,some (.ref 0)]}
abbrev Pg:Obj:=d_ #[aD "self" 280,aD "found" 281]
abbrev UJ:Obj:=fg "__init__" "NoFrame.__init__" (jp (top 4) 0)
abbrev OP:Obj:=jh "__init__" "NoFrame.__init__" 277 18 2 80 282
abbrev PM:Obj:=fh "__init__" "NoFrame.__init__" (jp (top 4) 0) "framerooms.errors" 187 85
abbrev N6:Obj:=d_ #[aD "found" 285]
abbrev PV:Obj:={cls:= .type "dict",data:=Data.dict #[aI P "__module__" 272 (aD "framerooms.errors" 187),aI P "__firstlineno__" 276 (.int 16 275),aI P "__init__" 284 (.ref 86),aI P "__static_attributes__" 286 (.ref 87),aI P "__doc__" 287 (.none)] 2}
abbrev OL:Obj:={cls:= .type "type",data:=Data.cls {name:=Str.ofString "NoFrame",bases:=[.ref 31],mro:=[.ref 89,.ref 31,.type "ValueError",.type "Exception",.type "BaseException",.type "object"],ns:=88,qualname:=Str.ofString "NoFrame"},slots:= #[some (.ref 73),none,some (aD "NoFrame" 265),some (aD "NoFrame" 273),some (.builtin "ValueError.__new__"),some (.bool true)]}
abbrev Wm:Obj:={cls:= .type "super",data:=Data.fields #[.ref 89,.ref 89,.ref 89]}
abbrev Vw:Obj:={cls:= .type "builtin_function_or_method",data:=Data.fields #[.builtin "object.__init_subclass__",.ref 89]}
abbrev Wo:Obj:={cls:= .type "dict",data:=Data.dict #[aI P "__module__" 297 (aD "framerooms.errors" 187),aI P "__qualname__" 299 (aD "Gone" 298),aI P "__firstlineno__" 301 (.int 21 300),aI P "__init__" 310 (.ref 105),aI P "__static_attributes__" 313 (.ref 106)] 5}
abbrev WI:Obj:=DS #[.int 23 0,.int 4 0,.ref 104]
abbrev Wu:Obj:=Hz "Gone" "Gone" 292 21 95 295
abbrev Vu:Obj:={cls:= .type "frame",slots:= #[some (.ref 97),some (.ref 3),some (.ref 94),none,some (aD "framerooms.errors" 187),none,some (.ref 0)]}
abbrev Fy:Obj:=d_ #[aD "self" 305,aD "found" 306,aD "by" 307]
abbrev JV:Obj:=fg "__init__" "Gone.__init__" eK
abbrev Gs:Obj:=jh "__init__" "Gone.__init__" 302 23 3 99 308
abbrev FV:Obj:=fh "__init__" "Gone.__init__" eK "framerooms.errors" 187 104
abbrev Gu:Obj:=d_ #[aD "by" 311,aD "found" 312]
abbrev FG:Obj:={cls:= .type "dict",data:=Data.dict #[aI P "__module__" 297 (aD "framerooms.errors" 187),aI P "__firstlineno__" 301 (.int 21 300),aI P "__init__" 310 (.ref 105),aI P "__static_attributes__" 313 (.ref 106),aI P "__doc__" 314 (.none)] 2}
abbrev GC:Obj:={cls:= .type "type",data:=Data.cls {name:=Str.ofString "Gone",bases:=[.ref 31],mro:=[.ref 108,.ref 31,.type "ValueError",.type "Exception",.type "BaseException",.type "object"],ns:=107,qualname:=Str.ofString "Gone"},slots:= #[some (.ref 92),none,some (aD "Gone" 290),some (aD "Gone" 298),some (.builtin "ValueError.__new__"),some (.bool true)]}
abbrev K0:Obj:={cls:= .type "super",data:=Data.fields #[.ref 108,.ref 108,.ref 108]}
abbrev IJ:Obj:={cls:= .type "builtin_function_or_method",data:=Data.fields #[.builtin "object.__init_subclass__",.ref 108]}
abbrev MR:Obj:={cls:= .type "dict",data:=Data.dict #[aI P "__module__" 324 (aD "framerooms.errors" 187),aI P "__qualname__" 326 (aD "Ground" 325),aI P "__firstlineno__" 328 (.int 27 327),aI P "__init__" 335 (.ref 124),aI P "__static_attributes__" 336 (.ref 125)] 5}
abbrev KI:Obj:=DS #[.int 29 0,.int 4 0,.ref 123]
abbrev JK:Obj:=Hz "Ground" "Ground" 319 27 114 322
abbrev L_:Obj:={cls:= .type "frame",slots:= #[some (.ref 116),some (.ref 3),some (.ref 113),none,some (aD "framerooms.errors" 187),none,some (.ref 0)]}
abbrev Gd:Obj:=d_ #[aD "self" 332]
abbrev Kn:Obj:=fg "__init__" "Ground.__init__" (jp (top 6) 0)
abbrev FI:Obj:=jh "__init__" "Ground.__init__" 329 29 1 118 333
abbrev FZ:Obj:=fh "__init__" "Ground.__init__" (jp (top 6) 0) "framerooms.errors" 187 123
abbrev Fo:Obj:={cls:= .type "dict",data:=Data.dict #[aI P "__module__" 324 (aD "framerooms.errors" 187),aI P "__firstlineno__" 328 (.int 27 327),aI P "__init__" 335 (.ref 124),aI P "__static_attributes__" 336 (.ref 125),aI P "__doc__" 337 (.none)] 2}
abbrev FJ:Obj:={cls:= .type "type",data:=Data.cls {name:=Str.ofString "Ground",bases:=[.ref 31],mro:=[.ref 127,.ref 31,.type "ValueError",.type "Exception",.type "BaseException",.type "object"],ns:=126,qualname:=Str.ofString "Ground"},slots:= #[some (.ref 111),none,some (aD "Ground" 317),some (aD "Ground" 325),some (.builtin "ValueError.__new__"),some (.bool true)]}
abbrev Nr:Obj:={cls:= .type "super",data:=Data.fields #[.ref 127,.ref 127,.ref 127]}
abbrev Ks:Obj:={cls:= .type "builtin_function_or_method",data:=Data.fields #[.builtin "object.__init_subclass__",.ref 127]}
abbrev J_:Obj:={cls:= .type "dict",data:=Data.dict #[aI P "__module__" 347 (aD "framerooms.errors" 187),aI P "__qualname__" 349 (aD "TooMany" 348),aI P "__firstlineno__" 351 (.int 31 350),aI P "__init__" 359 (.ref 143),aI P "__static_attributes__" 361 (.ref 144)] 5}
abbrev Ml:Obj:=DS #[.int 33 0,.int 4 0,.ref 142]
abbrev L5:Obj:=Hz "TooMany" "TooMany" 342 31 133 345
abbrev Kk:Obj:={cls:= .type "frame",slots:= #[some (.ref 135),some (.ref 3),some (.ref 132),none,some (aD "framerooms.errors" 187),none,some (.ref 0)]}
abbrev Fv:Obj:=d_ #[aD "self" 355,aD "many" 356]
abbrev KZ:Obj:=fg "__init__" "TooMany.__init__" (jp (top 7) 0)
abbrev GA:Obj:=jh "__init__" "TooMany.__init__" 352 33 2 137 357
abbrev GJ:Obj:=fh "__init__" "TooMany.__init__" (jp (top 7) 0) "framerooms.errors" 187 142
abbrev F_:Obj:=d_ #[aD "many" 360]
abbrev FE:Obj:={cls:= .type "dict",data:=Data.dict #[aI P "__module__" 347 (aD "framerooms.errors" 187),aI P "__firstlineno__" 351 (.int 31 350),aI P "__init__" 359 (.ref 143),aI P "__static_attributes__" 361 (.ref 144),aI P "__doc__" 362 (.none)] 2}
abbrev Fq:Obj:={cls:= .type "type",data:=Data.cls {name:=Str.ofString "TooMany",bases:=[.ref 31],mro:=[.ref 146,.ref 31,.type "ValueError",.type "Exception",.type "BaseException",.type "object"],ns:=145,qualname:=Str.ofString "TooMany"},slots:= #[some (.ref 130),none,some (aD "TooMany" 340),some (aD "TooMany" 348),some (.builtin "ValueError.__new__"),some (.bool true)]}
abbrev MZ:Obj:={cls:= .type "super",data:=Data.fields #[.ref 146,.ref 146,.ref 146]}
abbrev Lq:Obj:={cls:= .type "builtin_function_or_method",data:=Data.fields #[.builtin "object.__init_subclass__",.ref 146]}
abbrev Kx:Obj:={cls:= .type "dict",data:=Data.dict #[aI P "__module__" 372 (aD "framerooms.errors" 187),aI P "__qualname__" 374 (aD "Full" 373),aI P "__firstlineno__" 376 (.int 36 375),aI P "__init__" 385 (.ref 162),aI P "__static_attributes__" 388 (.ref 163)] 5}
abbrev Jm:Obj:=DS #[.int 38 0,.int 4 0,.ref 161]
abbrev Mo:Obj:=Hz "Full" "Full" 367 36 152 370
abbrev LH:Obj:={cls:= .type "frame",slots:= #[some (.ref 154),some (.ref 3),some (.ref 151),none,some (aD "framerooms.errors" 187),none,some (.ref 0)]}
abbrev FC:Obj:=d_ #[aD "self" 380,aD "need" 381,aD "spare" 382]
abbrev Ky:Obj:=fg "__init__" "Full.__init__" (jp (top 8) 0)
abbrev Gg:Obj:=jh "__init__" "Full.__init__" 377 38 3 156 383
abbrev Fu:Obj:=fh "__init__" "Full.__init__" (jp (top 8) 0) "framerooms.errors" 187 161
abbrev Fh:Obj:=d_ #[aD "need" 386,aD "spare" 387]
abbrev FX:Obj:={cls:= .type "dict",data:=Data.dict #[aI P "__module__" 372 (aD "framerooms.errors" 187),aI P "__firstlineno__" 376 (.int 36 375),aI P "__init__" 385 (.ref 162),aI P "__static_attributes__" 388 (.ref 163),aI P "__doc__" 389 (.none)] 2}
abbrev FF:Obj:={cls:= .type "type",data:=Data.cls {name:=Str.ofString "Full",bases:=[.ref 31],mro:=[.ref 165,.ref 31,.type "ValueError",.type "Exception",.type "BaseException",.type "object"],ns:=164,qualname:=Str.ofString "Full"},slots:= #[some (.ref 149),none,some (aD "Full" 365),some (aD "Full" 373),some (.builtin "ValueError.__new__"),some (.bool true)]}
abbrev K9:Obj:={cls:= .type "super",data:=Data.fields #[.ref 165,.ref 165,.ref 165]}
abbrev J7:Obj:={cls:= .type "builtin_function_or_method",data:=Data.fields #[.builtin "object.__init_subclass__",.ref 165]}
abbrev Kr:Obj:={cls:= .type "dict",data:=Data.dict #[aI P "__module__" 399 (aD "framerooms.errors" 187),aI P "__qualname__" 401 (aD "NoWay" 400),aI P "__firstlineno__" 403 (.int 42 402),aI P "__init__" 411 (.ref 181),aI P "__static_attributes__" 413 (.ref 182)] 5}
abbrev Ng:Obj:=DS #[.int 44 0,.int 4 0,.ref 180]
abbrev LN:Obj:=Hz "NoWay" "NoWay" 394 42 171 397
abbrev MF:Obj:={cls:= .type "frame",slots:= #[some (.ref 173),some (.ref 3),some (.ref 170),none,some (aD "framerooms.errors" 187),none,some (.ref 0)]}
abbrev Gn:Obj:=d_ #[aD "self" 407,aD "found" 408]
abbrev LV:Obj:=fg "__init__" "NoWay.__init__" dX
abbrev GB:Obj:=jh "__init__" "NoWay.__init__" 404 44 2 175 409
abbrev FR:Obj:=fh "__init__" "NoWay.__init__" dX "framerooms.errors" 187 180
abbrev FA:Obj:=d_ #[aD "found" 412]
abbrev Gf:Obj:={cls:= .type "dict",data:=Data.dict #[aI P "__module__" 399 (aD "framerooms.errors" 187),aI P "__firstlineno__" 403 (.int 42 402),aI P "__init__" 411 (.ref 181),aI P "__static_attributes__" 413 (.ref 182),aI P "__doc__" 414 (.none)] 2}
abbrev GD:Obj:={cls:= .type "type",data:=Data.cls {name:=Str.ofString "NoWay",bases:=[.ref 31],mro:=[.ref 184,.ref 31,.type "ValueError",.type "Exception",.type "BaseException",.type "object"],ns:=183,qualname:=Str.ofString "NoWay"},slots:= #[some (.ref 168),none,some (aD "NoWay" 392),some (aD "NoWay" 400),some (.builtin "ValueError.__new__"),some (.bool true)]}
abbrev Kj:Obj:={cls:= .type "super",data:=Data.fields #[.ref 184,.ref 184,.ref 184]}
abbrev Nq:Obj:={cls:= .type "builtin_function_or_method",data:=Data.fields #[.builtin "object.__init_subclass__",.ref 184]}
abbrev apL:Obj:={cls:= .type "dict",data:=Data.dict #[aI P "__name__" 165 (aD "framerooms.house" 626),aI P "__doc__" 166 (.none),aI P "__package__" 167 (.none),aI P "__loader__" 168 (.builtin ("__main__.__loader__#opa" ++ "que")),aI P "__spec__" 169 (.none),aI P "__annotations__" 170 (.ref 6),aI P "__builtins__" 171 (.ref 4),aI P "__file__" 173 (aD "/claim/cut.py" 172),aI P "__cached__" 174 (.none),aI P "RoomError" 214 (.ref 31),aI P "NoNumber" 239 (.ref 51),aI P "NoValue" 264 (.ref 70),aI P "NoFrame" 289 (.ref 89),aI P "Gone" 316 (.ref 108),aI P "Ground" 339 (.ref 127),aI P "TooMany" 364 (.ref 146),aI P "Full" 391 (.ref 165),aI P "NoWay" 416 (.ref 184),aI P "NoCell" 441 (.ref 203),aI P "is_number" 450 (.ref 212),aI P "is_whole" 459 (.ref 219),aI P "is_count" 466 (.ref 226),aI P "is_pair" 473 (.ref 233),aI P "GROUND" 477 (.int 0 476),aI P "MOST_FRAMES" 479 (.int 100 478),aI P "Frames" 625 (.ref 349),aI P "MOST_CELLS" 629 (.int 1000 628),aI P "MOST_CELLS_OF_ROOM" 631 (.int 6 630)] 28}
abbrev Vi:Obj:=DS #[.int 2 0,.int 0 0,.ref 20,.int 6 0,.int 0 0,.ref 40,.int 11 0,.int 0 0,.ref 59,.int 16 0,.int 0 0,.ref 78,.int 21 0,.int 0 0,.ref 97,.int 27 0,.int 0 0,.ref 116,.int 31 0,.int 0 0,.ref 135,.int 36 0,.int 0 0,.ref 154,.int 42 0,.int 0 0,.ref 173,.int 47 0,.int 0 0,.ref 192,.int 53 0,.int 0 0,.ref 211,.int 55 0,.int 0 0,.ref 218,.int 57 0,.int 0 0,.ref 225,.int 59 0,.int 0 0,.ref 232,.int 66 0,.int 0 0,.ref 239]
abbrev MC:Obj:={cls:= .type "type",data:=Data.cls {name:=Str.ofString "RoomError",bases:=[.type "ValueError"],mro:=[.ref 31,.type "ValueError",.type "Exception",.type "BaseException",.type "object"],ns:=30,qualname:=Str.ofString "RoomError",subclasses:=[.ref 51,.ref 70,.ref 89,.ref 108,.ref 127,.ref 146,.ref 165,.ref 184,.ref 203]},slots:= #[some (.ref 15),none,some (aD "RoomError" 189),some (aD "RoomError" 197),some (.builtin "ValueError.__new__"),some (.bool true)]}
abbrev Rv:Obj:={cls:= .type "dict",data:=Data.dict #[aI P "__module__" 424 (aD "framerooms.errors" 187),aI P "__qualname__" 426 (aD "NoCell" 425),aI P "__firstlineno__" 428 (.int 47 427),aI P "__init__" 436 (.ref 200),aI P "__static_attributes__" 438 (.ref 201)] 5}
abbrev SK:Obj:=DS #[.int 49 0,.int 4 0,.ref 199]
abbrev QC:Obj:=Hz "NoCell" "NoCell" 419 47 190 422
abbrev RJ:Obj:={cls:= .type "frame",slots:= #[some (.ref 192),some (.ref 3),some (.ref 189),none,some (aD "framerooms.errors" 187),none,some (.ref 0)]}
abbrev Ji:Obj:=d_ #[aD "self" 432,aD "found" 433]
abbrev RH:Obj:=fg "__init__" "NoCell.__init__" dm
abbrev Kl:Obj:=jh "__init__" "NoCell.__init__" 429 49 2 194 434
abbrev IM:Obj:=fh "__init__" "NoCell.__init__" dm "framerooms.errors" 187 199
abbrev JU:Obj:=d_ #[aD "found" 437]
abbrev L8:Obj:={cls:= .type "dict",data:=Data.dict #[aI P "__module__" 424 (aD "framerooms.errors" 187),aI P "__firstlineno__" 428 (.int 47 427),aI P "__init__" 436 (.ref 200),aI P "__static_attributes__" 438 (.ref 201),aI P "__doc__" 439 (.none)] 2}
abbrev LS:Obj:={cls:= .type "type",data:=Data.cls {name:=Str.ofString "NoCell",bases:=[.ref 31],mro:=[.ref 203,.ref 31,.type "ValueError",.type "Exception",.type "BaseException",.type "object"],ns:=202,qualname:=Str.ofString "NoCell"},slots:= #[some (.ref 187),none,some (aD "NoCell" 417),some (aD "NoCell" 425),some (.builtin "ValueError.__new__"),some (.bool true)]}
abbrev Ub:Obj:={cls:= .type "super",data:=Data.fields #[.ref 203,.ref 203,.ref 203]}
abbrev QI:Obj:={cls:= .type "builtin_function_or_method",data:=Data.fields #[.builtin "object.__init_subclass__",.ref 203]}
abbrev Mq:Obj:=d_ #[aD "thing" 447]
abbrev R8:Obj:=fg "is_number" "is_number" jb
abbrev IQ:Obj:=jh "is_number" "is_number" 444 53 1 206 448
abbrev Jn:Obj:=fh "is_number" "is_number" jb "framerooms.words" 442 211
abbrev JO:Obj:=d_ #[aD "thing" 454,aD "low" 455,aD "high" 456]
abbrev Tp:Obj:=fg "is_whole" "is_whole" lj
abbrev Na:Obj:=jh "is_whole" "is_whole" 451 55 3 213 457
abbrev IZ:Obj:=fh "is_whole" "is_whole" lj "framerooms.words" 442 218
abbrev Jr:Obj:=d_ #[aD "thing" 463]
abbrev Ss:Obj:=fg "is_count" "is_count" lu
abbrev Lm:Obj:=jh "is_count" "is_count" 460 57 1 220 464
abbrev J6:Obj:=fh "is_count" "is_count" lu "framerooms.words" 442 225
abbrev JQ:Obj:=d_ #[aD "thing" 470]
abbrev SG:Obj:=fg "is_pair" "is_pair" mM
abbrev LR:Obj:=jh "is_pair" "is_pair" 467 59 1 227 471
abbrev MK:Obj:=fh "is_pair" "is_pair" mM "framerooms.words" 442 232
abbrev SQ:Obj:={cls:= .type "dict",data:=Data.dict #[aI P "__module__" 487 (aD "framerooms.frames" 474),aI P "__qualname__" 489 (aD "Frames" 488),aI P "__firstlineno__" 491 (.int 66 490),aI P "__init__" 498 (.ref 247),aI P "begin" 506 (.ref 254),aI P "finish" 516 (.ref 261),aI P "part" 522 (.ref 266),aI P "inside" 530 (.ref 273),aI P "row" 540 (.ref 280),aI P "within" 546 (.ref 285),aI P "ended_by" 554 (.ref 292),aI P "stands" 562 (.ref 299),aI P "standing" 568 (.ref 304),aI P "begun" 575 (.ref 311),aI P "was_begun" 583 (.ref 318),aI P "want_begun" 591 (.ref 325),aI P "want_standing" 599 (.ref 332),aI P "want_beginning" 607 (.ref 339),aI P "want_finishing" 615 (.ref 346),aI P "__static_attributes__" 618 (.ref 347)] 20}
abbrev QM:Obj:=DS #[.int 68 0,.int 4 0,.ref 246,.int 72 0,.int 4 0,.ref 253,.int 78 0,.int 4 0,.ref 260,.int 85 0,.int 4 0,.ref 265,.int 88 0,.int 4 0,.ref 272,.int 92 0,.int 4 0,.ref 279,.int 101 0,.int 4 0,.ref 284,.int 105 0,.int 4 0,.ref 291,.int 109 0,.int 4 0,.ref 298,.int 112 0,.int 4 0,.ref 303,.int 115 0,.int 4 0,.ref 310,.int 118 0,.int 4 0,.ref 317,.int 121 0,.int 4 0,.ref 324,.int 125 0,.int 4 0,.ref 331,.int 130 0,.int 4 0,.ref 338,.int 135 0,.int 4 0,.ref 345]
abbrev Ro:Obj:=Hz "Frames" "Frames" 482 66 237 485
abbrev TX:Obj:={cls:= .type "frame",slots:= #[some (.ref 239),some (.ref 3),some (.ref 236),none,some (aD "framerooms.frames" 474),none,some (.ref 0)]}
abbrev KY:Obj:=d_ #[aD "self" 495]
abbrev Sv:Obj:=fg "__init__" "Frames.__init__" dC
abbrev Nh:Obj:=jh "__init__" "Frames.__init__" 492 68 1 241 496
abbrev Me:Obj:=fh "__init__" "Frames.__init__" dC "framerooms.frames" 474 246
abbrev Ki:Obj:=d_ #[aD "self" 502,aD "frame" 503]
abbrev Sd:Obj:=fg "begin" "Frames.begin" fu
abbrev JS:Obj:=jh "begin" "Frames.begin" 499 72 2 248 504
abbrev MD:Obj:=fh "begin" "Frames.begin" fu "framerooms.frames" 474 253
abbrev MM:Obj:=d_ #[aD "self" 510,aD "frame" 511,aD "ended" 512,aD "number" 513]
abbrev RW:Obj:=fg "finish" "Frames.finish" eJ
abbrev Jo:Obj:=jh "finish" "Frames.finish" 507 78 2 255 514
abbrev Lb:Obj:=fh "finish" "Frames.finish" eJ "framerooms.frames" 474 260
abbrev RT:Obj:=fg "part" "Frames.part" gk
abbrev Kh:Obj:=zp #[aD "part" 517,aD "Frames.part" 518,aD "/claim/cut.py" 519,.int 85 0,.int 2 0,.int 0 0,.int 0 0,.int 3 0,.ref 262,.bool true,.int 181 0,.ref 263,.none,.none,.none,.ref 264,.int 520 0,.int 85 0,aD "/claim/cut.py" 521]
abbrev Ld:Obj:=fh "part" "Frames.part" gk "framerooms.frames" 474 265
abbrev Nj:Obj:=d_ #[aD "self" 526,aD "frame" 527]
abbrev Sr:Obj:=fg "inside" "Frames.inside" eM
abbrev Km:Obj:=jh "inside" "Frames.inside" 523 88 2 267 528
abbrev ME:Obj:=fh "inside" "Frames.inside" eM "framerooms.frames" 474 272
abbrev Lf:Obj:=d_ #[aD "self" 534,aD "frame" 535,aD "outward" 536,aD "step" 537]
abbrev Su:Obj:=fg "row" "Frames.row" iA
abbrev Ko:Obj:=jh "row" "Frames.row" 531 92 2 274 538
abbrev Ke:Obj:=fh "row" "Frames.row" iA "framerooms.frames" 474 279
abbrev RY:Obj:=fg "within" "Frames.within" (jp (top 19) 6)
abbrev Lo:Obj:=zp #[aD "within" 541,aD "Frames.within" 542,aD "/claim/cut.py" 543,.int 101 0,.int 2 0,.int 0 0,.int 0 0,.int 3 0,.ref 281,.bool true,.int 181 0,.ref 282,.none,.none,.none,.ref 283,.int 544 0,.int 101 0,aD "/claim/cut.py" 545]
abbrev Mi:Obj:=fh "within" "Frames.within" (jp (top 19) 6) "framerooms.frames" 474 284
abbrev KQ:Obj:=d_ #[aD "self" 550,aD "frame" 551]
abbrev Q9:Obj:=fg "ended_by" "Frames.ended_by" dk
abbrev KP:Obj:=jh "ended_by" "Frames.ended_by" 547 105 2 286 552
abbrev Jq:Obj:=fh "ended_by" "Frames.ended_by" dk "framerooms.frames" 474 291
abbrev LA:Obj:=d_ #[aD "self" 558,aD "thing" 559]
abbrev Q_:Obj:=fg "stands" "Frames.stands" eU
abbrev Kf:Obj:=jh "stands" "Frames.stands" 555 109 2 293 560
abbrev Ln:Obj:=fh "stands" "Frames.stands" eU "framerooms.frames" 474 298
abbrev Rn:Obj:=fg "standing" "Frames.standing" dH
abbrev KR:Obj:=zp #[aD "standing" 563,aD "Frames.standing" 564,aD "/claim/cut.py" 565,.int 112 0,.int 1 0,.int 0 0,.int 0 0,.int 3 0,.ref 300,.bool true,.int 181 0,.ref 301,.none,.none,.none,.ref 302,.int 566 0,.int 112 0,aD "/claim/cut.py" 567]
abbrev LF:Obj:=fh "standing" "Frames.standing" dH "framerooms.frames" 474 303
abbrev K4:Obj:=d_ #[aD "self" 572]
abbrev Sj:Obj:=fg "begun" "Frames.begun" fJ
abbrev Je:Obj:=jh "begun" "Frames.begun" 569 115 1 305 573
abbrev Nu:Obj:=fh "begun" "Frames.begun" fJ "framerooms.frames" 474 310
abbrev IW:Obj:=d_ #[aD "self" 579,aD "thing" 580]
abbrev S2:Obj:=fg "was_begun" "Frames.was_begun" cU
abbrev KA:Obj:=jh "was_begun" "Frames.was_begun" 576 118 2 312 581
abbrev KJ:Obj:=fh "was_begun" "Frames.was_begun" cU "framerooms.frames" 474 317
abbrev Lc:Obj:=d_ #[aD "self" 587,aD "thing" 588]
abbrev S5:Obj:=fg "want_begun" "Frames.want_begun" cL
abbrev LP:Obj:=jh "want_begun" "Frames.want_begun" 584 121 2 319 589
abbrev JJ:Obj:=fh "want_begun" "Frames.want_begun" cL "framerooms.frames" 474 324
abbrev IY:Obj:=d_ #[aD "self" 595,aD "thing" 596]
abbrev SV:Obj:=fg "want_standing" "Frames.want_standing" cb
abbrev Jb:Obj:=jh "want_standing" "Frames.want_standing" 592 125 2 326 597
abbrev KH:Obj:=fh "want_standing" "Frames.want_standing" cb "framerooms.frames" 474 331
abbrev L4:Obj:=d_ #[aD "self" 603,aD "thing" 604]
abbrev RP:Obj:=fg "want_beginning" "Frames.want_beginning" bZ
abbrev MP:Obj:=jh "want_beginning" "Frames.want_beginning" 600 130 2 333 605
abbrev Mc:Obj:=fh "want_beginning" "Frames.want_beginning" bZ "framerooms.frames" 474 338
abbrev Nk:Obj:=d_ #[aD "self" 611,aD "thing" 612]
abbrev Sb:Obj:=fg "want_finishing" "Frames.want_finishing" b7
abbrev JX:Obj:=jh "want_finishing" "Frames.want_finishing" 608 135 2 340 613
abbrev Mm:Obj:=fh "want_finishing" "Frames.want_finishing" b7 "framerooms.frames" 474 345
abbrev Ly:Obj:=d_ #[aD "parents" 616,aD "takers" 617]
abbrev Nm:Obj:={cls:= .type "dict",data:=Data.dict #[aI P "__module__" 487 (aD "framerooms.frames" 474),aI P "__firstlineno__" 491 (.int 66 490),aI P "__init__" 498 (.ref 247),aI P "begin" 506 (.ref 254),aI P "finish" 516 (.ref 261),aI P "part" 522 (.ref 266),aI P "inside" 530 (.ref 273),aI P "row" 540 (.ref 280),aI P "within" 546 (.ref 285),aI P "ended_by" 554 (.ref 292),aI P "stands" 562 (.ref 299),aI P "standing" 568 (.ref 304),aI P "begun" 575 (.ref 311),aI P "was_begun" 583 (.ref 318),aI P "want_begun" 591 (.ref 325),aI P "want_standing" 599 (.ref 332),aI P "want_beginning" 607 (.ref 339),aI P "want_finishing" 615 (.ref 346),aI P "__static_attributes__" 618 (.ref 347),aI P "__dict__" 620 (.ref 350),aI P "__weakref__" 622 (.ref 351),aI P "__doc__" 623 (.none)] 4}
abbrev ZC:Obj:={cls:= .type "type",data:=Data.cls {name:=Str.ofString "Frames",bases:=[.type "object"],mro:=[.ref 349,.type "object"],ns:=348,qualname:=Str.ofString "Frames"},slots:= #[none,none,some (aD "Frames" 480),some (aD "Frames" 488),some (.builtin "object.__new__"),some (.bool true)]}
abbrev IK:Obj:={cls:= .type "getset_descriptor",data:=Data.fields #[aD "__dict__" 619,.ref 349,.builtin "function.__dict__",.builtin "function.__dict__#set"]}
abbrev LC:Obj:={cls:= .type "getset_descriptor",data:=Data.fields #[aD "__weakref__" 621,.ref 349,.builtin "ExceptionGroup.__weakref__",.none]}
abbrev Qz:Obj:={cls:= .type "super",data:=Data.fields #[.ref 349,.ref 349,.ref 349]}
abbrev Qy:Obj:={cls:= .type "builtin_function_or_method",data:=Data.fields #[.builtin "object.__init_subclass__",.ref 349]}
abbrev R7:Obj:={cls:= .type "dict",data:=Data.dict #[aI P "__name__" 165 (aD "law_framerooms_k15_pictures_and_twins" 793),aI P "__doc__" 166 (.none),aI P "__package__" 167 (.none),aI P "__loader__" 168 (.builtin ("__main__.__loader__#opa" ++ "que")),aI P "__spec__" 169 (.none),aI P "__annotations__" 170 (.ref 6),aI P "__builtins__" 171 (.ref 4),aI P "__file__" 173 (aD "/claim/cut.py" 172),aI P "__cached__" 174 (.none),aI P "RoomError" 214 (.ref 31),aI P "NoNumber" 239 (.ref 51),aI P "NoValue" 264 (.ref 70),aI P "NoFrame" 289 (.ref 89),aI P "Gone" 316 (.ref 108),aI P "Ground" 339 (.ref 127),aI P "TooMany" 364 (.ref 146),aI P "Full" 391 (.ref 165),aI P "NoWay" 416 (.ref 184),aI P "NoCell" 441 (.ref 203),aI P "is_number" 450 (.ref 212),aI P "is_whole" 459 (.ref 219),aI P "is_count" 466 (.ref 226),aI P "is_pair" 473 (.ref 233),aI P "GROUND" 477 (.int 0 476),aI P "MOST_FRAMES" 479 (.int 100 478),aI P "Frames" 625 (.ref 349),aI P "MOST_CELLS" 629 (.int 1000 628),aI P "MOST_CELLS_OF_ROOM" 631 (.int 6 630),aI P "House" 784 (.ref 472),aI P "want_cell" 792 (.ref 481),aI P "_law_cell" 802 (.ref 488),aI P "_law_box" 809 (.ref 495),aI P "_law_take" 820 (.ref 502),aI P "_law_house" 827 (.ref 509),aI P "_law_standing" 833 (.ref 514),aI P "_law_row" 842 (.ref 521),aI P "_law_begin" 850 (.ref 528),aI P "_law_finish" 856 (.ref 533),aI P "_law_given" 862 (.ref 538),aI P "_law_used" 868 (.ref 543),aI P "_law_make" 874 (.ref 548),aI P "_law_one" 884 (.ref 555),aI P "_law_value" 894 (.ref 562),aI P "_law_here" 900 (.ref 567),aI P "_law_deed" 915 (.ref 574),aI P "_law_picture" 921 (.ref 579),aI P "_law_copy" 927 (.ref 584),aI P "_law_by" 937 (.ref 591),aI P "_law_caught" 949 (.ref 598),aI P "_law_apart" 955 (.ref 603),aI P "_law_no_cell" 966 (.ref 610),aI P "_law_rooms_right" 977 (.ref 617),aI P "_law_right" 983 (.ref 622),aI P "law" 989 (.ref 627)] 54}
abbrev O3:Obj:=DS #[.int 2 0,.int 0 0,.ref 20,.int 6 0,.int 0 0,.ref 40,.int 11 0,.int 0 0,.ref 59,.int 16 0,.int 0 0,.ref 78,.int 21 0,.int 0 0,.ref 97,.int 27 0,.int 0 0,.ref 116,.int 31 0,.int 0 0,.ref 135,.int 36 0,.int 0 0,.ref 154,.int 42 0,.int 0 0,.ref 173,.int 47 0,.int 0 0,.ref 192,.int 53 0,.int 0 0,.ref 211,.int 55 0,.int 0 0,.ref 218,.int 57 0,.int 0 0,.ref 225,.int 59 0,.int 0 0,.ref 232,.int 66 0,.int 0 0,.ref 239,.int 142 0,.int 0 0,.ref 359,.int 230 0,.int 0 0,.ref 480,.int 234 0,.int 0 0,.ref 487,.int 238 0,.int 0 0,.ref 494,.int 240 0,.int 0 0,.ref 501,.int 249 0,.int 0 0,.ref 508,.int 251 0,.int 0 0,.ref 513,.int 253 0,.int 0 0,.ref 520,.int 258 0,.int 0 0,.ref 527,.int 262 0,.int 0 0,.ref 532,.int 267 0,.int 0 0,.ref 537,.int 269 0,.int 0 0,.ref 542,.int 271 0,.int 0 0,.ref 547,.int 277 0,.int 0 0,.ref 554,.int 281 0,.int 0 0,.ref 561,.int 287 0,.int 0 0,.ref 566,.int 289 0,.int 0 0,.ref 573,.int 309 0,.int 0 0,.ref 578,.int 315 0,.int 0 0,.ref 583,.int 321 0,.int 0 0,.ref 590,.int 328 0,.int 0 0,.ref 597,.int 340 0,.int 0 0,.ref 602,.int 348 0,.int 0 0,.ref 609,.int 355 0,.int 0 0,.ref 616,.int 366 0,.int 0 0,.ref 621,.int 383 0,.int 0 0,.ref 626]
abbrev J1:Obj:={cls:= .type "type",data:=Data.cls {name:=Str.ofString "Frames",bases:=[.type "object"],mro:=[.ref 349,.type "object"],ns:=348,qualname:=Str.ofString "Frames",subclasses:=[.ref 472]},slots:= #[none,none,some (aD "Frames" 480),some (aD "Frames" 488),some (.builtin "object.__new__"),some (.bool true)]}
abbrev TV:Obj:=d_ #[.ref 349]
abbrev aaD:Obj:={cls:= .type "dict",data:=Data.dict #[aI P "__module__" 639 (aD "framerooms.house" 626),aI P "__qualname__" 641 (aD "House" 640),aI P "__firstlineno__" 643 (.int 142 642),aI P "__init__" 651 (.ref 367),aI P "make" 663 (.ref 374),aI P "get" 673 (.ref 381),aI P "put" 684 (.ref 388),aI P "size" 692 (.ref 395),aI P "cells" 700 (.ref 402),aI P "used" 706 (.ref 407),aI P "left" 713 (.ref 414),aI P "limit" 720 (.ref 421),aI P "greatest" 727 (.ref 428),aI P "rooms" 733 (.ref 433),aI P "picture" 739 (.ref 438),aI P "picture_of" 745 (.ref 443),aI P "twin" 751 (.ref 448),aI P "is_way" 759 (.ref 455),aI P "is_value" 767 (.ref 462),aI P "want_room" 776 (.ref 469),aI P "__static_attributes__" 781 (.ref 470)] 21}
abbrev aam:Obj:=DS #[.int 144 0,.int 4 0,.ref 366,.int 153 0,.int 4 0,.ref 373,.int 167 0,.int 4 0,.ref 380,.int 172 0,.int 4 0,.ref 387,.int 179 0,.int 4 0,.ref 394,.int 182 0,.int 4 0,.ref 401,.int 185 0,.int 4 0,.ref 406,.int 188 0,.int 4 0,.ref 413,.int 191 0,.int 4 0,.ref 420,.int 194 0,.int 4 0,.ref 427,.int 197 0,.int 4 0,.ref 432,.int 201 0,.int 4 0,.ref 437,.int 204 0,.int 4 0,.ref 442,.int 207 0,.int 4 0,.ref 447,.int 217 0,.int 4 0,.ref 454,.int 220 0,.int 4 0,.ref 461,.int 223 0,.int 4 0,.ref 468]
abbrev abX:Obj:=Hz "House" "House" 634 142 357 637
abbrev YL:Obj:={cls:= .type "frame",slots:= #[some (.ref 359),some (.ref 3),some (.ref 356),none,some (aD "framerooms.house" 626),none,some (.ref 0)]}
abbrev Rt:Obj:=d_ #[aD "self" 647,aD "limit" 648]
abbrev ab3:Obj:=fg "__init__" "House.__init__" dW
abbrev Sf:Obj:=jh "__init__" "House.__init__" 644 144 2 361 649
abbrev Q3:Obj:=fh "__init__" "House.__init__" dW "framerooms.house" 626 366
abbrev Rf:Obj:=d_ #[aD "self" 655,aD "frame" 656,aD "size" 657,aD "spare" 658,aD "place" 659,aD "floor" 660]
abbrev abV:Obj:=fg "make" "House.make" ib
abbrev QE:Obj:=jh "make" "House.make" 652 153 3 368 661
abbrev S4:Obj:=fh "make" "House.make" ib "framerooms.house" 626 373
abbrev S0:Obj:=d_ #[aD "self" 667,aD "way" 668,aD "k" 669,aD "room" 670]
abbrev Y1:Obj:=fg "get" "House.get" jx
abbrev Ta:Obj:=jh "get" "House.get" 664 167 3 375 671
abbrev TH:Obj:=fh "get" "House.get" jx "framerooms.house" 626 380
abbrev QW:Obj:=d_ #[aD "self" 677,aD "way" 678,aD "k" 679,aD "value" 680,aD "room" 681]
abbrev abT:Obj:=fg "put" "House.put" jt
abbrev Tg:Obj:=jh "put" "House.put" 674 172 4 382 682
abbrev RM:Obj:=fh "put" "House.put" jt "framerooms.house" 626 387
abbrev SH:Obj:=d_ #[aD "self" 688,aD "way" 689]
abbrev ZX:Obj:=fg "size" "House.size" hU
abbrev TZ:Obj:=jh "size" "House.size" 685 179 2 389 690
abbrev Rk:Obj:=fh "size" "House.size" hU "framerooms.house" 626 394
abbrev SA:Obj:=d_ #[aD "self" 696,aD "way" 697]
abbrev aaI:Obj:=fg "cells" "House.cells" gh
abbrev Ry:Obj:=jh "cells" "House.cells" 693 182 2 396 698
abbrev Q8:Obj:=fh "cells" "House.cells" gh "framerooms.house" 626 401
abbrev abe:Obj:=fg "used" "House.used" iJ
abbrev So:Obj:=zp #[aD "used" 701,aD "House.used" 702,aD "/claim/cut.py" 703,.int 185 0,.int 1 0,.int 0 0,.int 0 0,.int 3 0,.ref 403,.bool true,.int 181 0,.ref 404,.none,.none,.none,.ref 405,.int 704 0,.int 185 0,aD "/claim/cut.py" 705]
abbrev Q0:Obj:=fh "used" "House.used" iJ "framerooms.house" 626 406
abbrev TN:Obj:=d_ #[aD "self" 710]
abbrev Yk:Obj:=fg "left" "House.left" ig
abbrev TK:Obj:=jh "left" "House.left" 707 188 1 408 711
abbrev SW:Obj:=fh "left" "House.left" ig "framerooms.house" 626 413
abbrev TY:Obj:=d_ #[aD "self" 717]
abbrev acM:Obj:=fg "limit" "House.limit" gq
abbrev R3:Obj:=jh "limit" "House.limit" 714 191 1 415 718
abbrev Tz:Obj:=fh "limit" "House.limit" gq "framerooms.house" 626 420
abbrev QO:Obj:=d_ #[aD "self" 724]
abbrev acq:Obj:=fg "greatest" "House.greatest" dY
abbrev Tb:Obj:=jh "greatest" "House.greatest" 721 194 1 422 725
abbrev Rj:Obj:=fh "greatest" "House.greatest" dY "framerooms.house" 626 427
abbrev abE:Obj:=fg "rooms" "House.rooms" gr
abbrev QB:Obj:=zp #[aD "rooms" 728,aD "House.rooms" 729,aD "/claim/cut.py" 730,.int 197 0,.int 2 0,.int 0 0,.int 0 0,.int 3 0,.ref 429,.bool true,.int 181 0,.ref 430,.none,.none,.none,.ref 431,.int 731 0,.int 197 0,aD "/claim/cut.py" 732]
abbrev S_:Obj:=fh "rooms" "House.rooms" gr "framerooms.house" 626 432
abbrev YV:Obj:=fg "picture" "House.picture" eS
abbrev QF:Obj:=zp #[aD "picture" 734,aD "House.picture" 735,aD "/claim/cut.py" 736,.int 201 0,.int 1 0,.int 0 0,.int 0 0,.int 3 0,.ref 434,.bool true,.int 181 0,.ref 435,.none,.none,.none,.ref 436,.int 737 0,.int 201 0,aD "/claim/cut.py" 738]
abbrev RQ:Obj:=fh "picture" "House.picture" eS "framerooms.house" 626 437
abbrev YY:Obj:=fg "picture_of" "House.picture_of" cV
abbrev QD:Obj:=zp #[aD "picture_of" 740,aD "House.picture_of" 741,aD "/claim/cut.py" 742,.int 204 0,.int 2 0,.int 0 0,.int 0 0,.int 3 0,.ref 439,.bool true,.int 181 0,.ref 440,.none,.none,.none,.ref 441,.int 743 0,.int 204 0,aD "/claim/cut.py" 744]
abbrev S1:Obj:=fh "picture_of" "House.picture_of" cV "framerooms.house" 626 442
abbrev acv:Obj:=fg "twin" "House.twin" ip
abbrev Tv:Obj:=zp #[aD "twin" 746,aD "House.twin" 747,aD "/claim/cut.py" 748,.int 207 0,.int 1 0,.int 0 0,.int 0 0,.int 3 0,.ref 444,.bool true,.int 181 0,.ref 445,.none,.none,.none,.ref 446,.int 749 0,.int 207 0,aD "/claim/cut.py" 750]
abbrev Tx:Obj:=fh "twin" "House.twin" ip "framerooms.house" 626 447
abbrev Si:Obj:=d_ #[aD "self" 755,aD "thing" 756]
abbrev ab8:Obj:=fg "is_way" "House.is_way" fB
abbrev T7:Obj:=jh "is_way" "House.is_way" 752 217 2 449 757
abbrev Uc:Obj:=fh "is_way" "House.is_way" fB "framerooms.house" 626 454
abbrev Qw:Obj:=d_ #[aD "self" 763,aD "thing" 764]
abbrev Y2:Obj:=fg "is_value" "House.is_value" d6
abbrev Rg:Obj:=jh "is_value" "House.is_value" 760 220 2 456 765
abbrev RX:Obj:=fh "is_value" "House.is_value" d6 "framerooms.house" 626 461
abbrev QV:Obj:=d_ #[aD "self" 771,aD "thing" 772,aD "taker" 773]
abbrev abi:Obj:=fg "want_room" "House.want_room" dE
abbrev RN:Obj:=jh "want_room" "House.want_room" 768 223 2 463 774
abbrev RA:Obj:=fh "want_room" "House.want_room" dE "framerooms.house" 626 468
abbrev Se:Obj:=d_ #[aD "bound" 777,aD "floors" 778,aD "lengths" 779,aD "peak" 780]
abbrev Sl:Obj:={cls:= .type "dict",data:=Data.dict #[aI P "__module__" 639 (aD "framerooms.house" 626),aI P "__firstlineno__" 643 (.int 142 642),aI P "__init__" 651 (.ref 367),aI P "make" 663 (.ref 374),aI P "get" 673 (.ref 381),aI P "put" 684 (.ref 388),aI P "size" 692 (.ref 395),aI P "cells" 700 (.ref 402),aI P "used" 706 (.ref 407),aI P "left" 713 (.ref 414),aI P "limit" 720 (.ref 421),aI P "greatest" 727 (.ref 428),aI P "rooms" 733 (.ref 433),aI P "picture" 739 (.ref 438),aI P "picture_of" 745 (.ref 443),aI P "twin" 751 (.ref 448),aI P "is_way" 759 (.ref 455),aI P "is_value" 767 (.ref 462),aI P "want_room" 776 (.ref 469),aI P "__static_attributes__" 781 (.ref 470),aI P "__doc__" 782 (.none)] 2}
abbrev Qv:Obj:={cls:= .type "type",data:=Data.cls {name:=Str.ofString "House",bases:=[.ref 349],mro:=[.ref 472,.ref 349,.type "object"],ns:=471,qualname:=Str.ofString "House"},slots:= #[some (.ref 354),none,some (aD "House" 632),some (aD "House" 640),some (.builtin "object.__new__"),some (.bool true)]}
abbrev Zo:Obj:={cls:= .type "super",data:=Data.fields #[.ref 472,.ref 472,.ref 472]}
abbrev Zh:Obj:={cls:= .type "builtin_function_or_method",data:=Data.fields #[.builtin "object.__init_subclass__",.ref 472]}
abbrev TQ:Obj:=d_ #[aD "room" 788,aD "thing" 789]
abbrev aar:Obj:=fg "want_cell" "want_cell" jF
abbrev Sy:Obj:=jh "want_cell" "want_cell" 785 230 2 475 790
abbrev Ud:Obj:=fh "want_cell" "want_cell" jF "framerooms.house" 626 480
abbrev T6:Obj:=d_ #[aD "_law_script" 798,aD "_law_k" 799]
abbrev aa2:Obj:=fg "_law_cell" "_law_cell" jg
abbrev RL:Obj:=jh "_law_cell" "_law_cell" 795 234 2 482 800
abbrev Sw:Obj:=fh "_law_cell" "_law_cell" jg "law_framerooms_k15_pictures_and_twins" 793 487
abbrev T8:Obj:=d_ #[aD "_law_cell_here" 806]
abbrev Yt:Obj:=fg "_law_box" "_law_box" kA
abbrev Ts:Obj:=jh "_law_box" "_law_box" 803 238 1 489 807
abbrev Rw:Obj:=fh "_law_box" "_law_box" kA "law_framerooms_k15_pictures_and_twins" 793 494
abbrev Td:Obj:=d_ #[aD "_law_box_here" 813,aD "_law_many" 814,aD "_law_digit" 815,aD "_law_one_here" 816,aD "_law_other" 817]
abbrev abq:Obj:=fg "_law_take" "_law_take" jD
abbrev RG:Obj:=jh "_law_take" "_law_take" 810 240 2 496 818
abbrev Rh:Obj:=fh "_law_take" "_law_take" jD "law_framerooms_k15_pictures_and_twins" 793 501
abbrev QY:Obj:=d_ #[aD "_law_limit" 824]
abbrev YQ:Obj:=fg "_law_house" "_law_house" iw
abbrev Sm:Obj:=jh "_law_house" "_law_house" 821 249 1 503 825
abbrev R4:Obj:=fh "_law_house" "_law_house" iw "law_framerooms_k15_pictures_and_twins" 793 508
abbrev aa8:Obj:=fg "_law_standing" "_law_standing" eP
abbrev T4:Obj:=zp #[aD "_law_standing" 828,aD "_law_standing" 829,aD "/claim/cut.py" 830,.int 251 0,.int 1 0,.int 0 0,.int 0 0,.int 3 0,.ref 510,.bool true,.int 181 0,.ref 511,.none,.none,.none,.ref 512,.int 831 0,.int 251 0,aD "/claim/cut.py" 832]
abbrev SN:Obj:=fh "_law_standing" "_law_standing" eP "law_framerooms_k15_pictures_and_twins" 793 513
abbrev T5:Obj:=d_ #[aD "_law_model" 837,aD "_law_frame" 838,aD "_law_found" 839]
abbrev Xw:Obj:=fg "_law_row" "_law_row" kZ
abbrev R6:Obj:=jh "_law_row" "_law_row" 834 253 2 515 840
abbrev R5:Obj:=fh "_law_row" "_law_row" kZ "law_framerooms_k15_pictures_and_twins" 793 520
abbrev R1:Obj:=d_ #[aD "_law_model" 846,aD "_law_frame" 847]
abbrev YA:Obj:=fg "_law_begin" "_law_begin" hX
abbrev Q2:Obj:=jh "_law_begin" "_law_begin" 843 258 2 522 848
abbrev Qx:Obj:=fh "_law_begin" "_law_begin" hX "law_framerooms_k15_pictures_and_twins" 793 527
abbrev abm:Obj:=fg "_law_finish" "_law_finish" gu
abbrev S3:Obj:=zp #[aD "_law_finish" 851,aD "_law_finish" 852,aD "/claim/cut.py" 853,.int 262 0,.int 2 0,.int 0 0,.int 0 0,.int 3 0,.ref 529,.bool true,.int 181 0,.ref 530,.none,.none,.none,.ref 531,.int 854 0,.int 262 0,aD "/claim/cut.py" 855]
abbrev Rq:Obj:=fh "_law_finish" "_law_finish" gu "law_framerooms_k15_pictures_and_twins" 793 532
abbrev acy:Obj:=fg "_law_given" "_law_given" il
abbrev SX:Obj:=zp #[aD "_law_given" 857,aD "_law_given" 858,aD "/claim/cut.py" 859,.int 267 0,.int 2 0,.int 0 0,.int 0 0,.int 3 0,.ref 534,.bool true,.int 181 0,.ref 535,.none,.none,.none,.ref 536,.int 860 0,.int 267 0,aD "/claim/cut.py" 861]
abbrev Sx:Obj:=fh "_law_given" "_law_given" il "law_framerooms_k15_pictures_and_twins" 793 537
abbrev YO:Obj:=fg "_law_used" "_law_used" jn
abbrev RK:Obj:=zp #[aD "_law_used" 863,aD "_law_used" 864,aD "/claim/cut.py" 865,.int 269 0,.int 1 0,.int 0 0,.int 0 0,.int 3 0,.ref 539,.bool true,.int 181 0,.ref 540,.none,.none,.none,.ref 541,.int 866 0,.int 269 0,aD "/claim/cut.py" 867]
abbrev Th:Obj:=fh "_law_used" "_law_used" jn "law_framerooms_k15_pictures_and_twins" 793 542
abbrev acx:Obj:=fg "_law_make" "_law_make" jf
abbrev TB:Obj:=zp #[aD "_law_make" 869,aD "_law_make" 870,aD "/claim/cut.py" 871,.int 271 0,.int 3 0,.int 0 0,.int 0 0,.int 3 0,.ref 544,.bool true,.int 181 0,.ref 545,.none,.none,.none,.ref 546,.int 872 0,.int 271 0,aD "/claim/cut.py" 873]
abbrev Te:Obj:=fh "_law_make" "_law_make" jf "law_framerooms_k15_pictures_and_twins" 793 547
abbrev SM:Obj:=d_ #[aD "_law_box_here" 878,aD "_law_some" 879,aD "_law_way" 880,aD "_law_at" 881]
abbrev aax:Obj:=fg "_law_one" "_law_one" lr
abbrev Sk:Obj:=jh "_law_one" "_law_one" 875 277 2 549 882
abbrev Tj:Obj:=fh "_law_one" "_law_one" lr "law_framerooms_k15_pictures_and_twins" 793 554
abbrev RD:Obj:=d_ #[aD "_law_box_here" 888,aD "_law_model" 889,aD "_law_way" 890,aD "_law_number" 891]
abbrev abD:Obj:=fg "_law_value" "_law_value" ie
abbrev To:Obj:=jh "_law_value" "_law_value" 885 281 2 556 892
abbrev QG:Obj:=fh "_law_value" "_law_value" ie "law_framerooms_k15_pictures_and_twins" 793 561
abbrev ZI:Obj:=fg "_law_here" "_law_here" jo
abbrev RE:Obj:=zp #[aD "_law_here" 895,aD "_law_here" 896,aD "/claim/cut.py" 897,.int 287 0,.int 1 0,.int 0 0,.int 0 0,.int 3 0,.ref 563,.bool true,.int 181 0,.ref 564,.none,.none,.none,.ref 565,.int 898 0,.int 287 0,aD "/claim/cut.py" 899]
abbrev Tr:Obj:=fh "_law_here" "_law_here" jo "law_framerooms_k15_pictures_and_twins" 793 566
abbrev QU:Obj:=d_ #[aD "_law_box_here" 904,aD "_law_house_here" 905,aD "_law_model" 906,aD "_law_act" 907,aD "_law_frame" 908,aD "_law_size" 909,aD "_law_way" 910,aD "_law_k" 911,aD "_law_value_here" 912]
abbrev Xz:Obj:=fg "_law_deed" "_law_deed" jq
abbrev Sz:Obj:=jh "_law_deed" "_law_deed" 901 289 3 568 913
abbrev Rl:Obj:=fh "_law_deed" "_law_deed" jq "law_framerooms_k15_pictures_and_twins" 793 573
abbrev acF:Obj:=fg "_law_picture" "_law_picture" fG
abbrev RV:Obj:=zp #[aD "_law_picture" 916,aD "_law_picture" 917,aD "/claim/cut.py" 918,.int 309 0,.int 1 0,.int 0 0,.int 0 0,.int 3 0,.ref 575,.bool true,.int 181 0,.ref 576,.none,.none,.none,.ref 577,.int 919 0,.int 309 0,aD "/claim/cut.py" 920]
abbrev QH:Obj:=fh "_law_picture" "_law_picture" fG "law_framerooms_k15_pictures_and_twins" 793 578
abbrev aba:Obj:=fg "_law_copy" "_law_copy" jr
abbrev Tf:Obj:=zp #[aD "_law_copy" 922,aD "_law_copy" 923,aD "/claim/cut.py" 924,.int 315 0,.int 1 0,.int 0 0,.int 0 0,.int 3 0,.ref 580,.bool true,.int 181 0,.ref 581,.none,.none,.none,.ref 582,.int 925 0,.int 315 0,aD "/claim/cut.py" 926]
abbrev Q5:Obj:=fh "_law_copy" "_law_copy" jr "law_framerooms_k15_pictures_and_twins" 793 583
abbrev Rx:Obj:=d_ #[aD "_law_house_here" 931,aD "_law_way" 932,aD "_law_found" 933,aD "e" 934]
abbrev ZE:Obj:=fg "_law_by" "_law_by" mN
abbrev Tu:Obj:=jh "_law_by" "_law_by" 928 321 2 585 935
abbrev TF:Obj:=fh "_law_by" "_law_by" mN "law_framerooms_k15_pictures_and_twins" 793 590
abbrev RF:Obj:=d_ #[aD "_law_house_here" 941,aD "_law_rooms" 942,aD "_law_way" 943,aD "_law_found" 944,aD "e" 945,aD "_law_room" 946]
abbrev YT:Obj:=fg "_law_caught" "_law_caught" gp
abbrev Tt:Obj:=jh "_law_caught" "_law_caught" 938 328 3 592 947
abbrev Sq:Obj:=fh "_law_caught" "_law_caught" gp "law_framerooms_k15_pictures_and_twins" 793 597
abbrev X9:Obj:=fg "_law_apart" "_law_apart" ik
abbrev QS:Obj:=zp #[aD "_law_apart" 950,aD "_law_apart" 951,aD "/claim/cut.py" 952,.int 340 0,.int 3 0,.int 0 0,.int 0 0,.int 3 0,.ref 599,.bool true,.int 181 0,.ref 600,.none,.none,.none,.ref 601,.int 953 0,.int 340 0,aD "/claim/cut.py" 954]
abbrev S9:Obj:=fh "_law_apart" "_law_apart" ik "law_framerooms_k15_pictures_and_twins" 793 602
abbrev Rp:Obj:=d_ #[aD "_law_house_here" 959,aD "_law_way" 960,aD "_law_k" 961,aD "_law_found" 962,aD "e" 963]
abbrev XS:Obj:=fg "_law_no_cell" "_law_no_cell" fj
abbrev RS:Obj:=jh "_law_no_cell" "_law_no_cell" 956 348 3 604 964
abbrev SR:Obj:=fh "_law_no_cell" "_law_no_cell" fj "law_framerooms_k15_pictures_and_twins" 793 609
abbrev TJ:Obj:=d_ #[aD "_law_house_here" 970,aD "_law_model" 971,aD "_law_k" 972,aD "_law_way" 973,aD "_law_cells" 974]
abbrev XR:Obj:=fg "_law_rooms_right" "_law_rooms_right" df
abbrev Ra:Obj:=jh "_law_rooms_right" "_law_rooms_right" 967 355 2 611 975
abbrev S7:Obj:=fh "_law_rooms_right" "_law_rooms_right" df "law_framerooms_k15_pictures_and_twins" 793 616
abbrev Yn:Obj:=fg "_law_right" "_law_right" h_
abbrev Sh:Obj:=zp #[aD "_law_right" 978,aD "_law_right" 979,aD "/claim/cut.py" 980,.int 366 0,.int 2 0,.int 0 0,.int 0 0,.int 3 0,.ref 618,.bool true,.int 181 0,.ref 619,.none,.none,.none,.ref 620,.int 981 0,.int 366 0,aD "/claim/cut.py" 982]
abbrev QQ:Obj:=fh "_law_right" "_law_right" h_ "law_framerooms_k15_pictures_and_twins" 793 621
abbrev aaq:Obj:=fg "law" "law" Dn
abbrev TR:Obj:=zp #[aD "law" 984,aD "law" 985,aD "/claim/cut.py" 986,.int 383 0,.int 1 0,.int 0 0,.int 0 0,.int 3 0,.ref 623,.bool true,.int 181 0,.ref 624,.none,.none,.none,.ref 625,.int 987 0,.int 383 0,aD "/claim/cut.py" 988]
abbrev SI:Obj:=fh "law" "law" Dn "law_framerooms_k15_pictures_and_twins" 793 626
def qL:Heap:=⟨⟨[boot_o_0 P,boot_o_1 P,boot_o_2 P,boot_o_3 P,boot_o_4 P,boot_o_5 P,boot_o_6 P,boot_o_7 P,boot_o_8 P,boot_o_9 P,boot_o_10 P,ao,aW,Qg,N0]⟩,{}⟩
def xa:Heap:=⟨⟨[boot_o_0 P,boot_o_1 P,boot_o_2 P,hd3 P,boot_o_4 P,boot_o_5 P,boot_o_6 P,boot_o_7 P,boot_o_8 P,boot_o_9 P,boot_o_10 P,ao,ZJ,Qg,N0,Ov,gf,Vm P,ao,V2,V5,V9,ao,aW,Qn,ao,Vq,Of,OG,ao,OK P,aj8,NW,Vz,U3,fA,gf,VE P,ao,Uz,UO,Uy,ao,aW,PL,ao,UK,OT,Oh,PX,OE P,N5,Uw,UT,fA,gf,VC P,ao,V0,UB,Wn,ao,aW,OC,ao,VZ,Ou,OI,Oo,Pp P,PK,Wk,U_,fA,gf,VG P,ao,U0,UW,Ui,ao,aW,Pg,ao,UJ,OP,PM,N6,PV P,OL,Wm,Vw,fA,gf,Wo P,ao,WI,Wu,Vu,ao,aW,Fy,ao,JV,Gs,FV,Gu,FG P,GC,K0,IJ,fA,gf,MR P,ao,KI,JK,L_,ao,aW,Gd,ao,Kn,FI,FZ,ao,Fo P,FJ,Nr,Ks,fA,gf,J_ P,ao,Ml,L5,Kk,ao,aW,Fv,ao,KZ,GA,GJ,F_,FE P,Fq,MZ,Lq,fA,gf,Kx P,ao,Jm,Mo,LH,ao,aW,FC,ao,Ky,Gg,Fu,Fh,FX P,FF,K9,J7,fA,gf,Kr P,ao,Ng,LN,MF,ao,aW,Gn,ao,LV,GB,FR,FA,Gf P,GD,Kj,Nq]⟩,{}⟩
def uB:Heap:=⟨⟨[boot_o_0 P,boot_o_1 P,boot_o_2 P,apL P,boot_o_4 P,boot_o_5 P,boot_o_6 P,boot_o_7 P,boot_o_8 P,boot_o_9 P,boot_o_10 P,ao,Vi,Qg,N0,Ov,gf,Vm P,ao,V2,V5,V9,ao,aW,Qn,ao,Vq,Of,OG,ao,OK P,MC,NW,Vz,U3,fA,gf,VE P,ao,Uz,UO,Uy,ao,aW,PL,ao,UK,OT,Oh,PX,OE P,N5,Uw,UT,fA,gf,VC P,ao,V0,UB,Wn,ao,aW,OC,ao,VZ,Ou,OI,Oo,Pp P,PK,Wk,U_,fA,gf,VG P,ao,U0,UW,Ui,ao,aW,Pg,ao,UJ,OP,PM,N6,PV P,OL,Wm,Vw,fA,gf,Wo P,ao,WI,Wu,Vu,ao,aW,Fy,ao,JV,Gs,FV,Gu,FG P,GC,K0,IJ,fA,gf,MR P,ao,KI,JK,L_,ao,aW,Gd,ao,Kn,FI,FZ,ao,Fo P,FJ,Nr,Ks,fA,gf,J_ P,ao,Ml,L5,Kk,ao,aW,Fv,ao,KZ,GA,GJ,F_,FE P,Fq,MZ,Lq,fA,gf,Kx P,ao,Jm,Mo,LH,ao,aW,FC,ao,Ky,Gg,Fu,Fh,FX P,FF,K9,J7,fA,gf,Kr P,ao,Ng,LN,MF,ao,aW,Gn,ao,LV,GB,FR,FA,Gf P,GD,Kj,Nq,fA,gf,Rv P,ao,SK,QC,RJ,ao,aW,Ji,ao,RH,Kl,IM,JU,L8 P,LS,Ub,QI,ao,aW,Mq,ao,R8,IQ,Jn,ao,aW,JO,ao,Tp,Na,IZ,ao,aW,Jr,ao,Ss,Lm,J6,ao,aW,JQ,ao,SG,LR,MK,ao,gf,SQ P,ao,QM,Ro,TX,ao,aW,KY,ao,Sv,Nh,Me,ao,aW,Ki,ao,Sd,JS,MD,ao,aW,MM,ao,RW,Jo,Lb,ao,aW,RT,Kh,Ld,ao,aW,Nj,ao,Sr,Km,ME,ao,aW,Lf,ao,Su,Ko,Ke,ao,aW,RY,Lo,Mi,ao,aW,KQ,ao,Q9,KP,Jq,ao,aW,LA,ao,Q_,Kf,Ln,ao,aW,Rn,KR,LF,ao,aW,K4,ao,Sj,Je,Nu,ao,aW,IW,ao,S2,KA,KJ,ao,aW,Lc,ao,S5,LP,JJ,ao,aW,IY,ao,SV,Jb,KH,ao,aW,L4,ao,RP,MP,Mc,ao,aW,Nk,ao,Sb,JX,Mm,Ly,Nm P,ZC,IK,LC,Qz,Qy]⟩,{}⟩
def cB:Heap:=⟨⟨[boot_o_0 P,boot_o_1 P,boot_o_2 P,R7 P,boot_o_4 P,boot_o_5 P,boot_o_6 P,boot_o_7 P,boot_o_8 P,boot_o_9 P,boot_o_10 P,ao,O3,Qg,N0,Ov,gf,Vm P,ao,V2,V5,V9,ao,aW,Qn,ao,Vq,Of,OG,ao,OK P,MC,NW,Vz,U3,fA,gf,VE P,ao,Uz,UO,Uy,ao,aW,PL,ao,UK,OT,Oh,PX,OE P,N5,Uw,UT,fA,gf,VC P,ao,V0,UB,Wn,ao,aW,OC,ao,VZ,Ou,OI,Oo,Pp P,PK,Wk,U_,fA,gf,VG P,ao,U0,UW,Ui,ao,aW,Pg,ao,UJ,OP,PM,N6,PV P,OL,Wm,Vw,fA,gf,Wo P,ao,WI,Wu,Vu,ao,aW,Fy,ao,JV,Gs,FV,Gu,FG P,GC,K0,IJ,fA,gf,MR P,ao,KI,JK,L_,ao,aW,Gd,ao,Kn,FI,FZ,ao,Fo P,FJ,Nr,Ks,fA,gf,J_ P,ao,Ml,L5,Kk,ao,aW,Fv,ao,KZ,GA,GJ,F_,FE P,Fq,MZ,Lq,fA,gf,Kx P,ao,Jm,Mo,LH,ao,aW,FC,ao,Ky,Gg,Fu,Fh,FX P,FF,K9,J7,fA,gf,Kr P,ao,Ng,LN,MF,ao,aW,Gn,ao,LV,GB,FR,FA,Gf P,GD,Kj,Nq,fA,gf,Rv P,ao,SK,QC,RJ,ao,aW,Ji,ao,RH,Kl,IM,JU,L8 P,LS,Ub,QI,ao,aW,Mq,ao,R8,IQ,Jn,ao,aW,JO,ao,Tp,Na,IZ,ao,aW,Jr,ao,Ss,Lm,J6,ao,aW,JQ,ao,SG,LR,MK,ao,gf,SQ P,ao,QM,Ro,TX,ao,aW,KY,ao,Sv,Nh,Me,ao,aW,Ki,ao,Sd,JS,MD,ao,aW,MM,ao,RW,Jo,Lb,ao,aW,RT,Kh,Ld,ao,aW,Nj,ao,Sr,Km,ME,ao,aW,Lf,ao,Su,Ko,Ke,ao,aW,RY,Lo,Mi,ao,aW,KQ,ao,Q9,KP,Jq,ao,aW,LA,ao,Q_,Kf,Ln,ao,aW,Rn,KR,LF,ao,aW,K4,ao,Sj,Je,Nu,ao,aW,IW,ao,S2,KA,KJ,ao,aW,Lc,ao,S5,LP,JJ,ao,aW,IY,ao,SV,Jb,KH,ao,aW,L4,ao,RP,MP,Mc,ao,aW,Nk,ao,Sb,JX,Mm,Ly,Nm P,J1,IK,LC,Qz,Qy,TV,gf,aaD P,ao,aam,abX,YL,ao,aW,Rt,ao,ab3,Sf,Q3,ao,aW,Rf,ao,abV,QE,S4,ao,aW,S0,ao,Y1,Ta,TH,ao,aW,QW,ao,abT,Tg,RM,ao,aW,SH,ao,ZX,TZ,Rk,ao,aW,SA,ao,aaI,Ry,Q8,ao,aW,abe,So,Q0,ao,aW,TN,ao,Yk,TK,SW,ao,aW,TY,ao,acM,R3,Tz,ao,aW,QO,ao,acq,Tb,Rj,ao,aW,abE,QB,S_,ao,aW,YV,QF,RQ,ao,aW,YY,QD,S1,ao,aW,acv,Tv,Tx,ao,aW,Si,ao,ab8,T7,Uc,ao,aW,Qw,ao,Y2,Rg,RX,ao,aW,QV,ao,abi,RN,RA,Se,Sl P,Qv,Zo,Zh,ao,aW,TQ,ao,aar,Sy,Ud,ao,aW,T6,ao,aa2,RL,Sw,ao,aW,T8,ao,Yt,Ts,Rw,ao,aW,Td,ao,abq,RG,Rh,ao,aW,QY,ao,YQ,Sm,R4,ao,aW,aa8,T4,SN,ao,aW,T5,ao,Xw,R6,R5,ao,aW,R1,ao,YA,Q2,Qx,ao,aW,abm,S3,Rq,ao,aW,acy,SX,Sx,ao,aW,YO,RK,Th,ao,aW,acx,TB,Te,ao,aW,SM,ao,aax,Sk,Tj,ao,aW,RD,ao,abD,To,QG,ao,aW,ZI,RE,Tr,ao,aW,QU,ao,Xz,Sz,Rl,ao,aW,acF,RV,QH,ao,aW,aba,Tf,Q5,ao,aW,Rx,ao,ZE,Tu,TF,ao,aW,RF,ao,YT,Tt,Sq,ao,aW,X9,QS,S9,ao,aW,Rp,ao,XS,RS,SR,ao,aW,TJ,ao,XR,Ra,S7,ao,aW,Yn,Sh,QQ,ao,aW,aaq,TR,SI]⟩,{}⟩
end
noncomputable abbrev n_:Program:=PySem.Challenge.rw_framerooms_k15_pictures_and_twins.row.prog
noncomputable def sY:Env:={scope:=n_.main.scope,locals:=mainNs,globals:=mainNs,cells:=[],code:=Value.ref 13,frame:=some 14}
noncomputable def Am:List Stmt:=behindTheImports n_
noncomputable def Ct:Code:=Code.body Am sY
def mY:aH:=some (Value.ref 6)
abbrev Lv:Pos:={line:=0,col:=0,endLine:=0,endCol:=0}
theorem M_(w:World)(os:OsState):topGo treeTable n_ w 11 mY 12 ⟨boot_heap w.params,⟨[]⟩,boot_drawn,boot_toks,os⟩ (topStub n_)=some (⟨qL w.params,⟨[]⟩,{},187,os⟩,⟨denote treeTable Ct,Ct,{line:=0,col:=0,endLine:=0,endCol:=0},[topFrame Lv]⟩):=by kernel_rfl
theorem Eh(w:World)(os:OsState):segRun treeTable n_ w 11 mY 1 1 ⟨qL w.params,⟨[]⟩,{},187,os⟩ (blockOf Am sY Ct {line:=0,col:=0,endLine:=0,endCol:=0} [topFrame Lv])=some (.next,⟨qL w.params,⟨[]⟩,{},187,os⟩,Ct,{line:=0,col:=0,endLine:=0,endCol:=0}):=by kernel_rfl
theorem Vl(w:World)(os:OsState):segRun treeTable n_ w 11 mY 1 2189 ⟨qL w.params,⟨[]⟩,{},187,os⟩ (piecesOf ((Am.drop 0).take 10) sY Ct {line:=0,col:=0,endLine:=0,endCol:=0} [topFrame Lv])=some (.next,⟨xa w.params,⟨[]⟩,{},417,os⟩,Ct,{line:=42,col:=0,endLine:=46,endCol:=26}):=by kernel_rfl
theorem Qc(w:World)(os:OsState):segRun treeTable n_ w 11 mY 1 1120 ⟨xa w.params,⟨[]⟩,{},417,os⟩ (piecesOf ((Am.drop 10).take 13) sY Ct {line:=42,col:=0,endLine:=46,endCol:=26} [topFrame Lv])=some (.next,⟨uB w.params,⟨[]⟩,{},632,os⟩,Ct,{line:=141,col:=0,endLine:=141,endCol:=18}):=by kernel_rfl
theorem P6(w:World)(os:OsState):segRun treeTable n_ w 11 mY 1 1488 ⟨uB w.params,⟨[]⟩,{},632,os⟩ (piecesOf ((Am.drop 23).take 27) sY Ct {line:=141,col:=0,endLine:=141,endCol:=18} [topFrame Lv])=some (.next,⟨cB w.params,⟨[]⟩,{},990,os⟩,Ct,{line:=383,col:=0,endLine:=407,endCol:=108}):=by kernel_rfl
theorem Mf(w:World)(os:OsState):topRun treeTable n_ w 11 mY 2 ⟨cB w.params,⟨[]⟩,{},990,os⟩ ⟨doneF .next,Ct,{line:=383,col:=0,endLine:=407,endCol:=108},[topFrame Lv]⟩=some ⟨cB w.params,⟨[]⟩,{},990,os⟩:=by kernel_rfl
theorem YW(w:World)(os:OsState):topRun treeTable n_ w 11 mY 2 ⟨cB w.params,⟨[]⟩,{},990,os⟩ (restOf [] sY Ct {line:=383,col:=0,endLine:=407,endCol:=108} [topFrame Lv])=some ⟨cB w.params,⟨[]⟩,{},990,os⟩:=piece_nil (Mf w os)
theorem acf:Am.drop 50=[]:=by kernel_rfl
theorem Hw:((Am.drop 23).take 27)++([])=Am.drop 23:=by rw[←acf];have:=List.take_append_drop 27 (Am.drop 23);rwa[List.drop_drop] at this
theorem Mx(w:World)(os:OsState):topRun treeTable n_ w 11 mY (1488+2) ⟨uB w.params,⟨[]⟩,{},632,os⟩ (restOf (Am.drop 23) sY Ct {line:=141,col:=0,endLine:=141,endCol:=18} [topFrame Lv])=some ⟨cB w.params,⟨[]⟩,{},990,os⟩:=by rw[←Hw];exact piece_app (P6 w os) (YW w os)
theorem GW:((Am.drop 10).take 13)++(Am.drop 23)=Am.drop 10:=by have:=List.take_append_drop 13 (Am.drop 10);rwa[List.drop_drop] at this
theorem I_(w:World)(os:OsState):topRun treeTable n_ w 11 mY (1120+(1488+2)) ⟨xa w.params,⟨[]⟩,{},417,os⟩ (restOf (Am.drop 10) sY Ct {line:=42,col:=0,endLine:=46,endCol:=26} [topFrame Lv])=some ⟨cB w.params,⟨[]⟩,{},990,os⟩:=by rw[←GW];exact piece_app (Qc w os) (Mx w os)
theorem Ju:((Am.drop 0).take 10)++(Am.drop 10)=Am.drop 0:=by have:=List.take_append_drop 10 (Am.drop 0);rwa[List.drop_drop] at this
theorem OR(w:World)(os:OsState):topRun treeTable n_ w 11 mY (2189+(1120+(1488+2))) ⟨qL w.params,⟨[]⟩,{},187,os⟩ (restOf (Am.drop 0) sY Ct {line:=0,col:=0,endLine:=0,endCol:=0} [topFrame Lv])=some ⟨cB w.params,⟨[]⟩,{},990,os⟩:=by rw[←Ju];exact piece_app (Vl w os) (I_ w os)
theorem WC(w:World)(os:OsState):topRun treeTable n_ w 11 mY (1+(2189+(1120+(1488+2)))) ⟨qL w.params,⟨[]⟩,{},187,os⟩ ⟨denote treeTable Ct,Ct,{line:=0,col:=0,endLine:=0,endCol:=0},[topFrame Lv]⟩=some ⟨cB w.params,⟨[]⟩,{},990,os⟩:=piece_block (Eh w os) (OR w os)
theorem ab7(w:World)(os:OsState):topRun treeTable n_ w 11 mY (12+(1+(2189+(1120+(1488+2))))) ⟨boot_heap w.params,⟨[]⟩,boot_drawn,boot_toks,os⟩ (topStub n_)=some ⟨cB w.params,⟨[]⟩,{},990,os⟩:=go_top (M_ w os) (WC w os)
end hd
noncomputable def EF:PySem.Params→Frag:=fun P=>(nat_lit 2,PySem.W.boot_o_2 P)::(nat_lit 3,R7 P)::(nat_lit 15,Ov)::(nat_lit 22,ao)::(nat_lit 24,Qn)::(nat_lit 25,ao)::(nat_lit 27,Of)::(nat_lit 28,OG)::(nat_lit 29,ao)::(nat_lit 30,OK P)::(nat_lit 31,MC)::(nat_lit 32,NW)::(nat_lit 35,fA)::(nat_lit 42,ao)::(nat_lit 44,PL)::(nat_lit 45,ao)::(nat_lit 47,OT)::(nat_lit 48,Oh)::(nat_lit 49,PX)::(nat_lit 50,OE P)::(nat_lit 51,N5)::(nat_lit 54,fA)::(nat_lit 61,ao)::(nat_lit 63,OC)::(nat_lit 64,ao)::(nat_lit 66,Ou)::(nat_lit 67,OI)::(nat_lit 68,Oo)::(nat_lit 69,Pp P)::(nat_lit 70,PK)::(nat_lit 73,fA)::(nat_lit 80,ao)::(nat_lit 82,Pg)::(nat_lit 83,ao)::(nat_lit 85,OP)::(nat_lit 86,PM)::(nat_lit 87,N6)::(nat_lit 88,PV P)::(nat_lit 89,OL)::(nat_lit 92,fA)::(nat_lit 99,ao)::(nat_lit 101,Fy)::(nat_lit 102,ao)::(nat_lit 104,Gs)::(nat_lit 105,FV)::(nat_lit 106,Gu)::(nat_lit 107,FG P)::(nat_lit 108,GC)::(nat_lit 111,fA)::(nat_lit 118,ao)::(nat_lit 120,Gd)::(nat_lit 121,ao)::(nat_lit 123,FI)::(nat_lit 124,FZ)::(nat_lit 125,ao)::(nat_lit 126,Fo P)::(nat_lit 127,FJ)::(nat_lit 130,fA)::(nat_lit 137,ao)::(nat_lit 139,Fv)::(nat_lit 140,ao)::(nat_lit 142,GA)::(nat_lit 143,GJ)::(nat_lit 144,F_)::(nat_lit 145,FE P)::(nat_lit 146,Fq)::(nat_lit 149,fA)::(nat_lit 156,ao)::(nat_lit 158,FC)::(nat_lit 159,ao)::(nat_lit 161,Gg)::(nat_lit 162,Fu)::(nat_lit 163,Fh)::(nat_lit 164,FX P)::(nat_lit 165,FF)::(nat_lit 168,fA)::(nat_lit 175,ao)::(nat_lit 177,Gn)::(nat_lit 178,ao)::(nat_lit 180,GB)::(nat_lit 181,FR)::(nat_lit 182,FA)::(nat_lit 183,Gf P)::(nat_lit 184,GD)::(nat_lit 187,fA)::(nat_lit 194,ao)::(nat_lit 196,Ji)::(nat_lit 197,ao)::(nat_lit 199,Kl)::(nat_lit 200,IM)::(nat_lit 201,JU)::(nat_lit 202,L8 P)::(nat_lit 203,LS)::(nat_lit 206,ao)::(nat_lit 208,Mq)::(nat_lit 209,ao)::(nat_lit 211,IQ)::(nat_lit 212,Jn)::(nat_lit 213,ao)::(nat_lit 215,JO)::(nat_lit 216,ao)::(nat_lit 218,Na)::(nat_lit 219,IZ)::(nat_lit 220,ao)::(nat_lit 222,Jr)::(nat_lit 223,ao)::(nat_lit 225,Lm)::(nat_lit 226,J6)::(nat_lit 227,ao)::(nat_lit 229,JQ)::(nat_lit 230,ao)::(nat_lit 232,LR)::(nat_lit 233,MK)::(nat_lit 241,ao)::(nat_lit 243,KY)::(nat_lit 244,ao)::(nat_lit 246,Nh)::(nat_lit 247,Me)::(nat_lit 248,ao)::(nat_lit 250,Ki)::(nat_lit 251,ao)::(nat_lit 253,JS)::(nat_lit 254,MD)::(nat_lit 255,ao)::(nat_lit 257,MM)::(nat_lit 258,ao)::(nat_lit 260,Jo)::(nat_lit 261,Lb)::(nat_lit 262,ao)::(nat_lit 265,Kh)::(nat_lit 266,Ld)::(nat_lit 267,ao)::(nat_lit 269,Nj)::(nat_lit 270,ao)::(nat_lit 272,Km)::(nat_lit 273,ME)::(nat_lit 274,ao)::(nat_lit 276,Lf)::(nat_lit 277,ao)::(nat_lit 279,Ko)::(nat_lit 280,Ke)::(nat_lit 281,ao)::(nat_lit 284,Lo)::(nat_lit 285,Mi)::(nat_lit 286,ao)::(nat_lit 288,KQ)::(nat_lit 289,ao)::(nat_lit 291,KP)::(nat_lit 292,Jq)::(nat_lit 293,ao)::(nat_lit 295,LA)::(nat_lit 296,ao)::(nat_lit 298,Kf)::(nat_lit 299,Ln)::(nat_lit 300,ao)::(nat_lit 303,KR)::(nat_lit 304,LF)::(nat_lit 305,ao)::(nat_lit 307,K4)::(nat_lit 308,ao)::(nat_lit 310,Je)::(nat_lit 311,Nu)::(nat_lit 312,ao)::(nat_lit 314,IW)::(nat_lit 315,ao)::(nat_lit 317,KA)::(nat_lit 318,KJ)::(nat_lit 319,ao)::(nat_lit 321,Lc)::(nat_lit 322,ao)::(nat_lit 324,LP)::(nat_lit 325,JJ)::(nat_lit 326,ao)::(nat_lit 328,IY)::(nat_lit 329,ao)::(nat_lit 331,Jb)::(nat_lit 332,KH)::(nat_lit 333,ao)::(nat_lit 335,L4)::(nat_lit 336,ao)::(nat_lit 338,MP)::(nat_lit 339,Mc)::(nat_lit 340,ao)::(nat_lit 342,Nk)::(nat_lit 343,ao)::(nat_lit 345,JX)::(nat_lit 346,Mm)::(nat_lit 347,Ly)::(nat_lit 348,Nm P)::(nat_lit 349,J1)::(nat_lit 350,IK)::(nat_lit 351,LC)::(nat_lit 354,TV)::(nat_lit 361,ao)::(nat_lit 363,Rt)::(nat_lit 364,ao)::(nat_lit 366,Sf)::(nat_lit 367,Q3)::(nat_lit 368,ao)::(nat_lit 370,Rf)::(nat_lit 371,ao)::(nat_lit 373,QE)::(nat_lit 374,S4)::(nat_lit 375,ao)::(nat_lit 377,S0)::(nat_lit 378,ao)::(nat_lit 380,Ta)::(nat_lit 381,TH)::(nat_lit 382,ao)::(nat_lit 384,QW)::(nat_lit 385,ao)::(nat_lit 387,Tg)::(nat_lit 388,RM)::(nat_lit 389,ao)::(nat_lit 391,SH)::(nat_lit 392,ao)::(nat_lit 394,TZ)::(nat_lit 395,Rk)::(nat_lit 396,ao)::(nat_lit 398,SA)::(nat_lit 399,ao)::(nat_lit 401,Ry)::(nat_lit 402,Q8)::(nat_lit 403,ao)::(nat_lit 406,So)::(nat_lit 407,Q0)::(nat_lit 408,ao)::(nat_lit 410,TN)::(nat_lit 411,ao)::(nat_lit 413,TK)::(nat_lit 414,SW)::(nat_lit 415,ao)::(nat_lit 417,TY)::(nat_lit 418,ao)::(nat_lit 420,R3)::(nat_lit 421,Tz)::(nat_lit 422,ao)::(nat_lit 424,QO)::(nat_lit 425,ao)::(nat_lit 427,Tb)::(nat_lit 428,Rj)::(nat_lit 429,ao)::(nat_lit 432,QB)::(nat_lit 433,S_)::(nat_lit 434,ao)::(nat_lit 437,QF)::(nat_lit 438,RQ)::(nat_lit 439,ao)::(nat_lit 442,QD)::(nat_lit 443,S1)::(nat_lit 444,ao)::(nat_lit 447,Tv)::(nat_lit 448,Tx)::(nat_lit 449,ao)::(nat_lit 451,Si)::(nat_lit 452,ao)::(nat_lit 454,T7)::(nat_lit 455,Uc)::(nat_lit 456,ao)::(nat_lit 458,Qw)::(nat_lit 459,ao)::(nat_lit 461,Rg)::(nat_lit 462,RX)::(nat_lit 463,ao)::(nat_lit 465,QV)::(nat_lit 466,ao)::(nat_lit 468,RN)::(nat_lit 469,RA)::(nat_lit 470,Se)::(nat_lit 471,Sl P)::(nat_lit 472,Qv)::(nat_lit 475,ao)::(nat_lit 477,TQ)::(nat_lit 478,ao)::(nat_lit 480,Sy)::(nat_lit 481,Ud)::(nat_lit 482,ao)::(nat_lit 484,T6)::(nat_lit 485,ao)::(nat_lit 487,RL)::(nat_lit 488,Sw)::(nat_lit 489,ao)::(nat_lit 491,T8)::(nat_lit 492,ao)::(nat_lit 494,Ts)::(nat_lit 495,Rw)::(nat_lit 496,ao)::(nat_lit 498,Td)::(nat_lit 499,ao)::(nat_lit 501,RG)::(nat_lit 502,Rh)::(nat_lit 503,ao)::(nat_lit 505,QY)::(nat_lit 506,ao)::(nat_lit 508,Sm)::(nat_lit 509,R4)::(nat_lit 510,ao)::(nat_lit 513,T4)::(nat_lit 514,SN)::(nat_lit 515,ao)::(nat_lit 517,T5)::(nat_lit 518,ao)::(nat_lit 520,R6)::(nat_lit 521,R5)::(nat_lit 522,ao)::(nat_lit 524,R1)::(nat_lit 525,ao)::(nat_lit 527,Q2)::(nat_lit 528,Qx)::(nat_lit 529,ao)::(nat_lit 532,S3)::(nat_lit 533,Rq)::(nat_lit 534,ao)::(nat_lit 537,SX)::(nat_lit 538,Sx)::(nat_lit 539,ao)::(nat_lit 542,RK)::(nat_lit 543,Th)::(nat_lit 544,ao)::(nat_lit 547,TB)::(nat_lit 548,Te)::(nat_lit 549,ao)::(nat_lit 551,SM)::(nat_lit 552,ao)::(nat_lit 554,Sk)::(nat_lit 555,Tj)::(nat_lit 556,ao)::(nat_lit 558,RD)::(nat_lit 559,ao)::(nat_lit 561,To)::(nat_lit 562,QG)::(nat_lit 563,ao)::(nat_lit 566,RE)::(nat_lit 567,Tr)::(nat_lit 568,ao)::(nat_lit 570,QU)::(nat_lit 571,ao)::(nat_lit 573,Sz)::(nat_lit 574,Rl)::(nat_lit 575,ao)::(nat_lit 578,RV)::(nat_lit 579,QH)::(nat_lit 580,ao)::(nat_lit 583,Tf)::(nat_lit 584,Q5)::(nat_lit 585,ao)::(nat_lit 587,Rx)::(nat_lit 588,ao)::(nat_lit 590,Tu)::(nat_lit 591,TF)::(nat_lit 592,ao)::(nat_lit 594,RF)::(nat_lit 595,ao)::(nat_lit 597,Tt)::(nat_lit 598,Sq)::(nat_lit 599,ao)::(nat_lit 602,QS)::(nat_lit 603,S9)::(nat_lit 604,ao)::(nat_lit 606,Rp)::(nat_lit 607,ao)::(nat_lit 609,RS)::(nat_lit 610,SR)::(nat_lit 611,ao)::(nat_lit 613,TJ)::(nat_lit 614,ao)::(nat_lit 616,Ra)::(nat_lit 617,S7)::(nat_lit 618,ao)::(nat_lit 621,Sh)::(nat_lit 622,QQ)::(nat_lit 623,ao)::(nat_lit 626,TR)::(nat_lit 627,SI)::[]
def Wg:aY:=[2,3,15,22,24,25,27,28,29,30,31,32,35,42,44,45,47,48,49,50,51,54,61,63,64,66,67,68,69,70,73,80,82,83,85,86,87,88,89,92,99,101,102,104,105,106,107,108,111,118,120,121,123,124,125,126,127,130,137,139,140,142,143,144,145,146,149,156,158,159,161,162,163,164,165,168,175,177,178,180,181,182,183,184,187,194,196,197,199,200,201,202,203,206,208,209,211,212,213,215,216,218,219,220,222,223,225,226,227,229,230,232,233,241,243,244,246,247,248,250,251,253,254,255,257,258,260,261,262,265,266,267,269,270,272,273,274,276,277,279,280,281,284,285,286,288,289,291,292,293,295,296,298,299,300,303,304,305,307,308,310,311,312,314,315,317,318,319,321,322,324,325,326,328,329,331,332,333,335,336,338,339,340,342,343,345,346,347,348,349,350,351,354,361,363,364,366,367,368,370,371,373,374,375,377,378,380,381,382,384,385,387,388,389,391,392,394,395,396,398,399,401,402,403,406,407,408,410,411,413,414,415,417,418,420,421,422,424,425,427,428,429,432,433,434,437,438,439,442,443,444,447,448,449,451,452,454,455,456,458,459,461,462,463,465,466,468,469,470,471,472,475,477,478,480,481,482,484,485,487,488,489,491,492,494,495,496,498,499,501,502,503,505,506,508,509,510,513,514,515,517,518,520,521,522,524,525,527,528,529,532,533,534,537,538,539,542,543,544,547,548,549,551,552,554,555,556,558,559,561,562,563,566,567,568,570,571,573,574,575,578,579,580,583,584,585,587,588,590,591,592,594,595,597,598,599,602,603,604,606,607,609,610,611,613,614,616,617,618,621,622,623,626,627]
theorem FH:∀P,Wg=(EF P).map (·.1):=fun _=>by kernel_rfl
noncomputable def pW:PySem.Program:={PySem.Challenge.pw_framerooms_k15_pictures_and_twins with main:={PySem.Challenge.pw_framerooms_k15_pictures_and_twins.main with body:=[top 1,top 2,top 3,top 4,top 5,top 6,top 7,top 8,top 9,top 10,top 12,top 13,top 14,top 15,top 17,top 18,top 19,top 21,top 22,top 23,top 24,top 26,top 27,top 28,top 29,top 30,top 31,top 32,top 33,top 34,top 35,top 36,top 37,top 38,top 39,top 40,top 41,top 42,top 43,top 44,top 45,top 46,top 47,top 48,top 49]}}
noncomputable abbrev pL:PySem.W.Hook:=PySem.W.kHook EF Wg FH
theorem Pl(w:PySem.World):(fun os:PySem.OsState=>((PySem.W.staticsOk (importedModules n_.main.body) (PySem.W.boot_heap w.params) (cB w.params)&&PySem.W.namesBound n_ (cB w.params)&&PySem.W.gensDone ⟨cB w.params,⟨[]⟩,{},990,os⟩&&PySem.W.laidKept (PySem.W.boot_heap w.params) (cB w.params)),PySem.W.openSeen pW [] (importedModules n_.main.body) (fun s=>PySem.W.xlAt pW [] s&&PySem.W.recOk (PySem.W.RowW.records PySem.Challenge.rw_framerooms_k15_pictures_and_twins.row.toRowW) s) true ⟨cB w.params,⟨[]⟩,{},990,os⟩,pL.obs ⟨cB w.params,⟨[]⟩,{},990,os⟩))=fun _=>(true,PySem.W.openGood pW [],pL.val w):=by kernel_rfl
theorem Ue:PySem.W.LeftO PySem.Challenge.rw_framerooms_k15_pictures_and_twins.row.prog pW [] (fun s=>PySem.W.xlAt pW [] s&&PySem.W.recOk (PySem.W.RowW.records PySem.Challenge.rw_framerooms_k15_pictures_and_twins.row.toRowW) s) pL.obs pL.val 9714:=PySem.W.LeftO.of_pieces (H₀:=PySem.W.boot_heap) (H₁:=cB) (gs₁:=⟨[]⟩) (d₁:={}) (k₁:=990) (m₀:=11) (ann:=mY) (PySem.W.boot_open rfl (by decide) (fun _=>rfl)) (fun _=>by kernel_rfl) ab7 (by decide) Pl
end My
namespace L2
open PySem PySem.Spec PyProof.Rows
abbrev wp:=Sum Int Str
def pV:wp→Value→Bool
 | .inl k,v=>Value.isInt k v
 | .inr x,v=>Value.isStrOf x v
def afK(w:World):wp→Int
 | .inl k=>hashInt k
 | .inr x=>hashStr w x
theorem dn:∀{k:wp} {v:Value},pV k v=true→(∃i t,k=Sum.inl i∧v=Value.int i t)∨(∃x t,k=Sum.inr x∧v=Value.str x t)
 | .inl i,v,h=>by
  obtain⟨t,e⟩:=Value.isInt_shape (k:=i) (v:=v) h;exact .inl ⟨i,t,rfl,e⟩
 | .inr x,v,h=>by
  obtain⟨t,e⟩:=Value.isStrOf_shape (x:=x) (v:=v) h;exact .inr ⟨x,t,rfl,e⟩
theorem Ic(i:Int)(t:Tok):pV (.inl i) (.int i t)=true:=by simp[pV,Value.isInt]
theorem Hg(x:Str)(t:Tok):pV (.inr x) (.str x t)=true:=by simp[pV,Value.isStrOf]
theorem Vo(a b:Int):decide ((Sum.inl a:wp)=Sum.inl b)=(a==b):=by
 by_cases e:a=b
 ·subst e;simp
 ·have h:¬(Sum.inl a:wp)=Sum.inl b:=fun q=>e (Sum.inl.inj q);rw[decide_eq_false h];exact(beq_eq_false_iff_ne.mpr e).symm
theorem Vp(a b:Str):decide ((Sum.inr a:wp)=Sum.inr b)=decide (a=b):=by
 by_cases e:a=b
 ·subst e;simp
 ·have h:¬(Sum.inr a:wp)=Sum.inr b:=fun q=>e (Sum.inr.inj q);rw[decide_eq_false h,decide_eq_false e]
theorem VX(a:Int)(b:Str):decide ((Sum.inl a:wp)=Sum.inr b)=false:=decide_eq_false (fun q=>nomatch q)
theorem UC(a:Str)(b:Int):decide ((Sum.inr a:wp)=Sum.inl b)=false:=decide_eq_false (fun q=>nomatch q)
def bI(prog:Program)(w:World):PySem.KeyKind prog w wp where
 is:=pV
 hash:=afK w
 inj:=fun v a b ha hb=>by
  rcases dn ha with⟨i,t,rfl,rfl⟩|⟨x,t,rfl,rfl⟩
  ·rcases dn hb with⟨j,u,rfl,e⟩|⟨y,u,rfl,e⟩
   ·injection e with e1 _;rw[e1]
   ·exact nomatch e
  ·rcases dn hb with⟨j,u,rfl,e⟩|⟨y,u,rfl,e⟩
   ·exact nomatch e
   ·injection e with e1 _;rw[e1]
 byValue:=fun k v h=>by
  rcases dn h with⟨i,t,rfl,rfl⟩|⟨x,t,rfl,rfl⟩<;>rfl
 pyHash:=fun hv h=>by
  rcases dn hv with⟨i,t,rfl,rfl⟩|⟨x,t,rfl,rfl⟩
  ·exact wpAny_pyHash_int h
  ·exact wpAny_pyHash_str h
 eqBool:=fun hu hv h=>by
  rcases dn hu with⟨i,t,rfl,rfl⟩|⟨x,t,rfl,rfl⟩
  ·rcases dn hv with⟨j,u,rfl,rfl⟩|⟨y,u,rfl,rfl⟩
   ·rw[Vo] at h;exact wpAny_eqBool_int h
   ·rw[VX] at h;exact SeqAt.EqAt.int_str i t y u _ _ _ _ h
  ·rcases dn hv with⟨j,u,rfl,rfl⟩|⟨y,u,rfl,rfl⟩
   ·rw[UC] at h;exact SeqAt.EqAt.str_int x t j u _ _ _ _ h
   ·rw[Vp] at h;exact wpAny_eqBool_str h
 «strs» :=fun k x t v h=>by
  rcases dn h with⟨i,u,rfl,e⟩|⟨y,u,rfl,e⟩
  ·exact nomatch e
  ·injection e with e1 _;subst e1;cases v<;>rfl
theorem CU(prog:Program)(w:World)(i:Int)(t:Tok):(bI prog w).is (.inl i) (.int i t)=true:=Ic i t
theorem C9(prog:Program)(w:World)(x:Str)(t:Tok):(bI prog w).is (.inr x) (.str x t)=true:=Hg x t
inductive V where
 |bH|bl (b:Bool)|int (i:Int)|str (x:Str)|Iq (b:Array UInt8)|WA (b:UInt64)|ref (a:Addr)|ty (n:String)
 deriving DecidableEq
abbrev dJ:=List (List wp×V)
abbrev bJ:=List (wp×V)
abbrev dM:=List (List V)
abbrev az:=List V
abbrev iM:=List (Str×V)
def RelV:V→Value→Prop
 | .bH,u=>u=Value.none
 | .bl b,u=>u=Value.bool b
 | .int i,u=>∃t,u=Value.int i t
 | .str x,u=>∃t,u=Value.str x t
 | .Iq b,u=>∃t,u=Value.bytes b t
 | .WA b,u=>∃t,u=Value.float b t
 | .ref a,u=>u=Value.ref a
 | .ty n,u=>u=Value.type n
abbrev Vals:az→aA→Prop:=Paired RelV
theorem Vals.length{xs:az}{us:aA}(r:Vals xs us):xs.length=us.length:=Paired.length r
theorem Vals.get:∀{xs:az} {us:aA} {i:Nat} {x:V},Vals xs us→xs[i]? =some x→∃u,us[i]? =some u∧RelV x u
 |_,_,_,_,.nil,e=>by simp at e
 |_,_,0,_,.cons r _,e=>by simp at e;subst e;exact⟨_,rfl,r⟩
 |_,_,i+1,x,.cons _ t,e=>by
  obtain⟨u,h1,h2⟩:=Vals.get (i:=i) (x:=x) t (by simpa using e);exact⟨u,by simpa using h1,h2⟩
theorem Vals.set{x:V}{u:Value}(r:RelV x u):∀{xs:az} {us:aA} (i:Nat),Vals xs us→Vals (xs.set i x) (us.set i u)
 |_,_,_,.nil=> .nil
 |_,_,0,.cons _ t=> .cons r t
 |_,_,i+1,.cons q t=> .cons q (Vals.set r i t)
theorem Vals.append:∀{xs ys:az} {us ws:aA},Vals xs us→Vals ys ws→Vals (xs++ys) (us++ws)
 |_,_,_,_,.nil,s=>s
 |_,_,_,_,.cons r t,s=> .cons r (Vals.append t s)
theorem Vals.take:∀{xs:az} {us:aA} (n:Nat),Vals xs us→Vals (xs.take n) (us.take n)
 |_,_,0,_=> .nil
 |_,_,_+1,.nil=> .nil
 |_,_,n+1,.cons r t=> .cons r (Vals.take n t)
theorem Vals.drop:∀{xs:az} {us:aA} (n:Nat),Vals xs us→Vals (xs.drop n) (us.drop n)
 |_,_,0,r=>r
 |_,_,_+1,.nil=> .nil
 |_,_,n+1,.cons _ t=>Vals.drop n t
theorem Vals.none_of:∀{xs:az} {us:aA} {i:Nat},Vals xs us→xs[i]? =none→us[i]? =none:=fun{xs us i} r e=>by
 have h1:=r.length;have h2:xs.length≤i:=List.getElem?_eq_none_iff.mp e;exact List.getElem?_eq_none_iff.mpr (by lia)
def lB:Option V→aH→Prop
 |some v,some u=>RelV v u
 |none,none=>True
 |_,_=>False
def KV{κ:Type}:List (κ×V)→List (κ×Value)→Prop:=Paired fun(p:κ×V) (q:κ×Value)=>p.1=q.1∧RelV p.2 q.2
def kV:wp→V
 | .inl i=> .int i
 | .inr x=> .str x
inductive HO where
 |lst (xs:az)
 |tup (xs:az)
 |dK (kvs:bJ)|dT (kvs:dJ)
 |set (S:Int→Bool) (n:Nat)
 |ins (C dx:Addr) (fs:iM)
 |own (x:Addr)
 |xd (fs:iM)
 |met (f x:Addr)
 |rng (lo hi:Int)
 |gE (o:Obj) (u:HO)
 |Qu (ps:Array Value)
 |ext (φ:Heap→Prop)
abbrev Hp:=Addr→Option HO
def upd(H:Hp)(a:Addr)(o:HO):Hp:=fun b=>if b=a then some o else H b
theorem ae{H:Hp}{a:Addr}{o:HO}:upd H a o a=some o:=by unfold upd;rw[if_pos rfl]
theorem af{H:Hp}{a b:Addr}{o:HO}(h:b≠a):upd H a o b=H b:=by unfold upd;rw[if_neg h]
theorem wc{H:Hp}{a:Addr}{o u:HO}:upd (upd H a o) a u=upd H a u:=by
 funext b;unfold upd;split<;>rfl
theorem aK{H:Hp}{a b:Addr}{o u:HO}(h:H a=some o)(h' :H b=some u)(d:o≠u):a≠b:=by
 intro e;subst e;rw[h] at h';exact d (Option.some.inj h')
theorem ag{H:Hp}{a b:Addr}{o:HO}(h:H a=some o)(h' :H b=none):a≠b:=by
 intro e;subst e;rw[h] at h';cases h'
section
variable(P:Program)(w:World)
def bq(H:Hp)(h:Heap)(a:Addr):HO→Prop
 | .lst xs=>xs.length≤sizeLine∧∃(its:aA) (n:Nat),Vals xs its∧h.get? a=some {cls:= .type "list",data:= .seq its.toArray n}
 | .tup xs=>xs.length≤sizeLine∧∃its:aA,Vals xs its∧IsTup h a its.toArray
 | .dK kvs=>kvs.length≤sizeLine∧(a==sysModules)=false∧∃vs,KV kvs vs∧h.DictOf (bI P w) a vs
 | .dT kvs=>kvs.length≤sizeLine∧(a==sysModules)=false∧∃xs:List (List wp×Addr×Value),
  Paired (fun(p:List wp×V) (q:List wp×Addr×Value)=>p.1=q.1∧H q.2.1=some (.tup (p.1.map kV))∧RelV p.2 q.2.2) kvs xs∧
  ∃o es ep,h.get? a=some o∧o.ExactDict∧o.data= .dict es ep∧es.toList=xs.map (entryOfKey (tupleKind (bI P w)))∧(xs.map (·.1)).Nodup
 | .set S n=>h.SetOf (intKind P w) a S n
 | .ins C dx fs=>H dx=some (.own a)∧fs.length≤1000∧dx≠a∧h.get? a=some (instObj C dx)∧
  ∃mA,h.Ns1 dx mA∧(∀f,lB (fs.lookup f) (mA f))∧PySem.Within mA (fs.map (·.1))
 | .own _=>∃o,h.get? a=some o
 | .xd fs=>∃mA,h.Ns1 a mA∧∀f,lB (fs.lookup f) (mA f)
 | .rng lo hi=>∃t u v,h.get? a=some {cls:= .type "range",data:= .fields #[.int lo t,.int hi u,.int 1 v]}
 | .gE o u=>h.get? a=some o∧bq H h a u
 | .Qu ps=>h.get? a=some {cls:= .none,data:= .fields ps}
 | .met f x=>h.get? a=some (methodObj (.ref f) (.ref x))
 | .ext φ=>φ h∧(∃o,h.get? a=some o)∧∀h1 h2:Heap,φ h1→(∀o,h1.get? a=some o→h2.get? a=some o)→φ h2
def qI(H:Hp)(h:Heap):Prop:=∀a o,H a=some o→bq P w H h a o
end
section
variable{P:Program}{w:World}{H H' :Hp}{h h' :Heap}{a:Addr}{o:HO}
theorem bq.lt(x:bq P w H h a o):a<h.objs.size:=by
 cases o with
 |lst xs=>obtain⟨_,_,_,_,e⟩:=x;exact Heap.lt_size e
 |tup xs=>obtain⟨_,_,_,p⟩:=x;exact p.lt
 |dK kvs=>obtain⟨_,_,_,_,o,_,_,e,_⟩:=x;exact Heap.lt_size e
 |dT kvs=>obtain⟨_,_,_,_,o,_,_,e,_⟩:=x;exact Heap.lt_size e
 |set S n=>obtain⟨o,_,_,_,e,_⟩:=x;exact Heap.lt_size e
 |ins C dx fs=>obtain⟨_,_,_,e,_⟩:=x;exact Heap.lt_size e
 |own y=>obtain⟨_,e⟩:=x;exact Heap.lt_size e
 |xd fs=>obtain⟨_,⟨_,_,_,e,_⟩,_⟩:=x;exact Heap.lt_size e
 |rng lo hi=>obtain⟨_,_,_,e⟩:=x;exact Heap.lt_size e
 |gE ob u=>obtain⟨e,_⟩:=x;exact Heap.lt_size e
 |Qu ps=>exact Heap.lt_size (show h.get? a=some _ from x)
 |met f y=>exact Heap.lt_size (show h.get? a=some _ from x)
 |ext φ=>obtain⟨_,⟨_,e⟩,_⟩:=x;exact Heap.lt_size e
theorem Paired.Us{α β:Type}{F G:α→β→Prop}:∀{CG:List α} {C3:List β},Paired F CG C3→(∀a b,F a b→G a b)→Paired G CG C3
 |_,_,.nil,_=> .nil
 |_,_,.cons r t,f=> .cons (f _ _ r) (Paired.Us t f)
theorem bq.qQ(x:bq P w H h a o)(k:∀b u,(b=a∨H b=some (.own a))→h.get? b=some u→h'.get? b=some u)
 (ho:∀b,H b=some (.own a)→H' b=some (.own a)) (ht:∀b xs,H b=some (.tup xs)→H' b=some (.tup xs)):bq P w H' h' a o:=by
 induction o with
 |lst xs=>obtain⟨z,its,n,r,e⟩:=x;exact⟨z,its,n,r,k _ _ (.inl rfl) e⟩
 |tup xs=>obtain⟨z,its,r,ob,e,c⟩:=x;exact⟨z,its,r,ob,k _ _ (.inl rfl) e,c⟩
 |dK kvs=>obtain⟨z,y,vs,r,ob,es,ep,e,c⟩:=x;exact⟨z,y,vs,r,ob,es,ep,k _ _ (.inl rfl) e,c⟩
 |dT kvs=>
  obtain⟨z,y,xs,r,ob,es,ep,e,c⟩:=x;exact⟨z,y,xs,Paired.Us r fun p q z=>⟨z.1,ht _ _ z.2.1,z.2.2⟩,ob,es,ep,k _ _ (.inl rfl) e,c⟩
 |set S n=>obtain⟨ob,es,ep,t,e,c⟩:=x;exact⟨ob,es,ep,t,k _ _ (.inl rfl) e,c⟩
 |ins C dx fs=>
  obtain⟨d,z,ne,e,mA,⟨od,es,ep,e2,c⟩,r⟩:=x;exact⟨ho _ d,z,ne,k _ _ (.inl rfl) e,mA,⟨od,es,ep,k _ _ (.inr d) e2,c⟩,r⟩
 |own y=>obtain⟨ob,e⟩:=x;exact⟨ob,k _ _ (.inl rfl) e⟩
 |xd fs=>obtain⟨mA,⟨od,es,ep,e,c⟩,r⟩:=x;exact⟨mA,⟨od,es,ep,k _ _ (.inl rfl) e,c⟩,r⟩
 |rng lo hi=>obtain⟨t,u,v,e⟩:=x;exact⟨t,u,v,k _ _ (.inl rfl) e⟩
 |gE ob u ih=>obtain⟨e,q⟩:=x;exact⟨k _ _ (.inl rfl) e,ih q⟩
 |Qu ps=>
  have e:h.get? a=some {cls:= .none,data:= .fields ps}:=x;show h'.get? a=some {cls:= .none,data:= .fields ps};exact k a _ (.inl rfl) e
 |met f y=>
  have e:h.get? a=some (methodObj (.ref f) (.ref y)):=x;show h'.get? a=some (methodObj (.ref f) (.ref y));exact k a _ (.inl rfl) e
 |ext φ=>obtain⟨p,⟨o,e⟩,st⟩:=x;exact⟨st _ _ p fun o q=>k _ _ (.inl rfl) q,⟨o,k _ _ (.inl rfl) e⟩,st⟩
theorem qI.lt(x:qI P w H h)(e:H a=some o):a<h.objs.size:=(x a o e).lt
theorem qI.fresh(x:qI P w H h)(e:h.objs.size≤a):H a=none:=by
 cases q:H a with
 |none=>rfl
 |some u=>exact absurd (Nat.lt_of_lt_of_le (x.lt q) e) (Nat.lt_irrefl _)
theorem qI.kept(x:qI P w H h)(k:∀b u,h.get? b=some u→h'.get? b=some u):qI P w H h' :=fun a o e=>
 (x a o e).qQ (fun b u _ q=>k b u q) (fun _ q=>q) fun _ _ q=>q
theorem qI.laid(x:qI P w H h)(k:∀b u,h.get? b=some u→h'.get? b=some u)(hp:h.objs.size≤a)(new:bq P w (upd H a o) h' a o):qI P w (upd H a o) h' :=fun b u e=>by
 have hn:=x.fresh hp;by_cases hb:b=a
 ·subst hb;rw[ae] at e;cases e;exact new
 ·rw[af hb] at e;exact(x b u e).qQ (fun c v _ q=>k c v q) (fun c q=>by rw[af (ag q hn)];exact q) fun c xs q=>by rw[af (ag q hn)];exact q
end
def Rd(H:Hp)(a:Addr)(u:HO):Prop:=H a=some u∨∃o,H a=some (.gE o u)
theorem Rd.of{H:Hp}{a:Addr}{u:HO}(h:H a=some u):Rd H a u:= .inl h
theorem Rd.ok{P:Program}{w:World}{H:Hp}{h:Heap}{a:Addr}{u:HO}(r:Rd H a u)(x:qI P w H h):bq P w H h a u:=by
 rcases r with r|⟨o,r⟩
 ·exact x a u r
 ·obtain⟨_,q⟩:=x a _ r;exact q
def YN:Option HO→Prop
 |some (.lst _)=>True
 |some (.dK _)=>True
 |some (.dT _)=>True
 |some (.set _ _)=>True
 |some (.ins _ _ _)=>True
 |some (.ext _)=>True
 |_=>False
section
variable{P:Program}{w:World}{H:Hp}{h h' :Heap}{x e:Addr}{o' :HO}
theorem qI.write(ok:qI P w H h)(mu:YN (H x))(he:e=x∨H e=some (.own x))(k:∀b u,b≠e→h.get? b=some u→h'.get? b=some u)(WQ:∃u,h'.get? e=some u)
 (new:bq P w (upd H x o') h' x o'):qI P w (upd H x o') h' :=fun b u q=>by
 have Zu:∀c y,H c=some (.own y)→c≠x:=fun c y r z=>by subst z;rw[r] at mu;exact mu
 have akn:∀c xs,H c=some (.tup xs)→c≠x:=fun c xs r z=>by subst z;rw[r] at mu;exact mu
 by_cases hb:b=x
 ·subst hb;rw[ae] at q;cases q;exact new
 ·rw[af hb] at q;by_cases ym:b=e
  ·have q' :H b=some (.own x):=by
    rcases he with z|z
    ·exact absurd (ym.trans z) hb
    ·rw[ym];exact z
   rw[q] at q';cases q'
   obtain⟨v,hv⟩:=WQ;exact⟨v,by rw[ym];exact hv⟩
  ·refine(ok b u q).qQ (fun c v hc r=>k c v ?_ r) (fun c r=>by rw[af (Zu c b r)];exact r) fun c xs r=>by rw[af (akn c xs r)];exact r
   rcases hc with rfl|hc
   ·exact ym
   ·rintro rfl
    rcases he with z|z
    ·exact Zu c b hc z
    ·rw[hc] at z;cases z;exact hb rfl
end
structure Un(fs ex:aY)(H H' :Hp)(h h' :Heap):Prop where
 keep:∀b o,h.get? b=some o→H b=none→b∉fs→b∉ex→h'.get? b=some o
 slot:∀b o,h.get? b=some o→H b=none→b∈fs→b∉ex→∃sl,h'.get? b=some {o with slots:=sl}
 free:∀b o,h.get? b=some o→H b=none→b∉ex→H' b=none
 there:∀b o,h.get? b=some o→b∉ex→∃o',h'.get? b=some o'
 rF:∀b xs,H b=some (.tup xs)→H' b=some (.tup xs)
 pE:∀b o u,H b=some (.gE o u)→H' b=some (.gE o u)
 rY:∀b ps,H b=some (.Qu ps)→∃more,H' b=some (.Qu (ps++more))
section
variable{fs fs' ex ex' :aY}{H H1 H2:Hp}{h h1 h2 h' :Heap}{a x e:Addr}{o:HO}
theorem Un.any(u:Un fs ex H H1 h h1){b:Addr}{ob:Obj}(q:h.get? b=some ob)(n:H b=none)(hx:b∉ex):∃sl,h1.get? b=some {ob with slots:=sl}:=by
 by_cases hb:b∈fs
 ·exact u.slot b ob q n hb hx
 ·exact⟨ob.slots,u.keep b ob q n hb hx⟩
theorem Un.trans(a:Un fs ex H H1 h h1)(b:Un fs ex H1 H2 h1 h2):Un fs ex H H2 h h2 where
 keep:=fun c ob q n hc hx=>b.keep c ob (a.keep c ob q n hc hx) (a.free c ob q n hx) hc hx
 slot:=fun c ob q n hc hx=>by
  obtain⟨sl,e1⟩:=a.slot c ob q n hc hx;obtain⟨ZR,e2⟩:=b.slot c _ e1 (a.free c ob q n hx) hc hx;exact⟨ZR,e2⟩
 free:=fun c ob q n hx=>by
  obtain⟨o',e1⟩:=a.there c ob q hx;exact b.free c o' e1 (a.free c ob q n hx) hx
 there:=fun c ob q hx=>by
  obtain⟨o',e1⟩:=a.there c ob q hx;exact b.there c o' e1 hx
 rF:=fun c xs q=>b.rF c xs (a.rF c xs q)
 pE:=fun c ob xs q=>b.pE c ob xs (a.pE c ob xs q)
 rY:=fun c ps q=>by
  obtain⟨m1,e1⟩:=a.rY c ps q;obtain⟨m2,e2⟩:=b.rY c _ e1;exact⟨m1++m2,by rw[e2,Array.append_assoc]⟩
theorem Un.kept(k:∀b u,h.get? b=some u→h'.get? b=some u):Un fs ex H H h h' :=
 ⟨fun b ob q _ _ _=>k b ob q,fun b ob q _ _ _=>⟨ob.slots,k b ob q⟩,fun _ _ _ n _=>n,fun b ob q _=>⟨ob,k b ob q⟩,fun _ _ q=>q,fun _ _ _ q=>q,fun _ ps q=>⟨#[],by rw[q];simp⟩⟩
theorem Un.refl:Un fs ex H H h h:=Un.kept fun _ _ q=>q
theorem Un.laid(k:∀b u,h.get? b=some u→h'.get? b=some u)(hp:h.objs.size≤a)(hn:H a=none):Un fs ex H (upd H a o) h h' where
 keep:=fun b u q _ _ _=>k b u q
 slot:=fun b u q _ _ _=>⟨u.slots,k b u q⟩
 free:=fun b u q n _=>by rw[af (Nat.ne_of_lt (Nat.lt_of_lt_of_le (Heap.lt_size q) hp))];exact n
 there:=fun b u q _=>⟨u,k b u q⟩
 rF:=fun b xs q=>by rw[af (ag q hn)];exact q
 pE:=fun b u xs q=>by rw[af (ag q hn)];exact q
 rY:=fun b ps q=>⟨#[],by rw[af (ag q hn),q];simp⟩
theorem Un.write(mu:YN (H x))(he:e=x∨H e=some (.own x))(k:∀b u,b≠e→h.get? b=some u→h'.get? b=some u)(WQ:∃u,h'.get? e=some u):Un fs ex H (upd H x o) h h' :=by
 have hx:∀b,H b=none→b≠x:=fun b n z=>by subst z;rw[n] at mu;exact mu
 have hb:∀b,H b=none→b≠e:=fun b n z=>by
  subst z;rcases he with r|r
  ·exact hx b n r
  ·rw[n] at r;cases r
 have hm:∀b u,H b=some u→¬YN (some u)→b≠x:=fun b u q nm z=>by subst z;rw[q] at mu;exact nm mu
 refine⟨fun b u q n _ _=>k b u (hb b n) q,fun b u q n _ _=>⟨u.slots,k b u (hb b n) q⟩,fun b u q n _=>by rw[af (hx b n)];exact n,fun b u q _=> ?_,
  fun b xs q=>by rw[af (hm b _ q fun z=>z)];exact q,fun b u xs q=>by rw[af (hm b _ q fun z=>z)];exact q,fun b ps q=>⟨#[],by rw[af (hm b _ q fun z=>z),q];simp⟩⟩
 by_cases ym:b=e
 ·subst ym;exact WQ
 ·exact⟨u,k b u ym q⟩
theorem Un.mono(u:Un fs ex H H1 h h1)(hs:∀b∈fs,b∈fs')(hx:∀b∈ex,b∈ex'):Un fs' ex' H H1 h h1:=
 ⟨fun b ob q n hb he=>u.keep b ob q n (fun z=>hb (hs b z)) fun z=>he (hx b z),fun _ _ q n _ he=>u.any q n fun z=>he (hx _ z),fun b ob q n he=>u.free b ob q n fun z=>he (hx b z),fun b ob q he=>u.there b ob q fun z=>he (hx b z),u.rF,u.pE,u.rY⟩
end
def trk(h:Heap)(H:Hp):aY:=(List.range h.objs.size).filter fun a=>(H a).isSome
def AW(h:Heap)(H:Hp):Heap:=PySem.W.hideAll h (trk h H)
theorem G0(h:Heap)(H:Hp):(AW h H).objs.size=h.objs.size:=PySem.W.hideAll_size _ _
theorem MN{h:Heap}{H:Hp}{b:Addr}{o:Obj}(e:h.get? b=some o)(n:H b=none):(AW h H).get? b=some o:=
 PySem.W.hideAll_get _ e fun hm=>by
  have q:(H b).isSome=true:=(List.mem_filter.mp hm).2;rw[n] at q;simp at q
theorem PF{h:Heap}{H:Hp}{b:Addr}{o:Obj}(e:(AW h H).get? b=some o):h.get? b=some o∧H b=none:=by
 have e' :h.get? b=some o:=PySem.W.of_hideAll (trk h H) e;refine⟨e',?_⟩
 cases q:H b with
 |none=>rfl
 |some x=>
  have hm:b∈trk h H:=List.mem_filter.mpr ⟨List.mem_range.mpr (Heap.lt_size e'),by simp[q]⟩;have z:(AW h H).get? b=none:=PySem.W.hideAll_none (trk h H) hm;rw[z] at e;cases e
def OB(g h:Heap)(L:Addr):aL:=(List.range h.objs.size).filterMap fun a=>if a=L∨(g.get? a).isSome=true then none else(h.get? a).map fun o=>(a,o)
def rest(g h:Heap)(L d:Addr):aL:=(OB g h L).filter fun p=>decide (p.1≠d)
structure Mod(K:Frag)(mg:Str→aH)(base:Heap):Prop where
 NV:K.In base
 glob:base.Ns mainGlobals mg
 blt:∃mb,base.Ns builtinsNs mb∧∀x:Str,x≠ "__name__" →mb x=bootBuiltins x
 nolimit:base.NoLimit
structure Cx where
 prog:Program
 w:World
 K:Frag
 mg:Str→aH
 base:Heap
 A:Around
 N:aX
 fM:Shared
 H₀:Hp
 env:Env
 outer:List Env
 stack:List Env
 ex:aY
 fn:Str→Bool
 calm:Bool
 pn:aL
 xe:Value→Shared→Prop
def wd(l:List Env):aY:=l.filterMap (·.frame)
abbrev Cx.fs(X:Cx):aY:=wd X.outer
def Vis(sc:Scope)(x:Str):Prop:=sc.names.lookup x=some .local∨sc.names.lookup x=some .cell∨sc.names.lookup x=some .free
def Loc(sc:Scope)(x:Str):Prop:=sc.names.lookup x=some .local∨sc.names.lookup x=some .cell
def jau(env:Env)(h:Heap)(m:Str→aH)(x:Str)(u:Value):Prop:=
 (env.kindOf x=some .local∧m x=some u)∨((env.kindOf x=some .cell∨env.kindOf x=some .free)∧∃c,env.cells.lookup x=some c∧h.IsCell c (some u))
structure Cx.Ok(X:Cx):Prop where
 mod:Mod X.K X.mg X.base
 kind:X.env.scope.kind= .function
 glob:X.env.globals=mainGlobals
 blt:X.env.builtins=builtinsNs
 above:X.fM.heap.objs.size≤X.env.locals
 inj:∀x y c,X.env.cells.lookup x=some c→X.env.cells.lookup y=some c→x=y
 has:∀x,(X.env.kindOf x=some .cell∨X.env.kindOf x=some .free)→∃c,X.env.cells.lookup x=some c
 Wh:∀x c,X.fn x=true→X.env.cells.lookup x=some c→X.fM.heap.objs.size≤c
 hd:X.calm=true→X.A.handled=none
 frames:X.A.frames=some X.stack
 WR:X.stack=X.outer∨(X.stack=X.env::X.outer∧X.env.frame=some X.env.locals)
 exf:∀b∈X.ex,b≠X.env.locals∧∀x c,X.env.cells.lookup x=some c→c≠b
 bs:∀b o,X.base.get? b=some o→X.fM.heap.get? b=some o∧X.H₀ b=none
 GX:X.base.objs.size≤X.fM.heap.objs.size
 E9:∀b o,X.base.get? b=some o→b∉X.ex
 Ie:∀b∈X.ex,b∉X.fs
 se:X.fM.heap.FunFrames X.base X.outer
 NR:∀b∈X.fs,X.H₀ b=none
structure Inv(X:Cx)(pins:aL)(σ:List (Option V))(H:Hp)(s:Shared):Prop where
 ok:X.Ok
 os:s.os=X.fM.os
 bare:AllBare s.gens
 base:Un X.fs X.ex X.H₀ H X.fM.heap s.heap
 loc:∃m,s.heap.Ns X.env.locals m∧∀(i:Nat) (x:Str) (v:V),X.N[i]? =some x→σ[i]? =some (some v)→Vis X.env.scope x→∃u,RelV v u∧jau X.env s.heap m x u
 cell:∀x c,X.env.cells.lookup x=some c→∃v,s.heap.IsCell c v
 free:H X.env.locals=none
 jk:∀x c,X.env.cells.lookup x=some c→H c=none
 pin:∀p∈X.pn++pins,s.heap.get? p.1=some p.2∧H p.1=none∧p.1≠X.env.locals∧p.1∉X.fs∧∀v,p.2.data≠.cell v
 bC:qI X.prog X.w H s.heap
 len:σ.length=X.N.length
section
variable{X:Cx}{pins:aL}{σ:List (Option V)}{H H' :Hp}{s:Shared}{h' :Heap}
theorem Cx.Ok.akS(ok:X.Ok){b:Addr}{o:Obj}(e:X.base.get? b=some o):b∉X.fs:=fun hb=>by
 have:=(ok.se.mem hb).1;rw[e] at this;cases this
theorem Inv.bs(I:Inv X pins σ H s):∀b o,X.base.get? b=some o→s.heap.get? b=some o∧H b=none:=fun b o e=>
 ⟨I.base.keep b o (I.ok.bs b o e).1 (I.ok.bs b o e).2 (I.ok.akS e) (I.ok.E9 b o e),I.base.free b o (I.ok.bs b o e).1 (I.ok.bs b o e).2 (I.ok.E9 b o e)⟩
theorem Inv.bk(I:Inv X pins σ H s):∀b o,X.base.get? b=some o→s.heap.get? b=some o:=fun b o e=>(I.bs b o e).1
theorem Inv.mod(I:Inv X pins σ H s):Mod X.K X.mg X.base:=I.ok.mod
theorem Inv.lA(I:Inv X pins σ H s):X.K.In s.heap:=I.ok.mod.NV.keeps I.bk
theorem Inv.nolimit(I:Inv X pins σ H s):s.heap.NoLimit:=I.ok.mod.nolimit.keeps I.bk
theorem Inv.fr(I:Inv X pins σ H s):∃m,Fr X.base X.env.locals s.heap m:=
 let⟨m,hn,_⟩:=I.loc
 ⟨m,hn,I.bk,Nat.le_trans I.ok.GX I.ok.above⟩
theorem Inv.lt(I:Inv X pins σ H s):X.env.locals<s.heap.objs.size:=let⟨_,hn,_⟩:=I.loc;hn.lt
theorem Inv.sz(I:Inv X pins σ H s):X.fM.heap.objs.size≤s.heap.objs.size:=Nat.le_trans I.ok.above (Nat.le_of_lt I.lt)
theorem Inv.amr(I:Inv X pins σ H s){a:Addr}(h:s.heap.objs.size≤a):a∉X.fs:=fun hb=>by
 obtain⟨_,o,ho,_⟩:=I.ok.se.mem hb;exact absurd (Nat.lt_of_lt_of_le (Heap.lt_size ho) (Nat.le_trans I.sz h)) (Nat.lt_irrefl _)
theorem Inv.P5(I:Inv X pins σ H s):∀x c,X.env.cells.lookup x=some c→c≠X.env.locals:=fun x c e z=>by
 obtain⟨v,o,ho,hd⟩:=I.cell x c e;obtain⟨m,⟨o',es,ep,Bf,zt,_⟩,_⟩:=I.loc;rw[z,Bf] at ho;cases ho;rw[zt] at hd;cases hd
theorem Inv.se(I:Inv X pins σ H s):s.heap.FunFrames X.base X.outer:=by
 have all:∀(l:List Env),(∀b∈wd l,b∈X.fs)→X.fM.heap.FunFrames X.base l→s.heap.FunFrames X.base l:=by
  intro l
  induction l with
  |nil=>intro _ _;trivial
  |cons env r ih=>
   intro hs hl;obtain⟨hk,⟨L,o,hf,hn,ho,hd⟩,hr⟩:=hl;have hL:L∈X.fs:=hs L (by unfold wd;rw[List.filterMap_cons,hf];exact List.mem_cons_self);obtain⟨sl,e⟩:=I.base.slot L o ho (I.ok.NR L hL) hL fun z=>I.ok.Ie L z hL;exact⟨hk,⟨L,_,hf,hn,e,hd⟩,ih (fun b hb=>hs b (by unfold wd;rw[List.filterMap_cons,hf];exact List.mem_cons_of_mem _ hb)) hr⟩
 exact all X.outer (fun _ hb=>hb) I.ok.se
theorem Inv.stack(I:Inv X pins σ H s):s.heap.FunFrames X.base X.stack:=by
 rcases I.ok.WR with e|⟨e,hf⟩
 ·rw[e];exact I.se
 ·rw[e];obtain⟨m,hn,_⟩:=I.loc;refine .cons (by rw[I.ok.kind];decide) hf hn ?_ I.se;exact Heap.get?_none_of_le (Nat.le_trans I.ok.GX I.ok.above)
theorem Inv.A7(I:Inv X pins σ H s):∀b∈wd X.stack,b∈X.env.locals::X.fs:=fun b hb=>by
 rcases I.ok.WR with e|⟨e,hf⟩
 ·rw[e] at hb;exact List.mem_cons_of_mem _ hb
 ·rw[e] at hb;unfold wd at hb;rw[List.filterMap_cons,hf] at hb;exact hb
theorem Inv.wA(I:Inv X pins σ H s):∀b∈wd X.stack,H b=none:=fun b hb=>by
 rcases List.mem_cons.mp (I.A7 b hb) with e|hb
 ·rw[e];exact I.free
 ·obtain⟨_,o,ho,_⟩:=I.ok.se.mem hb;exact I.base.free b o ho (I.ok.NR b hb) fun z=>I.ok.Ie b z hb
theorem Inv.step{g' :Array GenState}{t' :Nat}{d' :Drawn}{ch:aY}(I:Inv X pins σ H s)
 (NJ:∀b∈ch,(b∈X.ex∨X.fM.heap.objs.size≤b)∧b≠X.env.locals∧(∀x c,X.env.cells.lookup x=some c→c≠b)∧∀p∈X.pn++pins,p.1≠b)
 (keep:∀b o,b≠X.env.locals→b∉X.fs→b∉ch→s.heap.get? b=some o→H b=none→h'.get? b=some o)
 (slot:∀b o,b≠X.env.locals→b∈X.fs→b∉ch→s.heap.get? b=some o→H b=none→∃sl,h'.get? b=some {o with slots:=sl}) (free:∀b o,b∉ch→s.heap.get? b=some o→H b=none→H' b=none)
 (there:∀b o,b∉ch→s.heap.get? b=some o→∃o',h'.get? b=some o')
 (rF:∀b xs,H b=some (.tup xs)→H' b=some (.tup xs)) (pE:∀b o u,H b=some (.gE o u)→H' b=some (.gE o u)) (rY:∀b ps,H b=some (.Qu ps)→∃more,H' b=some (.Qu (ps++more)))
 (ns:∀m,s.heap.Ns X.env.locals m→h'.Ns X.env.locals m) (bC:qI X.prog X.w H' h') (hg:AllBare g'):
 Inv X pins σ H' {s with heap:=h',gens:=g',drawn:=d',toks:=t'}:=by
 have neL:∀b o,X.fM.heap.get? b=some o→b≠X.env.locals:=fun b o e=>Nat.ne_of_lt (Nat.lt_of_lt_of_le (Heap.lt_size e) I.ok.above)
 have neC:∀b o,X.fM.heap.get? b=some o→b∉X.ex→b∉ch:=fun b o e hx hb=>by
  rcases(NJ b hb).1 with z|z
  ·exact hx z
  ·exact absurd (Nat.lt_of_lt_of_le (Heap.lt_size e) z) (Nat.lt_irrefl _)
 have cellK:∀x c,X.env.cells.lookup x=some c→∀v,s.heap.IsCell c v→h'.IsCell c v:=fun x c e v ⟨o,ho,hd⟩=>by
  have ZG:c∉ch:=fun z=>(NJ c z).2.2.1 x c e rfl;by_cases hc:c∈X.fs
  ·obtain⟨sl,q⟩:=slot c o (I.P5 x c e) hc ZG ho (I.jk x c e);exact⟨_,q,hd⟩
  ·exact⟨o,keep c o (I.P5 x c e) hc ZG ho (I.jk x c e),hd⟩
 refine⟨I.ok,I.os,hg,⟨fun b o e n hb hx=> ?_,fun b o e n hb hx=> ?_,fun b o e n hx=> ?_,fun b o e hx=> ?_,fun b xs e=>rF b xs (I.base.rF b xs e),fun b o xs e=>pE b o xs (I.base.pE b o xs e),fun b ps e=> ?_⟩,?_,fun x c e=> ?_,?_,fun x c e=> ?_,fun p hp=> ?_,bC,I.len⟩
 ·exact keep b o (neL b o e) hb (neC b o e hx) (I.base.keep b o e n hb hx) (I.base.free b o e n hx)
 ·obtain⟨sl,e1⟩:=I.base.slot b o e n hb hx;obtain⟨ZR,e2⟩:=slot b _ (neL b o e) hb (neC b o e hx) e1 (I.base.free b o e n hx);exact⟨ZR,e2⟩
 ·obtain⟨o',e1⟩:=I.base.there b o e hx;exact free b o' (neC b o e hx) e1 (I.base.free b o e n hx)
 ·obtain⟨o',e1⟩:=I.base.there b o e hx;exact there b o' (neC b o e hx) e1
 ·obtain⟨m1,e1⟩:=I.base.rY b ps e;obtain⟨m2,e2⟩:=rY b _ e1;exact⟨m1++m2,by rw[e2,Array.append_assoc]⟩
 ·obtain⟨m,hn,hl⟩:=I.loc;refine⟨m,ns m hn,fun i x v e1 e2 e3=> ?_⟩;obtain⟨u,r,l⟩:=hl i x v e1 e2 e3;refine⟨u,r,?_⟩;rcases l with l|⟨k,c,e,z⟩
  ·exact .inl l
  ·exact .inr ⟨k,c,e,cellK x c e _ z⟩
 ·obtain⟨v,z⟩:=I.cell x c e;exact⟨v,cellK x c e v z⟩
 ·obtain⟨m,⟨o,_,_,ho,_⟩,_⟩:=I.loc;exact free _ o (fun z=>(NJ _ z).2.1 rfl) ho I.free
 ·obtain⟨v,o,ho,hd⟩:=I.cell x c e;exact free c o (fun z=>(NJ c z).2.2.1 x c e rfl) ho (I.jk x c e)
 ·obtain⟨e,n,ne,nf,d⟩:=I.pin p hp;have ZG:p.1∉ch:=fun z=>(NJ p.1 z).2.2.2 p hp rfl;exact⟨keep p.1 p.2 ne nf ZG e n,free p.1 p.2 ZG e n,ne,nf,d⟩
theorem Inv.un{t' :Nat}(I:Inv X pins σ H s)(u:Un X.fs [] H H' s.heap h')(bC:qI X.prog X.w H' h'):Inv X pins σ H' {s with heap:=h',toks:=t'}:=by
 obtain⟨m,⟨o,es,ep,ho,r⟩,_⟩:=id I.loc;obtain⟨sl,hL⟩:=u.any ho I.free (by simp)
 exact I.step (g' :=s.gens) (d' :=s.drawn) (ch:=[]) (fun _ z=>nomatch z) (fun b o _ hb _ e n=>u.keep b o e n hb (by simp)) (fun b o _ hb _ e n=>u.slot b o e n hb (by simp)) (fun b o _ e n=>u.free b o e n (by simp)) (fun b o _ e=>u.there b o e (by simp)) u.rF u.pE u.rY (fun m' hm=>by
  obtain⟨o',Pb,PR,Bf,r'⟩:=hm;rw[ho] at Bf;cases Bf
  exact⟨_,Pb,PR,hL,r'⟩) bC I.bare
theorem Inv.call{g' :Array GenState}{t' :Nat}{d' :Drawn}{ch:aY}(I:Inv X pins σ H s)(u:Un (wd X.stack) ch H H' s.heap h')(bC:qI X.prog X.w H' h')(hg:AllBare g')
 (NJ:∀b∈ch,(b∈X.ex∨X.fM.heap.objs.size≤b)∧b≠X.env.locals∧(∀x c,X.env.cells.lookup x=some c→c≠b)∧∀p∈X.pn++pins,p.1≠b):
 Inv X pins σ H' {s with heap:=h',gens:=g',drawn:=d',toks:=t'}:=by
 obtain⟨m,⟨o,es,ep,ho,r⟩,_⟩:=id I.loc;obtain⟨sl,hL⟩:=u.any ho I.free fun z=>(NJ _ z).2.1 rfl
 exact I.step (ch:=ch) NJ (fun b o hL hb hc e n=>u.keep b o e n (fun z=>(List.mem_cons.mp (I.A7 b z)).elim hL hb) hc) (fun b o _ _ hc e n=>u.any e n hc) (fun b o hc e n=>u.free b o e n hc) (fun b o hc e=>u.there b o e hc) u.rF u.pE u.rY (fun m' hm=>by
  obtain⟨o',Pb,PR,Bf,r'⟩:=hm;rw[ho] at Bf;cases Bf
  exact⟨_,Pb,PR,hL,r'⟩) bC hg
theorem Inv.turned{t' :Nat}{it:Addr}(I:Inv X pins σ H s)(k:∀b o,b≠it→s.heap.get? b=some o→h'.get? b=some o)(hn:H it=none)(hL:it≠X.env.locals)
 (h1:it∈X.ex∨X.fM.heap.objs.size≤it) (h2:∀x c,X.env.cells.lookup x=some c→c≠it) (h3:∀p∈X.pn++pins,p.1≠it):Inv X pins σ H {s with heap:=h',toks:=t'}:=by
 have nit:∀b u,H b=some u→b≠it:=fun b u e z=>by rw[z,hn] at e;cases e
 refine I.step (g' :=s.gens) (d' :=s.drawn) (ch:=[it]) (fun b hb=> ?_) (fun b o _ _ hc e _=>k b o (fun z=>hc (by simp[z])) e) (fun b o _ _ hc e _=>⟨o.slots,k b o (fun z=>hc (by simp[z])) e⟩) (fun _ _ _ _ n=>n)
  (fun b o hc e=>⟨o,k b o (fun z=>hc (by simp[z])) e⟩) (fun _ _ e=>e) (fun _ _ _ e=>e) (fun b ps e=>⟨#[],by rw[e];simp⟩) (fun m hm=> ?_) (fun b u e=> ?_) I.bare
 ·have e:b=it:=by simpa using hb
  subst e;exact⟨h1,hL,h2,h3⟩
 ·obtain⟨o,es,ep,ho,r⟩:=hm;exact⟨o,es,ep,k _ o (Ne.symm hL) ho,r⟩
 ·refine(I.bC b u e).qQ (fun c v hc q=>k c v ?_ q) (fun _ q=>q) fun _ _ q=>q;rcases hc with z|z
  ·rw[z];exact nit b u e
  ·exact nit c _ z
theorem Inv.tok(I:Inv X pins σ H s)(t:Nat):Inv X pins σ H {s with toks:=t}:=I.un (h' :=s.heap) (t' :=t) Un.refl I.bC
theorem Inv.kept{t' :Nat}(I:Inv X pins σ H s)(k:∀b u,s.heap.get? b=some u→h'.get? b=some u):Inv X pins σ H {s with heap:=h',toks:=t'}:=I.un (Un.kept k) (I.bC.kept k)
theorem Inv.laid{a:Addr}{o:HO}{t' :Nat}(I:Inv X pins σ H s)(k:∀b u,s.heap.get? b=some u→h'.get? b=some u)(hp:s.heap.objs.size≤a)(new:bq X.prog X.w (upd H a o) h' a o):
 Inv X pins σ (upd H a o) {s with heap:=h',toks:=t'}:=I.un (Un.laid k hp (I.bC.fresh hp)) (I.bC.laid k hp new)
theorem Inv.write{x e:Addr}{o:HO}{t' :Nat}(I:Inv X pins σ H s)(mu:YN (H x))(he:e=x∨H e=some (.own x))(k:∀b u,b≠e→s.heap.get? b=some u→h'.get? b=some u)(WQ:∃u,h'.get? e=some u)
 (new:bq X.prog X.w (upd H x o) h' x o):Inv X pins σ (upd H x o) {s with heap:=h',toks:=t'}:=I.un (Un.write mu he k WQ) (I.bC.write mu he k WQ new)
theorem Inv.weak{cI :List (Option V)}(I:Inv X pins σ H s)(hl:cI.length=σ.length)(w:∀(i:Nat) v,cI[i]? =some (some v)→σ[i]? =some (some v)):Inv X pins cI H s:=
 ⟨I.ok,I.os,I.bare,I.base,let⟨m,hn,hl'⟩:=I.loc;⟨m,hn,fun i x v e1 e2 e3=>hl' i x v e1 (w i v e2) e3⟩,I.cell,I.free,I.jk,I.pin,I.bC,hl.trans I.len⟩
theorem Inv.FD{Ak :aL}(I:Inv X pins σ H s)(h:∀p∈Ak,s.heap.get? p.1=some p.2∧H p.1=none∧p.1≠X.env.locals∧p.1∉X.fs∧∀v,p.2.data≠.cell v):Inv X Ak σ H s:=
 ⟨I.ok,I.os,I.bare,I.base,I.loc,I.cell,I.free,I.jk,fun p hp=>(List.mem_append.mp hp).elim (fun z=>I.pin p (List.mem_append_left _ z)) (h p),I.bC,I.len⟩
theorem CL{N:aX}(hN:N.Nodup){i j:Nat}{x:Str}(a:N[i]? =some x)(b:N[j]? =some x):i=j:=by
 obtain⟨h1,e1⟩:=List.getElem?_eq_some_iff.mp a;obtain⟨h2,e2⟩:=List.getElem?_eq_some_iff.mp b;exact(List.getElem_inj hN).mp (e1.trans e2.symm)
theorem z6{M:Model}{A:Around}{E:Value→Shared→Prop}{i:Nat}{x:Str}{v:V}{u:Value}{Q:Unit→Shared→Prop}(I:Inv X pins σ H s)(hN:X.N.Nodup)(hi:X.N[i]? =some x)(hx:Loc X.env.scope x)(r:RelV v u)
 (h:∀s',Inv X pins (σ.set i (some v)) H s'→(∃a,Heap.SameBut a s.heap s'.heap∧(a=X.env.locals∨X.env.cells.lookup x=some a))→Q () s') (hf:X.fn x=true∨X.env.scope.names.lookup x=some .local:=by first|exact .inl rfl|exact .inr rfl|assumption):wpAny M A (storeName X.env x u) Q E s:=by
 obtain⟨m,hn,hl⟩:=id I.loc;have AK:(X.env.scope.kind== .class||(X.env.scope.kind== .module&&X.env.locals !=X.env.globals))=false:=by rw[I.ok.kind];rfl
 have abH:i<σ.length:=by rw[I.len];exact(List.getElem?_eq_some_iff.mp hi).1
 have P5:=I.P5
 have tracked:∀{a:Addr} {h' :Heap},(∃o,s.heap.get? a=some o∧H a=none)→Heap.SameBut a s.heap h'→qI X.prog X.w H h' :=fun{a h'} ha hs b ob e=>by
  obtain⟨_,_,Sa⟩:=ha;refine(I.bC b ob e).qQ (fun c w' hc q=>(hs.2 c ?_).trans q) (fun _ q=>q) fun _ _ q=>q
  rintro rfl
  rcases hc with rfl|hc
  ·rw[Sa] at e;cases e
  ·rw[Sa] at hc;cases hc
 rcases hx with hk|hk
 ·refine wpAny_storeName_local hk hn (fun h' GV hs=> ?_) AK;obtain⟨oL,_,_,hoL,_⟩:=id hn;refine h _ ⟨I.ok,I.os,I.bare,⟨fun b o e n hb hx=> ?_,fun b o e n hb hx=> ?_,I.base.free,fun b o e hx=> ?_,I.base.rF,I.base.pE,I.base.rY⟩,⟨_,GV,fun j y v' e1 e2 e3=> ?_⟩,fun y c e=> ?_,I.free,I.jk,fun p hp=> ?_,tracked ⟨oL,hoL,I.free⟩ hs,by simpa using I.len⟩ ⟨_,hs,.inl rfl⟩
  ·exact(hs.2 b (Nat.ne_of_lt (Nat.lt_of_lt_of_le (Heap.lt_size e) I.ok.above))).trans (I.base.keep b o e n hb hx)
  ·obtain⟨sl,e1⟩:=I.base.slot b o e n hb hx;exact⟨sl,(hs.2 b (Nat.ne_of_lt (Nat.lt_of_lt_of_le (Heap.lt_size e) I.ok.above))).trans e1⟩
  ·obtain⟨o',e1⟩:=I.base.there b o e hx;exact⟨o',(hs.2 b (Nat.ne_of_lt (Nat.lt_of_lt_of_le (Heap.lt_size e) I.ok.above))).trans e1⟩
  ·by_cases hj:j=i
   ·subst hj;rw[hi] at e1;cases e1
    rw[List.getElem?_set_self abH] at e2;cases e2;exact⟨u,r,.inl ⟨hk,by simp⟩⟩
   ·rw[List.getElem?_set_ne (Ne.symm hj)] at e2;obtain⟨u',r',q⟩:=hl j y v' e1 e2 e3;refine⟨u',r',?_⟩;rcases q with⟨k,e⟩|⟨k,c,e,z⟩
    ·refine .inl ⟨k,?_⟩;have:y≠x:=fun e=>hj (CL hN e1 (e▸hi));simp[this,e]
    ·exact .inr ⟨k,c,e,z.sameBut hs (P5 y c e)⟩
  ·obtain⟨w',z⟩:=I.cell y c e;exact⟨w',z.sameBut hs (P5 y c e)⟩
  ·obtain⟨e,n,ne,nf,d⟩:=I.pin p hp;exact⟨(hs.2 p.1 ne).trans e,n,ne,nf,d⟩
 ·have hfn:X.fn x=true:=by
   rcases hf with z|z
   ·exact z
   ·rw[z] at hk;cases hk
  obtain⟨c,hc⟩:=I.ok.has x (.inl hk);obtain⟨w',z⟩:=I.cell x c hc;refine wpAny_storeName_cell I.ok.kind hk hc z (fun h' hc' hs=> ?_);obtain⟨oc,hoc,ajE⟩:=id z;refine h {s with heap:=h'} ⟨I.ok,I.os,I.bare,⟨fun b o e n hb hx=> ?_,fun b o e n hb hx=> ?_,I.base.free,fun b o e hx=> ?_,I.base.rF,I.base.pE,I.base.rY⟩,⟨m,hn.sameBut hs (Ne.symm (P5 x c hc)),fun j y v' e1 e2 e3=> ?_⟩,fun y c' e=> ?_,I.free,I.jk,fun p hp=> ?_,tracked ⟨oc,hoc,I.jk x c hc⟩ hs,by simpa using I.len⟩ ⟨c,hs,.inr hc⟩
  ·exact(hs.2 b (Nat.ne_of_lt (Nat.lt_of_lt_of_le (Heap.lt_size e) (I.ok.Wh x c hfn hc)))).trans (I.base.keep b o e n hb hx)
  ·obtain⟨sl,e1⟩:=I.base.slot b o e n hb hx;exact⟨sl,(hs.2 b (Nat.ne_of_lt (Nat.lt_of_lt_of_le (Heap.lt_size e) (I.ok.Wh x c hfn hc)))).trans e1⟩
  ·obtain⟨o',e1⟩:=I.base.there b o e hx;exact⟨o',(hs.2 b (Nat.ne_of_lt (Nat.lt_of_lt_of_le (Heap.lt_size e) (I.ok.Wh x c hfn hc)))).trans e1⟩
  ·by_cases hj:j=i
   ·subst hj;rw[hi] at e1;cases e1
    rw[List.getElem?_set_self abH] at e2;cases e2;exact⟨u,r,.inr ⟨.inl hk,c,hc,hc'⟩⟩
   ·rw[List.getElem?_set_ne (Ne.symm hj)] at e2;obtain⟨u',r',q⟩:=hl j y v' e1 e2 e3;refine⟨u',r',?_⟩;rcases q with q|⟨k,c',e,z'⟩
    ·exact .inl q
    ·refine .inr ⟨k,c',e,z'.sameBut hs ?_⟩
     rintro rfl
     exact hj (CL hN e1 (I.ok.inj _ _ _ e hc▸hi))
  ·by_cases hcc:c' =c
   ·subst hcc;exact⟨_,hc'⟩
   ·obtain⟨w2,z2⟩:=I.cell y c' e;exact⟨w2,z2.sameBut hs hcc⟩
  ·obtain⟨e,n,ne,nf,d⟩:=I.pin p hp;refine⟨(hs.2 p.1 ?_).trans e,n,ne,nf,d⟩;intro q;rw[q,hoc] at e;have q' :oc=p.2:=Option.some.inj e;exact d w' (by rw[←q'];exact ajE)
theorem sU{M:Model}{A:Around}{E:Value→Shared→Prop}{i:Nat}{x:Str}{v:V}{u:Value}{Q:Unit→Shared→Prop}(I:Inv X pins σ H s)(hN:X.N.Nodup)(hi:X.N[i]? =some x)(hx:Loc X.env.scope x)(r:RelV v u)
 (h:∀s',Inv X pins (σ.set i (some v)) H s'→Q () s') (hf:X.fn x=true∨X.env.scope.names.lookup x=some .local:=by first|exact .inl rfl|exact .inr rfl|assumption):wpAny M A (storeName X.env x u) Q E s:=
 z6 I hN hi hx r (fun s' I' _=>h s' I') hf
theorem Inv.RB{s' :Shared}{ch:aY}(I:Inv X pins σ H s)(ho:s'.os=s.os)(u:Un (wd X.stack) ch H H' s.heap s'.heap)(bC:qI X.prog X.w H' s'.heap)(hg:AllBare s'.gens)
 (NJ:∀b∈ch,(b∈X.ex∨X.fM.heap.objs.size≤b)∧b≠X.env.locals∧(∀x c,X.env.cells.lookup x=some c→c≠b)∧∀p∈X.pn++pins,p.1≠b):Inv X pins σ H' s' :=by
 obtain⟨h',g',d',t',o'⟩:=s';have e:o' =s.os:=ho;subst e;exact I.call (g' :=g') (t' :=t') (d' :=d') u bC hg NJ
end
abbrev XK:=Value→Option Addr→Hp→Prop
abbrev St:=List (Option V)
abbrev VK:=V→Hp→Prop
abbrev TE:=St→Hp→VK→Prop
abbrev TT:=St→Hp→(Bool→Hp→Prop)→Prop
abbrev TA:=St→Hp→(az→Hp→Prop)→Prop
structure Ends where
 nx:St→Hp→Prop
 rt:VK
 bk:St→Hp→Prop:=fun _ _=>False
 ct:St→Hp→Prop:=fun _ _=>False
abbrev TS:=Ends→St→Hp→Prop
def EP(X:Cx)(pins:aL)(σ:St)(Q:VK)(u:Value)(s' :Shared):Prop:=∃v H',Inv X pins σ H' s'∧RelV v u∧Q v H'
def TP(X:Cx)(pins:aL)(σ:St)(Q:Bool→Hp→Prop)(b:Bool)(s' :Shared):Prop:=∃H',Inv X pins σ H' s'∧Q b H'
def AP(X:Cx)(pins:aL)(σ:St)(Q:az→Hp→Prop)(us:aA)(s' :Shared):Prop:=∃vs H',Inv X pins σ H' s'∧Vals vs us∧Q vs H'
def SP(X:Cx)(pins:aL)(D:Ends)(f:Flow)(s' :Shared):Prop:=
 match f with
 | .next=>∃cI H',Inv X pins cI H' s'∧D.nx cI H'
 | .brk=>∃cI H',Inv X pins cI H' s'∧D.bk cI H'
 | .cont=>∃cI H',Inv X pins cI H' s'∧D.ct cI H'
 | .ret u=>∃v cI H',Inv X pins cI H' s'∧RelV v u∧D.rt v H'
def PE(X:Cx)(e:Expr)(t:TE):Prop:=
 ∀(pins:aL) (s:Shared) (σ:St) (H:Hp) (Q:VK),Inv X pins σ H s→t σ H Q→wpAny (model X.prog X.w) X.A (eval e X.env) (EP X pins σ Q) X.xe s
def PT(X:Cx)(e:Expr)(t:TT):Prop:=
 ∀(pins:aL) (s:Shared) (σ:St) (H:Hp) (Q:Bool→Hp→Prop),Inv X pins σ H s→t σ H Q→wpAny (model X.prog X.w) X.A (isTrue e X.env (eval e X.env)) (TP X pins σ Q) X.xe s
def PW(X:Cx)(e:Expr)(t:TT):Prop:=
 ∀(whole:Sem Value) (pins:aL) (s:Shared) (σ:St) (H:Hp) (Q:Bool→Hp→Prop),Inv X pins σ H s→t σ H Q→wpAny (model X.prog X.w) X.A (isTrue e X.env whole) (TP X pins σ Q) X.xe s
theorem PW.pt{X:Cx}{e:Expr}{t:TT}(h:PW X e t):PT X e t:=h _
def PA(X:Cx)(es:cQ)(t:TA):Prop:=
 ∀(pos:Pos) (pins:aL) (s:Shared) (σ:St) (H:Hp) (Q:az→Hp→Prop),Inv X pins σ H s→t σ H Q→wpAny (model X.prog X.w) X.A (spliced (backTo pos (starEach es X.env))) (AP X pins σ Q) X.xe s
def PS(X:Cx)(st:Stmt)(t:TS):Prop:=
 ∀(pins:aL) (s:Shared) (σ:St) (H:Hp) (D:Ends),Inv X pins σ H s→t D σ H→wpAny (model X.prog X.w) X.A (exec st X.env) (SP X pins D) X.xe s
def zr(X:Cx)(st:List Stmt)(t:TS):Prop:=
 ∀(pins:aL) (s:Shared) (σ:St) (H:Hp) (D:Ends),Inv X pins σ H s→t D σ H→wpAny (model X.prog X.w) X.A (execs st X.env) (SP X pins D) X.xe s
theorem ck{α:Type}{t:Sem α}{Q Q' :α→Shared→Prop}{M:Model}{A:Around}{E:Value→Shared→Prop}{s:Shared}(h:wpAny M A t Q E s)(hQ:∀a s,Q a s→Q' a s):wpAny M A t Q' E s:=wpAny_mono h hQ fun _ _ x=>x
section
variable{X:Cx}
theorem bin{a b:Expr}{ta tb:TE}(ha:PE X a ta)(hb:PE X b tb){pins:aL}{s:Shared}{σ:St}{H:Hp}{R:V→V→Hp→Prop}(I:Inv X pins σ H s)(h:ta σ H fun x H1=>tb σ H1 fun y H2=>R x y H2)
 {α:Type} {Q:α→Shared→Prop} {f:Value→Value→Sem α}
 (hf:∀v u s2 x y H2,Inv X pins σ H2 s2→RelV x v→RelV y u→R x y H2→wpAny (model X.prog X.w) X.A (f v u) Q X.xe s2):
 wpAny (model X.prog X.w) X.A (eval a X.env) (fun v bE=>wpAny (model X.prog X.w) X.A (eval b X.env) (fun u pY=>wpAny (model X.prog X.w) X.A (f v u) Q X.xe pY) X.xe bE) X.xe s:=by
 refine ck (ha pins s σ H _ I h) fun v s1 ⟨x,H1,I1,r1,q1⟩=> ?_;refine ck (hb pins s1 σ H1 _ I1 q1) fun u s2 ⟨y,H2,I2,r2,q2⟩=> ?_;exact hf v u s2 x y H2 I2 r1 r2 q2
def aav(i:Nat):TE:=fun σ H Q=>∃v,σ[i]? =some (some v)∧Q v H
def tC(v:V):TE:=fun _ H Q=>Q v H
theorem Vf{i:Nat}{x:Str}{pos:Pos}(hN:X.N[i]? =some x)(hv:Vis X.env.scope x)(hd:(x==("__debug__" :Str))=false:=by decide)(zF:(x==("__classdict__" :Str))=false:=by decide):PE X (.Name x pos) (aav i):=by
 intro pins s σ H Q I h;obtain⟨v,e,h⟩:=h;obtain⟨m,hn,hl⟩:=I.loc;obtain⟨u,r,l⟩:=hl i x v hN e hv;have fin:EP X pins σ Q u s:=⟨v,H,I,r,h⟩;rcases l with⟨hk,hm⟩|⟨hk,c,hc,Ri⟩
 ·exact wpAny_Name (wpAny_loadName_local I.ok.kind hk hn hm fin) hd
 ·rcases hk with hk|hk
  ·exact wpAny_Name (wpAny_loadName_cell I.ok.kind hk hc Ri fin) hd
  ·exact wpAny_Name (wpAny_loadName_free I.ok.kind hk hc Ri fin zF) hd
theorem ax{i j pos}:PE X (.Constant (.int i) j pos) (tC (.int i)):=fun _ _ _ H _ I h=>wpAny_Constant_int ⟨.int i,H,I.tok _,⟨_,rfl⟩,h⟩
theorem j9{b j pos}:PE X (.Constant (.bool b) j pos) (tC (.bl b)):=fun _ _ _ H _ I h=>Constant_bool ⟨.bl b,H,I,rfl,h⟩
theorem cW{j pos}:PE X (.Constant .none j pos) (tC .bH):=fun _ _ _ H _ I h=>Constant_none ⟨.bH,H,I,rfl,h⟩
theorem aS{x j pos}:PE X (.Constant (.str x) j pos) (tC (.str x)):=fun _ _ _ H _ I h=>Calls.Constant_str ⟨.str x,H,I.tok _,⟨_,rfl⟩,h⟩
def Gl(X:Cx)(x:Str):Prop:=X.env.kindOf x=some .globalImplicit
theorem nE{E:Value→Shared→Prop}{pins:aL}{s:Shared}{σ:St}{H:Hp}{x:Str}{u:Value}{pos:Pos}{Q:Value→Shared→Prop}(I:Inv X pins σ H s)(hg:Gl X x)(hm:X.mg x=some u)(h:Q u s)
 (hd:(x==("__debug__" :Str))=false:=by decide):wpAny (model X.prog X.w) X.A (eval (.Name x pos) X.env) Q E s:=
 Calls.Name_function_global I.ok.kind hg (Calls.loadGlobal_global (by rw[I.ok.glob];exact I.mod.glob.keeps I.bk) hm h) hd
theorem oS{E:Value→Shared→Prop}{pins:aL}{s:Shared}{σ:St}{H:Hp}{x:Str}{u:Value}{pos:Pos}{Q:Value→Shared→Prop}(I:Inv X pins σ H s)(hg:Gl X x)(hm:X.mg x=none)(hv:bootBuiltins x=some u)(h:Q u s)
 (hn:x≠ "__name__":=by decide) (hd:(x==("__debug__" :Str))=false:=by decide):wpAny (model X.prog X.w) X.A (eval (.Name x pos) X.env) Q E s:=by
 obtain⟨mb,h1,h2⟩:=I.mod.blt;exact Calls.Name_function_global I.ok.kind hg (Calls.loadGlobal_builtin (by rw[I.ok.glob];exact I.mod.glob.keeps I.bk) hm (by rw[I.ok.blt];exact h1.keeps I.bk) ((h2 x hn).trans hv) h) hd
theorem n9{x:Str}{v:V}{u:Value}{pos:Pos}(hg:Gl X x)(hm:X.mg x=some u)(r:RelV v u)(hd:(x==("__debug__" :Str))=false:=by decide):PE X (.Name x pos) (tC v):=
 fun _ _ _ H _ I h=>nE I hg hm ⟨v,H,I,r,h⟩ hd
theorem tQ{x:Str}{v:V}{u:Value}{pos:Pos}(hg:Gl X x)(hm:X.mg x=none)(hv:bootBuiltins x=some u)(r:RelV v u)(hn:x≠ "__name__":=by decide)(hd:(x==("__debug__" :Str))=false:=by decide):PE X (.Name x pos) (tC v):=
 fun _ _ _ H _ I h=>oS I hg hm hv ⟨v,H,I,r,h⟩ hn hd
variable{a b:Expr}{ta tb:TE}{pos:Pos}
def PC(X:Cx)(op:CmpOp)(a b:Expr)(t:TE):Prop:=
 ∀(pins:aL) (s:Shared) (σ:St) (H:Hp) (Q:VK),Inv X pins σ H s→t σ H Q→
  wpAny (model X.prog X.w) X.A (eval a X.env) (fun v bE=>wpAny (model X.prog X.w) X.A (eval b X.env) (fun u pY=>wpAny (model X.prog X.w) X.A (compareOp op v u) (EP X pins σ Q) X.xe pY) X.xe bE) X.xe s
theorem CH(b:Expr){op:CmpOp}(h:op≠.In)(h2:op≠.NotIn):behindInMarks op b=false:=by
 have e1:(op==CmpOp.In)=false:=by cases op<;>first|rfl|exact absurd rfl h
 have e2:(op==CmpOp.NotIn)=false:=by cases op<;>first|rfl|exact absurd rfl h2
 cases b<;>simp[behindInMarks,e1,e2]
def tB(t:TE):TT:=fun σ H Q=>t σ H fun x H1=>∃c,x= .bl c∧Q c H1
theorem LI{op:CmpOp}{t:TE}(h:PC X op a b t)(h1:behindInMarks op b=false:=by first|exact CH _ (by decide) (by decide)|rfl):PE X (.Compare a [op] [b] pos) t:=fun pins s σ H Q I hw=>wpAny_Compare1 (h pins s σ H Q I hw) h1
theorem af9{op:CmpOp}{t:TE}(h:PC X op a b t)(h1:behindInMarks op b=false:=by first|exact CH _ (by decide) (by decide)|rfl):PT X (.Compare a [op] [b] pos) (tB t):=by
 intro pins s σ H Q I hw;refine wpAny_isTrue_Compare1 (ck (h pins s σ H _ I hw) fun v s1 h1=>ck h1 fun u s2 h2=>ck h2 fun c s3 ⟨x,H1,I1,r1,q1⟩=> ?_) h1;obtain⟨d,rfl,q⟩:=q1;cases r1;exact wpAny_truthy_bool ⟨H1,I1,q⟩
theorem eY{e:Expr}{t:TE}(h:PE X e t)(he:∀whole,isTrue e X.env whole=(do let v←whole;standAt e.pos;holding [v] (truthy v)):=by intro _;rfl):PT X e (tB t):=by
 intro pins s σ H Q I hw;refine isTrue_plain (ck (h pins s σ H _ I hw) fun v s1 ⟨x,H1,I1,r1,q1⟩=> ?_) (he _);obtain⟨d,rfl,q⟩:=q1;cases r1;exact wpAny_truthy_bool ⟨H1,I1,q⟩
variable{tA tB' :TT}{rest:cQ}
def apn(t u:TT):TT:=fun σ H Q=>t σ H fun c H1=>if c=true then u σ H1 Q else Q false H1
def tOr(t u:TT):TT:=fun σ H Q=>t σ H fun c H1=>if c=true then Q true H1 else u σ H1 Q
def aoO(t:TT):TT:=fun σ H Q=>t σ H fun c H1=>Q (!c) H1
theorem Wp(ha:PT X a tA):PW X (.BoolOp .And [a] pos) tA:=by
 intro wh pins s σ H Q I h;refine isTrue_and (ck (ha pins s σ H Q I h) fun c s1 e=> ?_)
 cases c with
 |true=>exact isTrue_and_nil e
 |false=>exact e
theorem jag(ha:PT X a tA):PW X (.BoolOp .Or [a] pos) tA:=by
 intro wh pins s σ H Q I h;refine isTrue_or (ck (ha pins s σ H Q I h) fun c s1 e=> ?_)
 cases c with
 |false=>exact isTrue_or_nil e
 |true=>exact e
theorem jaa(ha:PT X a tA)(hb:PW X (.BoolOp .And (b::rest) pos) tB'):PW X (.BoolOp .And (a::b::rest) pos) (apn tA tB'):=by
 intro wh pins s σ H Q I h;refine isTrue_and (ck (ha pins s σ H _ I h) fun c s1 ⟨H1,I1,q1⟩=> ?_)
 cases c with
 |true=>exact hb wh pins s1 σ H1 Q I1 q1
 |false=>exact⟨H1,I1,q1⟩
theorem jak(ha:PT X a tA)(hb:PW X (.BoolOp .Or (b::rest) pos) tB'):PW X (.BoolOp .Or (a::b::rest) pos) (tOr tA tB'):=by
 intro wh pins s σ H Q I h;refine isTrue_or (ck (ha pins s σ H _ I h) fun c s1 ⟨H1,I1,q1⟩=> ?_)
 cases c with
 |true=>exact⟨H1,I1,q1⟩
 |false=>exact hb wh pins s1 σ H1 Q I1 q1
theorem fH(ha:PT X a tA):PT X (.UnaryOp .Not a pos) (aoO tA):=by
 intro pins s σ H Q I h;exact isTrue_not (ha pins s σ H (fun c H1=>Q (!c) H1) I h)
def acH(ta tb:TE):TE:=fun σ H Q=>ta σ H fun x H1=>∃c,x= .bl c∧if c=true then tb σ H1 Q else Q (.bl false) H1
def ane(ta tb:TE):TE:=fun σ H Q=>ta σ H fun x H1=>∃c,x= .bl c∧if c=true then Q (.bl true) H1 else tb σ H1 Q
def abG(ta:TE):TE:=fun σ H Q=>ta σ H fun x H1=>∃c,x= .bl c∧Q (.bl (!c)) H1
theorem lW{op}{t:TE}(h:PE X a t):PE X (.BoolOp op [a] pos) t:=fun pins s σ H Q I hw=>BoolOp_one (h pins s σ H Q I hw)
theorem oJ(ha:PE X a ta)(hb:PE X (.BoolOp .And (b::rest) pos) tb):PE X (.BoolOp .And (a::b::rest) pos) (acH ta tb):=by
 intro pins s σ H Q I h;refine BoolOp_and (ck (ha pins s σ H _ I h) fun v s1 ⟨x,H1,I1,r1,q1⟩=> ?_);obtain⟨c,rfl,q1⟩:=q1;cases r1;refine wpAny_truthy_bool ?_
 cases c with
 |true=>exact hb pins s1 σ H1 Q I1 q1
 |false=>exact⟨.bl false,H1,I1,rfl,q1⟩
theorem Gz(ha:PE X a ta)(hb:PE X (.BoolOp .Or (b::rest) pos) tb):PE X (.BoolOp .Or (a::b::rest) pos) (ane ta tb):=by
 intro pins s σ H Q I h;refine BoolOp_or (ck (ha pins s σ H _ I h) fun v s1 ⟨x,H1,I1,r1,q1⟩=> ?_);obtain⟨c,rfl,q1⟩:=q1;cases r1;refine wpAny_truthy_bool ?_
 cases c with
 |false=>exact hb pins s1 σ H1 Q I1 q1
 |true=>exact⟨.bl true,H1,I1,rfl,q1⟩
theorem Nd(ha:PE X a ta):PE X (.UnaryOp .Not a pos) (abG ta):=by
 intro pins s σ H Q I h;refine UnaryOp_ (ck (ha pins s σ H _ I h) fun v s1 ⟨x,H1,I1,r1,q1⟩=> ?_);obtain⟨c,rfl,q1⟩:=q1;cases r1;exact not_of (wpAny_truthy_bool ⟨.bl (!c),H1,I1,rfl,q1⟩)
end
def bA(K:Frag)(H:Hp)(a:Addr)(xs:az):Prop:=
 Rd H a (.lst xs)∨
  ∃(o:Obj) (its:Array Value) (n:Nat),K.lookup a=some o∧o.cls= .type "list" ∧o.dict=none∧o.data= .seq its n∧its.size≤sizeLine∧Vals xs its.toList
def qS(K:Frag)(H:Hp)(a:Addr)(xs:az):Prop:=
 Rd H a (.tup xs)∨
  ∃(o:Obj) (its:Array Value) (n:Nat),K.lookup a=some o∧o.cls= .type "tuple" ∧o.data= .seq its n∧its.size≤sizeLine∧Vals xs its.toList
def aeh:Value→Option V
 | .none=>some .bH
 | .bool b=>some (.bl b)
 | .int i _=>some (.int i)
 | .str x _=>some (.str x)
 | .bytes b _=>some (.Iq b)
 | .float b _=>some (.WA b)
 | .ref a=>some (.ref a)
 | .type n=>some (.ty n)
 |_=>none
theorem RelV.abs{x:V}{u:Value}(r:RelV x u):aeh u=some x:=by
 cases x with
 |bH=>cases r;rfl
 |bl _=>cases r;rfl
 |int _=>obtain⟨t,rfl⟩:=r;rfl
 |str _=>obtain⟨t,rfl⟩:=r;rfl
 |Iq _=>obtain⟨t,rfl⟩:=r;rfl
 |WA _=>obtain⟨t,rfl⟩:=r;rfl
 |ref _=>cases r;rfl
 |ty _=>cases r;rfl
theorem RelV.inj{x y:V}{u:Value}(r:RelV x u)(q:RelV y u):x=y:=Option.some.inj (r.abs.symm.trans q.abs)
theorem Vals.inj:∀{xs ys:az} {us:aA},Vals xs us→Vals ys us→xs=ys
 |_,_,_,.nil,.nil=>rfl
 |_,_,_,.cons r t,.cons r' t' =>by rw[r.inj r',Vals.inj t t']
section
variable{X:Cx}{pins:aL}{σ:St}{H:Hp}{s:Shared}{a:Addr}{xs ys:az}
theorem bA.of{K:Frag}(h:H a=some (.lst xs)):bA K H a xs:= .inl (.inl h)
theorem qS.of{K:Frag}(h:H a=some (.tup xs)):qS K H a xs:= .inl (.inl h)
theorem Inv.list(I:Inv X pins σ H s)(h:bA X.K H a xs):∃its:aA,Vals xs its∧PlainL s.heap a its.toArray∧xs.length≤sizeLine:=by
 rcases h with h|⟨o,its,n,hk,hc,hd,hs,hz,r⟩
 ·obtain⟨z,its,n,r,e⟩:=h.ok I.bC;exact⟨its,r,⟨_,n,e,rfl,rfl,rfl⟩,z⟩
 ·refine⟨its.toList,r,⟨o,n,I.lA a o hk,hc,hd,by simpa using hs⟩,?_⟩;have e:=r.length;simp only[Array.length_toList] at e
  lia
theorem Inv.tuple(I:Inv X pins σ H s)(h:qS X.K H a xs):∃its:aA,Vals xs its∧IsTup s.heap a its.toArray∧xs.length≤sizeLine:=by
 rcases h with h|⟨o,its,n,hk,hc,hs,hz,r⟩
 ·obtain⟨z,its,r,p⟩:=h.ok I.bC;exact⟨its,r,p,z⟩
 ·refine⟨its.toList,r,⟨o,I.lA a o hk,hc,n,by simpa using hs⟩,?_⟩;have e:=r.length;simp only[Array.length_toList] at e
  lia
theorem Inv.wD(I:Inv X pins σ H s)(h:bA X.K H a xs)(h' :bA X.K H a ys):xs=ys:=by
 obtain⟨its,r,⟨o,n,e,_,_,d⟩,_⟩:=I.list h;obtain⟨its',r',⟨o',n',e',_,_,d'⟩,_⟩:=I.list h';rw[e] at e';cases e'
 rw[d] at d';injection d' with d1 _;have:its=its' :=by simpa using congrArg Array.toList d1
 subst this;exact r.inj r'
end
abbrev Cx.v7(X:Cx)(E:Value→Shared→Prop):Cx:={X with xe:=E}
abbrev Cx.TU(X:Cx):Cx:=X.v7 fun _ _=>False
theorem Cx.Ok.v7{X:Cx}(ok:X.Ok)(E:Value→Shared→Prop):(X.v7 E).Ok:=
 ⟨ok.mod,ok.kind,ok.glob,ok.blt,ok.above,ok.inj,ok.has,ok.Wh,ok.hd,ok.frames,ok.WR,ok.exf,ok.bs,ok.GX,ok.E9,ok.Ie,ok.se,ok.NR⟩
theorem Cx.Ok.mf{X:Cx}{E:Value→Shared→Prop}(ok:(X.v7 E).Ok):X.Ok:=
 ⟨ok.mod,ok.kind,ok.glob,ok.blt,ok.above,ok.inj,ok.has,ok.Wh,ok.hd,ok.frames,ok.WR,ok.exf,ok.bs,ok.GX,ok.E9,ok.Ie,ok.se,ok.NR⟩
section
variable{X:Cx}{pins:aL}{σ:St}{H:Hp}{s:Shared}{E:Value→Shared→Prop}
theorem Inv.v7(I:Inv X pins σ H s)(E:Value→Shared→Prop):Inv (X.v7 E) pins σ H s:=⟨I.ok.v7 E,I.os,I.bare,I.base,I.loc,I.cell,I.free,I.jk,I.pin,I.bC,I.len⟩
theorem Inv.mf(I:Inv (X.v7 E) pins σ H s):Inv X pins σ H s:=⟨I.ok.mf,I.os,I.bare,I.base,I.loc,I.cell,I.free,I.jk,I.pin,I.bC,I.len⟩
theorem SP.mf{D:Ends}{f:Flow}{s' :Shared}(h:SP (X.v7 E) pins D f s'):SP X pins D f s' :=by
 cases f with
 |next=>obtain⟨cI,H',I,q⟩:=h;exact⟨cI,H',I.mf,q⟩
 |brk=>obtain⟨cI,H',I,q⟩:=h;exact⟨cI,H',I.mf,q⟩
 |cont=>obtain⟨cI,H',I,q⟩:=h;exact⟨cI,H',I.mf,q⟩
 |ret u=>obtain⟨v,cI,H',I,r,q⟩:=h;exact⟨v,cI,H',I.mf,r,q⟩
theorem PE.TU{e:Expr}{t:TE}(h:PE X.TU e t):PE X e t:=fun pins s σ H Q I hw=>
 wpAny_mono (h pins s σ H Q (I.v7 _) hw) (fun _ _ ⟨v,H',I',r,q⟩=>⟨v,H',I'.mf,r,q⟩) fun _ _ z=>False.elim z
theorem PT.TU{e:Expr}{t:TT}(h:PT X.TU e t):PT X e t:=fun pins s σ H Q I hw=>
 wpAny_mono (h pins s σ H Q (I.v7 _) hw) (fun _ _ ⟨H',I',q⟩=>⟨H',I'.mf,q⟩) fun _ _ z=>False.elim z
theorem zr.TU{st:List Stmt}{t:TS}(h:zr X.TU st t):zr X st t:=fun pins s σ H D I hw=>
 wpAny_mono (h pins s σ H D (I.v7 _) hw) (fun _ _ q=>q.mf) fun _ _ z=>False.elim z
end
section
variable{X:Cx}{st:Stmt}{rest:List Stmt}{t u:TS}{e:Expr}{te:TE}{pos:Pos}
def YM:TS:=fun D σ H=>D.nx σ H
def ant(t u:TS):TS:=fun D σ H=>t {D with nx:=u D} σ H
theorem bp:zr X [] YM:=fun _ _ σ H _ I h=>wpAny_execs_nil ⟨σ,H,I,h⟩
theorem ak(h1:PS X st t)(h2:zr X rest u):zr X (st::rest) (ant t u):=by
 intro pins s σ H D I h;refine wpAny_execs_cons (ck (h1 pins s σ H {D with nx:=u D} I h) fun f s1 q=> ?_)
 cases f with
 |next=>
  obtain⟨cI,H',I',q⟩:=q;exact h2 pins s1 cI H' D I' q
 |ret v=>exact q
 |brk=>exact q
 |cont=>exact q
theorem aq(h1:PS X st t):zr X [st] t:=by
 intro pins s σ H D I h;refine wpAny_execs_cons (ck (h1 pins s σ H D I h) fun f s1 q=> ?_)
 cases f with
 |next=>exact wpAny_execs_nil q
 |ret v=>exact q
 |brk=>exact q
 |cont=>exact q
theorem Inv.quiet{pins:aL}{σ:St}{H:Hp}{s:Shared}(I:Inv X pins σ H s):interactive X.env=false:=by simp[interactive,I.ok.kind]
def Zq(te:TE):TS:=fun D σ H=>te σ H fun _ H1=>D.nx σ H1
theorem aZ(he:PE X e te)(hs:swapsWith e none pos.line X.env=pure false:=by rfl):PS X (.Expr e pos) (Zq te):=by
 intro pins s σ H D I h;exact wpAny_Expr_any (ck (he pins s σ H _ I h) fun v s1 ⟨x,H1,I1,r1,q1⟩=>⟨σ,H1,I1,q1⟩) I.quiet hs
def aks(te:TE):TS:=fun D σ H=>te σ H D.rt
theorem aG(he:PE X e te):PS X (.Return (some e) pos) (aks te):=by
 intro pins s σ H D I h;exact wpAny_Return_some (ck (he pins s σ H _ I h) fun v s1 ⟨x,H1,I1,r1,q1⟩=>⟨x,σ,H1,I1,r1,q1⟩)
def akK(c:TT)(t u:TS):TS:=fun D σ H=>c σ H fun b H1=>if b=true then t D σ H1 else u D σ H1
theorem cg{c:Expr}{a b:List Stmt}{tc:TT}(hc:PT X c tc)(ha:zr X a t)(hb:zr X b u):PS X (.If c a b pos) (akK tc t u):=by
 intro pins s σ H D I h;refine wpAny_If (ck (hc pins s σ H _ I h) fun d s1 ⟨H1,I1,q1⟩=> ?_)
 cases d with
 |true=>exact ha pins s1 σ H1 D I1 q1
 |false=>exact hb pins s1 σ H1 D I1 q1
def L6:TS:=fun _ _ _=>False
theorem eT:PS X st L6:=fun _ _ _ _ _ _ h=>h.elim
theorem zV{Vg:List Stmt}:zr X Vg L6:=fun _ _ _ _ _ _ h=>h.elim
end
abbrev TG:=V→St→Hp→(St→Hp→Prop)→Prop
abbrev Rc:=az→St→Hp→(St→Hp→Prop)→Prop
def PG(X:Cx)(target:Expr)(t:TG):Prop:=
 ∀(pins:aL) (s:Shared) (σ:St) (H:Hp) (v:V) (u:Value) (Q:St→Hp→Prop),Inv X pins σ H s→RelV v u→t v σ H Q→
  wpAny (model X.prog X.w) X.A (assign target X.env u) (fun _ s' =>∃cI H',Inv X pins cI H' s'∧Q cI H') X.xe s
def ZN(X:Cx)(ts:cQ)(t:Rc):Prop:=
 ∀(pins:aL) (s:Shared) (σ:St) (H:Hp) (vs:az) (us:aA) (Q:St→Hp→Prop),Inv X pins σ H s→Vals vs us→t vs σ H Q→
  wpAny (model X.prog X.w) X.A (assignInOrder ((assignEach ts X.env).map (·.2)) us) (fun _ s' =>∃cI H',Inv X pins cI H' s'∧Q cI H') X.xe s
abbrev U5:=V→V→V→Hp→(Hp→Prop)→Prop
def XJ(X:Cx)(t:U5):Prop:=
 ∀(pins:aL) (s:Shared) (σ:St) (H:Hp) (o i v:V) (ov iv u:Value) (Q:Hp→Prop),Inv X pins σ H s→RelV o ov→RelV i iv→RelV v u→t o i v H Q→
  wpAny (model X.prog X.w) X.A (setItem ov iv u) (fun _ s' =>∃H',Inv X pins σ H' s'∧Q H') X.xe s
section
variable{X:Cx}{pos:Pos}
def K1(i:Nat):TG:=fun v σ H Q=>Q (σ.set i (some v)) H
theorem bc{i:Nat}{x:Str}(hN:X.N.Nodup)(hi:X.N[i]? =some x)(hx:Loc X.env.scope x)(hf:X.fn x=true∨X.env.scope.names.lookup x=some .local:=by first|exact .inl rfl|exact .inr rfl|assumption):PG X (.Name x pos) (K1 i):=by
 intro pins s σ H v u Q I r h;exact wpAny_assign_Name (sU I hN hi hx r (fun s' I' =>⟨_,H,I',h⟩) hf)
def ahV:Rc:=fun vs σ H Q=>vs=[]∧Q σ H
def aaM(t:TG)(u:Rc):Rc:=fun vs σ H Q=>∃v r,vs=v::r∧t v σ H fun cI H' =>u r cI H' Q
theorem wb:ZN X [] ahV:=by
 intro pins s σ H vs us Q I r h;obtain⟨e,h⟩:=h;subst e;cases r;exact assignInOrder_nil ⟨σ,H,I,h⟩
theorem jc{e:Expr}{es:cQ}{t:TG}{u:Rc}(h1:PG X e t)(h2:ZN X es u)
 (hs:(assignEach (e::es) X.env).map (·.2)=assign e X.env::(assignEach es X.env).map (·.2):=by rfl):ZN X (e::es) (aaM t u):=by
 intro pins s σ H vs us Q I r h;obtain⟨v,vr,e1,h⟩:=h;subst e1
 cases r with
 |cons r rr=>
  rw[hs];refine assignInOrder_cons (ck (h1 pins s σ H _ _ _ I r h) fun _ s1 ⟨Xf,H1,I1,q1⟩=> ?_);exact h2 pins s1 Xf H1 _ _ Q I1 rr q1
def abt(K:Frag)(n:Nat)(t:Rc):TG:=fun v σ H Q=>∃a xs,v= .ref a∧qS K H a xs∧xs.length=n∧t xs σ H Q
theorem Jp{es:cQ}{k:Nat}{t:Rc}{n:Nat}(hc:X.calm=true)(h:ZN X es t)
 (hn:(assignEach es X.env).length=n:=by rfl) (fE:(assignEach es X.env).findIdx? (·.1)=none:=by rfl):PG X (.Tuple es k pos) (abt X.K n t):=by
 intro pins s σ H v u Q I r hw;obtain⟨a,xs,e1,hq,hl,hw⟩:=hw;subst e1;cases r;obtain⟨its,rv,ht,hz⟩:=I.tuple hq;refine assign_Tuple_tuple (I.ok.hd hc) ht (by simp[hn,←hl,rv.length]) fE fun h' hx=> ?_;have I1:Inv X pins σ H {s with heap:=h'}:=I.kept (t' :=s.toks) fun b o e=>hx b o (Nat.ne_of_lt (Heap.lt_size e)) e;exact h pins _ σ H xs _ Q I1 (by simpa using rv) hw
def alP(to ti:TE)(t:U5):TG:=fun v σ H Q=>to σ H fun o H1=>ti σ H1 fun i H2=>t o i v H2 fun H3=>Q σ H3
theorem nB{o i:Expr}{to ti:TE}{t:U5}(ho:PE X o to)(hi:PE X i ti)(hs:XJ X t)
 (ha:∀v,assign (.Subscript o i pos) X.env v=(do
  let ov←holding [v] (eval o X.env)
  let iv←holding [v,ov] (eval i X.env)
  standAt pos
  holding [v,ov,iv] (setItem ov iv v)
  release [v,ov,iv] []):=by intro _;rfl):PG X (.Subscript o i pos) (alP to ti t):=by
 intro pins s σ H v u Q I r h;rw[ha];refine wpAny_bind (wpAny_holding (ck (ho pins s σ H _ I h) fun ov s1 ⟨x,H1,I1,r1,q1⟩=> ?_));refine wpAny_bind (wpAny_holding (ck (hi pins s1 σ H1 _ I1 q1) fun iv s2 ⟨y,H2,I2,r2,q2⟩=> ?_));refine wpAny_bind (wpAny_standAt (wpAny_bind (wpAny_holding (ck (hs pins s2 σ H2 x y v ov iv u _ I2 r1 r2 r q2) fun _ s3 ⟨H3,I3,q3⟩=> ?_))));exact wpAny_release ⟨σ,H3,I3,q3⟩
def Vs(te:TE)(g:TG):TS:=fun D σ H=>te σ H fun x H1=>g x σ H1 D.nx
theorem ph{tg e:Expr}{te:TE}{g:TG}(he:PE X e te)(hg:PG X tg g)(hs:swapsWithSole [tg] e pos.line X.env=pure false:=by rfl)(hw:swappedStores [tg] e X.env=pure none:=by rfl)
 (h1:(assignEach [tg] X.env).map (·.2)=[assign tg X.env]:=by rfl):PS X (.Assign [tg] e pos) (Vs te g):=by
 intro pins s σ H D I h;refine wpAny_Assign_stores (ck (he pins s σ H _ I h) fun v s1 ⟨x,H1,I1,r1,q1⟩=> ?_) hs hw;rw[h1];exact ck (hg pins s1 σ H1 x v _ I1 r1 q1) fun _ s2 q=>q
theorem a_{i:Nat}{x:Str}{e:Expr}{te:TE}{pos' :Pos}(hN:X.N.Nodup)(hi:X.N[i]? =some x)(hx:Loc X.env.scope x)(he:PE X e te)(hs:swapsWith e (some (.Name x pos')) pos.line X.env=pure false:=by rfl)(hf:X.fn x=true∨X.env.scope.names.lookup x=some .local:=by first|exact .inl rfl|exact .inr rfl|assumption):
 PS X (.Assign [.Name x pos'] e pos) (Vs te (K1 i)):=by
 intro pins s σ H D I h;refine wpAny_Assign_Name (ck (he pins s σ H _ I h) fun v s1 ⟨y,H1,I1,r1,q1⟩=> ?_) hs;exact sU I1 hN hi hx r1 (fun s2 I2=>⟨_,H1,I2,q1⟩) hf
end
section
variable{X:Cx}{pos:Pos}
def Ux(c:TT)(tb:TS):TS:=fun D σ H=>∃W:Nat→St→Hp→Prop,(∃m,W m σ H)∧∀m σ H,W m σ H→
 c σ H fun b H1=>if b=true then ∃N:St→Hp→Prop,(∀cI H',N cI H'→∃m',m' <m∧W m' cI H')∧tb {D with nx:=N,ct:=N,bk:=D.nx} σ H1 else D.nx σ H1
theorem CO{c:Expr}{body:List Stmt}{tc:TT}{tb:TS}(hp:PassesOwn (model X.prog X.w) X.A X.env X.xe)(hc:PT X c tc)(hb:zr X body tb):PS X (.While c body [] pos) (Ux tc tb):=by
 intro pins s σ H D I h;obtain⟨W,⟨m0,w0⟩,turn⟩:=h;refine wpAny_While (codeAny_whileLoop (fun n s' =>∃cI H',Inv X pins cI H' s'∧W n cI H') ?_ m0 ⟨σ,H,I,w0⟩)
 rintro n s1 ⟨Xf,H1,I1,w1⟩
 refine wpAny_passesOwn hp (ck (hc pins s1 Xf H1 _ I1 (turn n Xf H1 w1)) fun b s2 ⟨H2,I2,q2⟩=> ?_)
 cases b with
 |true=>
  obtain⟨N,hN,q2⟩:=q2;rw[if_pos rfl];refine wpAny_passesOwn hp (ck (hb pins s2 Xf H2 _ I2 q2) fun f s3 q3=> ?_)
  cases f with
  |next=>
   obtain⟨JF,H3,I3,n3⟩:=q3;obtain⟨m',hm,w3⟩:=hN JF H3 n3;exact⟨m',hm,JF,H3,I3,w3⟩
  |cont=>
   obtain⟨JF,H3,I3,n3⟩:=q3;obtain⟨m',hm,w3⟩:=hN JF H3 n3;exact⟨m',hm,JF,H3,I3,w3⟩
  |brk=>exact q3
  |ret v=>exact q3
 |false=>
  rw[if_neg Bool.false_ne_true];exact wpAny_execs_nil ⟨Xf,H2,I2,q2⟩
end
structure It where
 go:Nat→Hp→Prop
 wy:Nat→Hp→V→Hp→Prop
 stop:Nat→Hp→Prop
def uH(X:Cx)(pins:aL)(H:Hp)(b:Addr):Prop:=
 H b=none∧b≠X.env.locals∧b∉X.fs∧(b∈X.ex∨X.fM.heap.objs.size≤b)∧(∀x c,X.env.cells.lookup x=some c→c≠b)∧∀p∈X.pn++pins,p.1≠b
theorem Inv.BP{X:Cx}{pins:aL}{σ:St}{H H' :Hp}{s:Shared}{b:Addr}(I:Inv X pins σ H s)(hb:s.heap.objs.size≤b)(hn:H' b=none):uH X pins H' b:=by
 refine⟨hn,Nat.ne_of_gt (Nat.lt_of_lt_of_le I.lt hb),I.amr hb,.inr (Nat.le_trans I.sz hb),fun x c e z=> ?_,fun p hp z=> ?_⟩
 ·obtain⟨v,q⟩:=I.cell x c e;exact absurd (Nat.lt_of_lt_of_le q.lt (by rw[z];exact hb)) (Nat.lt_irrefl _)
 ·exact absurd (Nat.lt_of_lt_of_le (Heap.lt_size (I.pin p hp).1) (by rw[z];exact hb)) (Nat.lt_irrefl _)
structure Turn(P:Program)(w:World)(K:Frag)(tg:Expr)(J:It)(fp:aY)(it:Addr)(tn:Nat→Heap→Prop):Prop where
 mem:it∈fp
 obj:∀i h,tn i h→∀b∈fp,∃o,h.get? b=some o∧∀v,o.data≠.cell v
 keep:∀i h h',tn i h→(∀b∈fp,∀o,h.get? b=some o→h'.get? b=some o)→tn i h'
 item:∀(X:Cx),X.prog=P→X.w=w→X.K=K→X.calm=true→∀(i:Nat) (pins:aL) (s:Shared) (σ:St) (H:Hp) (E:Value→Shared→Prop),Inv X pins σ H s→(∀b∈fp,uH X pins H b)→tn i s.heap→J.go i H→
  wpAny (model P w) X.A (pyNext (.ref it)) (fun r s1=>∃u,r=some u∧
   wpAny (model P w) X.A (letOwnedTupleGo tg (.ref it) u) (fun _ s2=>∃x H',Inv X pins σ H' s2∧RelV x u∧J.wy i H x H'∧tn (i+1) s2.heap∧∀b∈fp,H' b=none) E s1) E s
 done:∀(X:Cx),X.prog=P→X.w=w→X.K=K→X.calm=true→∀(i:Nat) (pins:aL) (s:Shared) (σ:St) (H:Hp) (E:Value→Shared→Prop),Inv X pins σ H s→(∀b∈fp,uH X pins H b)→tn i s.heap→J.stop i H→
  wpAny (model P w) X.A (pyNext (.ref it)) (fun r s1=>r=none∧Inv X pins σ H s1) E s
 self:∀(A:Around) (i:Nat) (s:Shared) (Q:Value→Shared→Prop) (E:Value→Shared→Prop),tn i s.heap→Q (.ref it) s→wpAny (model P w) A (pyIter (.ref it)) Q E s
abbrev TI:=St→Hp→(It→Hp→Prop)→Prop
def PIE(X:Cx)(pins:aL)(σ:St)(tg:Expr)(R:It→Hp→Prop)(itv:Value)(s2:Shared):Prop:=
 ∃(it:Addr) (fp:aY) (tn:Nat→Heap→Prop) (J:It) (H' :Hp),itv= .ref it∧Inv X pins σ H' s2∧Turn X.prog X.w X.K tg J fp it tn∧tn 0 s2.heap∧(∀b∈fp,uH X pins H' b)∧R J H'
def PI(X:Cx)(tg iter:Expr)(wi:TI):Prop:=
 ∀(pins:aL) (s:Shared) (σ:St) (H:Hp) (R:It→Hp→Prop),Inv X pins σ H s→wi σ H R→
  wpAny (model X.prog X.w) X.A (eval iter X.env) (fun v s1=>wpAny (model X.prog X.w) X.A (pyIter v) (PIE X pins σ tg R) X.xe s1) X.xe s
theorem Fm{M:Model}{A:Around}{E:Value→Shared→Prop}{s:Shared}{tg:Expr}{it:Addr}{u:Value}{o:Obj}{n:String}{vs:Array Value}{Q:Unit→Shared→Prop}(ho:s.heap.get? it=some o)(hc:o.cls= .type n)(hd:o.data= .fields vs)
 (hn:["enumerate","zip","dict_itemiterator","dict_reverseitemiterator","odict_iterator","itertools.zip_longest","itertools.pairwise"].contains n=false) (hQ:Q () s):wpAny M A (letOwnedTupleGo tg (.ref it) u) Q E s:=by
 unfold letOwnedTupleGo
 cases tg<;>first
  |exact wpAny_pure hQ
  |(cases u<;>first
   |exact wpAny_pure hQ
   |(refine wpAny_bind (wpAny_load ho ?_)
     rw[hc,hd];show wpAny M A (if(["enumerate","zip","dict_itemiterator","dict_reverseitemiterator","odict_iterator","itertools.zip_longest","itertools.pairwise"].contains n&&vs[0]? ==some (rawInt _))=true then _ else _) Q E s;rw[if_neg (by intro h;rw[hn,Bool.false_and] at h;cases h)];exact wpAny_pure hQ))
def W8(K:Frag)(a:Addr):It:=
 ⟨fun i H=>∃xs x,bA K H a xs∧xs[i]? =some x,fun i H x H' =>H' =H∧∀xs,bA K H a xs→xs[i]? =some x,fun i H=>∃xs,bA K H a xs∧xs.length≤i⟩
def Tw(lo:Int)(n:Nat):It:=⟨fun i _=>i<n,fun i H x H' =>H' =H∧x= .int (lo+i),fun i _=>n≤i⟩
theorem HF{P:Program}{w:World}{K:Frag}{tg:Expr}(a it:Addr):Turn P w K tg (W8 K a) [it] it (fun i h=>h.IsListIter it a i) where
 mem:=by simp
 obj:=fun i h st b hb=>by
  have e:b=it:=by simpa using hb
  subst e;obtain⟨o,e,c,d⟩:=st;exact⟨o,e,fun v z=>by rw[d] at z;cases z⟩
 keep:=fun i h h' st k=>st.at fun o e=>k it (by simp) o e
 item:=by
  intro X hP hw hK hc i pins s σ H E I hf st hg;subst hP hw hK;obtain⟨xs,x,hq,hx⟩:=hg;obtain⟨its,rv,p,hz⟩:=I.list hq;obtain⟨u,hu,ru⟩:=rv.get hx;obtain⟨f0,f1,f2,f3,f4,f5⟩:=hf it (by simp);refine wpAny_pyNext_list_item st p.isList (x:=u) (by simpa using hu) fun h' Px sb=> ?_;have I1:Inv X pins σ H {s with heap:=h'}:=I.turned (t' :=s.toks) (fun b o hb e=>(sb.2 b hb).trans e) f0 f1 f3 f4 f5;obtain⟨o,e,c,d⟩:=id Px;exact⟨u,rfl,Fm (s:={s with heap:=h'}) e c d (by decide) ⟨x,H,I1,ru,⟨rfl,fun ys hy=>by rw[I.wD hy hq];exact hx⟩,Px,fun b hb=>(hf b hb).1⟩⟩
 done:=by
  intro X hP hw hK hc i pins s σ H E I hf st hg;subst hP hw hK;obtain⟨xs,hq,hx⟩:=hg;obtain⟨its,rv,p,hz⟩:=I.list hq;obtain⟨f0,f1,f2,f3,f4,f5⟩:=hf it (by simp);have hl:=rv.length;exact wpAny_pyNext_list_end (I.ok.hd hc) st p.isList (by simp;lia) fun h' eb=>⟨rfl,I.turned (t' :=s.toks) (fun b o hb e=>eb b o hb e) f0 f1 f3 f4 f5⟩
 self:=fun _ _ _ _ _ st h=>wpAny_pyIter_listiter st h
theorem E4{P:Program}{w:World}{K:Frag}{tg:Expr}(it:Addr)(lo:Int)(n:Nat):Turn P w K tg (Tw lo n) [it] it (fun i h=>IsRangeIter h it (lo+(i:Nat)*1) ((n:Int) - (i:Nat)) 1) where
 mem:=by simp
 obj:=fun i h st b hb=>by
  have e:b=it:=by simpa using hb
  subst e
  exact⟨_,st,fun v z=>by
   have z' :Data.fields _=Data.cell v:=z;cases z'⟩
 keep:=fun i h h' st k=>k it (by simp) _ st
 item:=by
  intro X hP hw hK hc i pins s σ H E I hf st hg;subst hP hw hK;obtain⟨f0,f1,f2,f3,f4,f5⟩:=hf it (by simp);have W:=Walks.range (prog:=X.prog) (w:=X.w) (I.ok.hd hc) it lo 1 n;refine W.item i s _ _ hg st fun v h' tk hv Px kk=> ?_;obtain⟨t,rfl⟩:=hv;have I1:Inv X pins σ H {s with heap:=h',toks:=tk}:=I.turned (fun b o hb e=>kk b o (by simpa using hb) e) f0 f1 f3 f4 f5;refine⟨_,rfl,Fm (s:={s with heap:=h',toks:=tk}) (n:="range_iterator") Px rfl rfl (by decide) ⟨.int (lo+i),H,I1,⟨t,?_⟩,⟨rfl,rfl⟩,Px,fun b hb=>(hf b hb).1⟩⟩;rw[Int.mul_one]
 done:=by
  intro X hP hw hK hc i pins s σ H E I hf st hg;subst hP hw hK;obtain⟨f0,f1,f2,f3,f4,f5⟩:=hf it (by simp);exact wpAny_pyNext_range_end (I.ok.hd hc) st (by have:n≤i:=hg;lia) fun h' eb=>⟨rfl,I.turned (t' :=s.toks) (fun b o hb e=>eb b o hb e) f0 f1 f3 f4 f5⟩
 self:=fun _ _ _ _ _ st h=>wpAny_pyIter_rangeiter st h
section
variable{X:Cx}{tg:Expr}
def abU(K:Frag)(tl:TE):TI:=fun σ H R=>tl σ H fun x H1=>∃a,x= .ref a∧(∃xs,bA K H1 a xs)∧R (W8 K a) H1
theorem cx{l:Expr}{tl:TE}(hl:PE X l tl):PI X tg l (abU X.K tl):=by
 intro pins s σ H R I h;refine ck (hl pins s σ H _ I h) fun v s1 ⟨x,H1,I1,r1,q1⟩=> ?_;obtain⟨a,e,⟨xs,hq⟩,q⟩:=q1;subst e;cases r1;obtain⟨its,rv,p,hz⟩:=I1.list hq;refine wpAny_pyIter_list p.isList ?_;refine⟨s1.heap.objs.size,[s1.heap.objs.size],_,_,H1,rfl,I1.kept (t' :=s1.toks) fun b o e=>Heap.get?_push_of_some _ e,HF a _,⟨_,Heap.get?_push_size _ rfl,rfl,rfl⟩,fun b hb=> ?_,q⟩;have e:b=s1.heap.objs.size:=by simpa using hb
 subst e;exact I1.BP (Nat.le_refl _) (I1.bC.fresh (Nat.le_refl _))
theorem MI{pins:aL}{σ:St}{H:Hp}{s:Shared}{R:It→Hp→Prop}{E:Value→Shared→Prop}{lo hi:Int}{t u v:Tok}{tk:Nat}(I:Inv X pins σ H s)(h1: -(2 ^ 62)≤lo)(h2:lo<2 ^ 62)(h3: -(2 ^ 62)≤hi)(h4:hi<2 ^ 62)
 (q:R (Tw lo (hi - lo).toNat) H):wpAny (model X.prog X.w) X.A (pyIter (.ref s.heap.objs.size)) (PIE X pins σ tg R) E {s with heap:=s.heap.push {cls:= .type "range",data:= .fields #[.int lo t,.int hi u,.int 1 v]},toks:=tk}:=by
 refine wpAny_pyIter_range (IsRange.new ..) (small_one h1 h2 h3 h4) ?_;have I1:Inv X pins σ H {s with heap:=s.heap.push {cls:= .type "range",data:= .fields #[.int lo t,.int hi u,.int 1 v]},toks:=tk}:=I.kept fun b o e=>Heap.get?_push_of_some _ e
 refine⟨(s.heap.push {cls:= .type "range",data:= .fields #[.int lo t,.int hi u,.int 1 v]}).objs.size,[(s.heap.push {cls:= .type "range",data:= .fields #[.int lo t,.int hi u,.int 1 v]}).objs.size],_,_,H,rfl,
  I1.kept (t' :=tk) fun b o e=>Heap.get?_push_of_some _ e,E4 _ lo (hi - lo).toNat,?_,fun b hb=> ?_,q⟩
 ·have e1:lo+((0:Nat):Int)*1=lo:=by simp
  have e2:(((hi - lo).toNat:Nat):Int) - ((0:Nat):Int)=Builtin.Range.rangeSize lo hi 1:=by rw[rangeSize_one];split<;>lia
  show IsRangeIter _ _ (lo+((0:Nat):Int)*1) ((((hi - lo).toNat:Nat):Int) - ((0:Nat):Int)) 1;rw[e1,e2];exact Heap.get?_push_size _ rfl
 ·have e:b=(s.heap.push {cls:= .type "range",data:= .fields #[.int lo t,.int hi u,.int 1 v]}).objs.size:=by simpa using hb
  subst e;exact I1.BP (Nat.le_refl _) (I1.bC.fresh (Nat.le_refl _))
def Yg(ta:TA):TI:=fun σ H R=>ta σ H fun vs H1=>∃j:Int,vs=[.int j]∧ -(2 ^ 62)≤j∧j<2 ^ 62∧R (Tw 0 j.toNat) H1
theorem iW{a:Expr}{ta:TA}{p pos:Pos}(hg:Gl X "range")(hm:X.mg "range"=none)(ha:PA X [a] ta)(hs:starEach [a] X.env=[(false,eval a X.env)]:=by rfl):PI X tg (.Call (.Name "range" p) [a] [] pos) (Yg ta):=by
 intro pins s σ H R I h;refine Call_ (oS I hg hm boot_range (PyProof.Rows.callWith_type1 (ck (ha pos pins s σ H _ I h) fun us s1 ⟨vs,H1,I1,r1,q1⟩=> ?_) hs rfl));obtain⟨j,e,q1,q2,q⟩:=q1;subst e
 cases r1 with
 |cons r rr=>
  cases rr;obtain⟨t,rfl⟩:=r;exact call_range_1 (MI I1 (by lia) (by lia) q1 q2 (by simpa using q))
def aeE(wi:TI)(g:TG)(tb:TS):TS:=fun D σ H=>wi σ H fun J H1=>∃W:Nat→Nat→St→Hp→Prop,(∃m,W 0 m σ H1)∧∀i m σ H,W i m σ H→
 (J.stop i H∧D.nx σ H)∨(J.go i H∧∃N:St→Hp→Prop,(∀cI H',N cI H'→∃m',m' <m∧W (i+1) m' cI H')∧∀x H',J.wy i H x H'→g x σ H' fun oB H2=>tb {D with nx:=N,ct:=N,bk:=D.nx} oB H2)
def wZ(fp:aY)(h:Heap):aL:=fp.filterMap fun b=>(h.get? b).map fun o=>(b,o)
theorem o8{fp:aY}{h:Heap}{b:Addr}{o:Obj}(hb:b∈fp)(e:h.get? b=some o):(b,o)∈wZ fp h:=List.mem_filterMap.mpr ⟨b,hb,by rw[e];rfl⟩
theorem H_{fp:aY}{h:Heap}{p:Addr×Obj}(hp:p∈wZ fp h):p.1∈fp∧h.get? p.1=some p.2:=by
 obtain⟨b,hb,e⟩:=List.mem_filterMap.mp hp
 cases q:h.get? b with
 |none=>rw[q] at e;cases e
 |some o=>
  rw[q] at e;have e' :(b,o)=p:=Option.some.inj e;subst e';exact⟨hb,q⟩
theorem Inv.pinned{pins:aL}{σ:St}{H:Hp}{s:Shared}{fp:aY}(I:Inv X pins σ H s)(hf:∀b∈fp,uH X pins H b)(ho:∀b∈fp,∃o,s.heap.get? b=some o∧∀v,o.data≠.cell v):Inv X (pins++wZ fp s.heap) σ H s:=
 I.FD fun p hp=>(List.mem_append.mp hp).elim (fun z=>I.pin p (List.mem_append_right _ z)) fun z=>by
  obtain⟨hb,e⟩:=H_ z;obtain⟨f0,f1,f2,_⟩:=hf p.1 hb;obtain⟨o,e',d⟩:=ho p.1 hb;rw[e] at e';cases e'
  exact⟨e,f0,f1,f2,d⟩
theorem Inv.tu{pins pl:aL}{σ:St}{H:Hp}{s:Shared}(I:Inv X (pins++pl) σ H s):Inv X pins σ H s:=I.FD fun p hp=>I.pin p (List.mem_append_right _ (List.mem_append_left _ hp))
theorem gO{iter:Expr}{body:List Stmt}{wi:TI}{g:TG}{tb:TS}{pos:Pos}(hp:PassesOwn (model X.prog X.w) X.A X.env X.xe)(hc:X.calm=true)(hi:PI X tg iter wi)(hg:PG X tg g)(hb:zr X body tb)
 (hs:∀x,foldedSetIterable iter X.env x=pure x:=by intro _;rfl):PS X (.For tg iter body [] pos) (aeE wi g tb):=by
 intro pins s σ H D I h;refine wpAny_For (ck (hi pins s σ H _ I h) fun v s1 h1=>ck h1 fun itv s2 h2=> ?_) hs;obtain⟨it,fp,tn,J,H2,e,I2,T,Oq,f2,W,⟨m0,w0⟩,turn⟩:=h2;subst e;have EL:∀{H' :Hp},(∀b∈fp,H' b=none)→∀b∈fp,uH X pins H' b:=fun hn b hb=>⟨hn b hb,(f2 b hb).2⟩;refine codeAny_forLoop_any (fun n s' =>∃i cI H',Inv X pins cI H' s'∧tn i s'.heap∧(∀b∈fp,H' b=none)∧W i n cI H') ?_ m0 ⟨0,σ,H2,I2,Oq,fun b hb=>(f2 b hb).1,w0⟩
 rintro n s3 ⟨i,JF,H3,I3,st3,fr3,w3⟩
 rcases turn i n JF H3 w3 with⟨stop,qn⟩|⟨go,N,hN,step⟩
 ·refine wpAny_passesOwn hp (ck (T.done X rfl rfl rfl hc i pins s3 JF H3 X.xe I3 (EL fr3) st3 stop) fun r s4 ⟨hr,I4⟩=> ?_);subst hr;exact wpAny_execs_nil ⟨JF,H3,I4,qn⟩
 ·refine wpAny_passesOwn hp (ck (T.item X rfl rfl rfl hc i pins s3 JF H3 X.xe I3 (EL fr3) st3 go) fun r s4 ⟨u,hr,h4⟩=> ?_);subst hr;refine wpAny_passesOwn hp (ck h4 fun _ s5 ⟨x,H5,I5,r5,y5,WO,WX⟩=> ?_);have I5' :=I5.pinned (EL WX) (T.obj _ _ WO);refine wpAny_passesOwn hp (ck (hg _ s5 JF H5 x u _ I5' r5 (step x H5 y5)) fun _ s6 ⟨σ6,H6,I6,q6⟩=> ?_);refine wpAny_passesOwn hp (ck (hb _ s6 σ6 H6 _ I6 q6) fun f s7 q7=> ?_)
  have again:∀{Lz:St} {H7:Hp},Inv X (pins++wZ fp s5.heap) Lz H7 s7→N Lz H7→∃m,m<n∧∃i cI H',Inv X pins cI H' s7∧tn i s7.heap∧(∀b∈fp,H' b=none)∧W i m cI H' :=fun{Lz H7} I7 n7=>by
   obtain⟨m',hm,w7⟩:=hN Lz H7 n7;refine⟨m',hm,i+1,Lz,H7,I7.tu,T.keep _ _ _ WO fun b hb o e=>(I7.pin (b,o) (List.mem_append_right _ (List.mem_append_right _ (o8 hb e)))).1,fun b hb=> ?_,w7⟩;obtain⟨o,e,d⟩:=T.obj _ _ WO b hb;exact(I7.pin (b,o) (List.mem_append_right _ (List.mem_append_right _ (o8 hb e)))).2.1
  cases f with
  |next=>obtain⟨Lz,H7,I7,n7⟩:=q7;exact again I7 n7
  |cont=>obtain⟨Lz,H7,I7,n7⟩:=q7;exact again I7 n7
  |brk=>obtain⟨Lz,H7,I7,q7⟩:=q7;exact⟨Lz,H7,I7.tu,q7⟩
  |ret v=>obtain⟨x7,Lz,H7,I7,r7,q7⟩:=q7;exact⟨x7,Lz,H7,I7.tu,r7,q7⟩
end
theorem gg{K:Frag}{a:Addr}{xs:az}{g:TG}{tb:TS}{D:Ends}{σ:St}{H:Hp}(Pv:Nat→St→Hp→Prop)(h0:Pv 0 σ H)(hl:∀i σ H,i≤xs.length→Pv i σ H→bA K H a xs)
 (hs:∀i x σ H,xs[i]? =some x→Pv i σ H→g x σ H fun oB H2=>tb {D with nx:=Pv (i+1),ct:=Pv (i+1),bk:=D.nx} oB H2) (hd:∀σ H,Pv xs.length σ H→D.nx σ H):
 ∃W:Nat→Nat→St→Hp→Prop,(∃m,W 0 m σ H)∧∀i m σ H,W i m σ H→
  ((W8 K a).stop i H∧D.nx σ H)∨((W8 K a).go i H∧∃N:St→Hp→Prop,(∀cI H',N cI H'→∃m',m' <m∧W (i+1) m' cI H')∧∀x H',(W8 K a).wy i H x H'→g x σ H' fun oB H2=>tb {D with nx:=N,ct:=N,bk:=D.nx} oB H2):=by
 refine⟨fun i m σ H=>m=xs.length - i∧i≤xs.length∧Pv i σ H,⟨xs.length,by simp,Nat.zero_le _,h0⟩,?_⟩
 rintro i m σ H ⟨rfl,hi,p⟩
 have q:=hl i σ H hi p;by_cases eO:i<xs.length
 ·refine .inr ⟨⟨xs,xs[i],q,by simp[eO]⟩,Pv (i+1),fun cI H' p' =>⟨xs.length - (i+1),by lia,rfl,eO,p'⟩,fun x H' y=> ?_⟩;obtain⟨e,y⟩:=y;subst e;exact hs i x σ _ (y xs q) p
 ·have e:i=xs.length:=by lia
  subst e;exact .inl ⟨⟨xs,q,Nat.le_refl _⟩,hd σ H p⟩
theorem qB{lo:Int}{n:Nat}{g:TG}{tb:TS}{D:Ends}{σ:St}{H:Hp}(Pv:Nat→St→Hp→Prop)(h0:Pv 0 σ H)
 (hs:∀i σ H,i<n→Pv i σ H→g (.int (lo+i)) σ H fun oB H2=>tb {D with nx:=Pv (i+1),ct:=Pv (i+1),bk:=D.nx} oB H2) (hd:∀σ H,Pv n σ H→D.nx σ H):
 ∃W:Nat→Nat→St→Hp→Prop,(∃m,W 0 m σ H)∧∀i m σ H,W i m σ H→
  ((Tw lo n).stop i H∧D.nx σ H)∨((Tw lo n).go i H∧∃N:St→Hp→Prop,(∀cI H',N cI H'→∃m',m' <m∧W (i+1) m' cI H')∧∀x H',(Tw lo n).wy i H x H'→g x σ H' fun oB H2=>tb {D with nx:=N,ct:=N,bk:=D.nx} oB H2):=by
 refine⟨fun i m σ H=>m=n - i∧i≤n∧Pv i σ H,⟨n,by simp,Nat.zero_le _,h0⟩,?_⟩
 rintro i m σ H ⟨rfl,hi,p⟩
 by_cases eO:i<n
 ·refine .inr ⟨eO,Pv (i+1),fun cI H' p' =>⟨n - (i+1),by lia,rfl,eO,p'⟩,fun x H' y=> ?_⟩;obtain⟨e,y⟩:=y;subst e y;exact hs i σ _ eO p
 ·have e:i=n:=by lia
  subst e;exact .inl ⟨Nat.le_refl _,hd σ H p⟩
abbrev R2:=V→V→Hp→VK→Prop
def qD(X:Cx)(f:Value→Value→Sem Value)(r:R2):Prop:=
 ∀(pins:aL) (s:Shared) (σ:St) (H:Hp) (x y:V) (v u:Value) (Q:VK),Inv X pins σ H s→RelV x v→RelV y u→r x y H Q→
  wpAny (model X.prog X.w) X.A (f v u) (EP X pins σ Q) X.xe s
def UnR(X:Cx)(f:Value→Sem Value)(r:V→Hp→VK→Prop):Prop:=
 ∀(pins:aL) (s:Shared) (σ:St) (H:Hp) (x:V) (v:Value) (Q:VK),Inv X pins σ H s→RelV x v→r x H Q→
  wpAny (model X.prog X.w) X.A (f v) (EP X pins σ Q) X.xe s
def f_(X:Cx)(f:Value)(r:az→Hp→VK→Prop):Prop:=
 ∀(pins:aL) (s:Shared) (σ:St) (H:Hp) (xs:az) (us:aA) (Q:VK),Inv X pins σ H s→Vals xs us→r xs H Q→
  wpAny (model X.prog X.w) X.A (call f us) (EP X pins σ Q) X.xe s
def tOp(r:R2)(ta tb:TE):TE:=fun σ H Q=>ta σ H fun x H1=>tb σ H1 fun y H2=>r x y H2 Q
def tUn(r:V→Hp→VK→Prop)(ta:TE):TE:=fun σ H Q=>ta σ H fun x H1=>r x H1 Q
def rI(C:Int→Int→Prop)(g:Int→Int→V):R2:=fun x y H Q=>∃i j,x= .int i∧y= .int j∧C i j∧Q (g i j) H
def SO(g:Int→Int→V):R2:=fun x y H Q=>∃i j,x= .int i∧y= .int j∧Q (g i j) H
def rU(g:Int→V):V→Hp→VK→Prop:=fun x H Q=>∃i,x= .int i∧Q (g i) H
section
variable{X:Cx}{a b c:Expr}{ta tb tc:TE}{pos:Pos}
theorem VT(ha:PE X a ta)(hb:PE X b tb){pins:aL}{s:Shared}{σ:St}{H:Hp}{R:V→V→Hp→Prop}(I:Inv X pins σ H s)
 (h:ta σ H fun x H1=>tb σ H1 fun y H2=>R x y H2) {Q:Value→Shared→Prop} {f:Value→Value→Sem Value}
 (hf:∀v u s2 x y H2,Inv X pins σ H2 s2→RelV x v→RelV y u→R x y H2→wpAny (model X.prog X.w) X.A (f v u) Q X.xe s2):
 wpAny (model X.prog X.w) X.A (eval a X.env) (fun v bE=>wpAny (model X.prog X.w) X.A (eval b X.env) (fun u pY=>wpAny (model X.prog X.w) X.A (f v u) Q X.xe pY) X.xe bE) X.xe s:=by
 refine ck (ha pins s σ H _ I h) fun v s1 ⟨x,H1,I1,r1,q1⟩=> ?_;refine ck (hb pins s1 σ H1 _ I1 q1) fun u s2 ⟨y,H2,I2,r2,q2⟩=> ?_;exact hf v u s2 x y H2 I2 r1 r2 q2
theorem bF{op:Operator}{r:R2}(ho:qD X (binaryOp op) r)(ha:PE X a ta)(hb:PE X b tb):PE X (.BinOp a op b pos) (tOp r ta tb):=by
 intro pins s σ H Q I h;exact wpAny_BinOp (VT ha hb I h fun v u s2 x y H2 I2 rx ry q=>ho pins s2 σ H2 x y v u Q I2 rx ry q)
theorem Ru{op:UnaryOp}{r:V→Hp→VK→Prop}(ho:UnR X (unaryOp op) r)(ha:PE X a ta):PE X (.UnaryOp op a pos) (tUn r ta):=by
 intro pins s σ H Q I h;exact UnaryOp_ (ck (ha pins s σ H _ I h) fun v s1 ⟨x,H1,I1,r1,q1⟩=>ho pins s1 σ H1 x v Q I1 r1 q1)
theorem opI{f:Value→Value→Sem Value}{C:Int→Int→Prop}{g:Int→Int→Int}
 (rule:∀(i j:Int) (t u:Tok) (s:Shared) (Q:Value→Shared→Prop) (E:Value→Shared→Prop),C i j→Q (.int (g i j) s.toks) {s with toks:=s.toks+1}→wpAny (model X.prog X.w) X.A (f (.int i t) (.int j u)) Q E s):
 qD X f (rI C fun i j=> .int (g i j)):=by
 intro pins s σ H x y v u Q I rx ry h;obtain⟨i,j,rfl,rfl,hc,q⟩:=h;obtain⟨t,rfl⟩:=rx;obtain⟨t',rfl⟩:=ry;exact rule i j t t' s _ _ hc ⟨.int (g i j),H,I.tok _,⟨_,rfl⟩,q⟩
theorem ab5{f:Value→Value→Sem Value}{g:Int→Int→Int}
 (rule:∀(i j:Int) (t u:Tok) (s:Shared) (Q:Value→Shared→Prop) (E:Value→Shared→Prop),Q (.int (g i j) s.toks) {s with toks:=s.toks+1}→wpAny (model X.prog X.w) X.A (f (.int i t) (.int j u)) Q E s):
 qD X f (SO fun i j=> .int (g i j)):=by
 intro pins s σ H x y v u Q I rx ry h;obtain⟨i,j,rfl,rfl,q⟩:=h;obtain⟨t,rfl⟩:=rx;obtain⟨t',rfl⟩:=ry;exact rule i j t t' s _ _ ⟨.int (g i j),H,I.tok _,⟨_,rfl⟩,q⟩
theorem P0{f:Value→Value→Sem Value}{g:Int→Int→Bool}
 (rule:∀(i j:Int) (t u:Tok) (s:Shared) (Q:Value→Shared→Prop) (E:Value→Shared→Prop),Q (.bool (g i j)) s→wpAny (model X.prog X.w) X.A (f (.int i t) (.int j u)) Q E s):
 qD X f (SO fun i j=> .bl (g i j)):=by
 intro pins s σ H x y v u Q I rx ry h;obtain⟨i,j,rfl,rfl,q⟩:=h;obtain⟨t,rfl⟩:=rx;obtain⟨t',rfl⟩:=ry;exact rule i j t t' s _ _ ⟨.bl (g i j),H,I,rfl,q⟩
def aiR(i j:Int):Prop:=0<j∧j<1073741824
def amY(i j:Int):Prop:=0≤j∧j≤1000000∧i.natAbs<2 ^ 64
def Ws(i j:Int):Prop:=(-(2 ^ 64)<i∧i<2 ^ 64)∨(-(2 ^ 64)<j∧j<2 ^ 64)
theorem Ws.ok{i j:Int}(h:Ws i j):IntMulOk i j:=by
 rcases h with⟨h1,h2⟩|⟨h1,h2⟩
 ·exact .of_left (intBits_le_64 h1 h2)
 ·exact .of_right (intBits_le_64 h1 h2)
theorem iS:qD X (binaryOp .Add) (SO fun i j=> .int (i+j)):=ab5 fun _ _ _ _ _ _ _ q=>add_int q
theorem j6:qD X (binaryOp .Sub) (SO fun i j=> .int (i - j)):=ab5 fun _ _ _ _ _ _ _ q=>sub_int q
theorem xN:qD X (binaryOp .Mult) (rI Ws fun i j=> .int (i*j)):=opI fun _ _ _ _ _ _ _ hc q=>mul_int q hc.ok
theorem tW:qD X (binaryOp .FloorDiv) (rI aiR fun i j=> .int (i / j)):=opI fun i j _ _ _ _ _ hc q=>by
 have h1:(0:Int)<j:=hc.1;have h2:j<1073741824:=hc.2;exact floordiv_int (by lia) (by rw[Int.fdiv_eq_ediv_of_nonneg i (by lia)];exact q) (.inl (PyProof.noPylong_small (by lia)))
theorem rH:qD X (binaryOp .Mod) (rI (fun _ j=>0<j) fun i j=> .int (i % j)):=opI fun i j _ _ _ _ _ hc q=>by
 have h1:(0:Int)<j:=hc;exact mod_int' (by lia) (by rw[Int.fmod_eq_emod_of_nonneg i (by lia)];exact q)
theorem Bz:qD X (binaryOp .Pow) (rI amY fun i j=> .int (i ^ j.toNat)):=opI fun _ _ _ _ _ _ _ hc q=>pow_int_small hc.1 hc.2.1 hc.2.2 q
theorem unI{f:Value→Sem Value}{g:Int→Int}
 (rule:∀(i:Int) (t:Tok) (s:Shared) (Q:Value→Shared→Prop) (E:Value→Shared→Prop),Q (.int (g i) s.toks) {s with toks:=s.toks+1}→wpAny (model X.prog X.w) X.A (f (.int i t)) Q E s):
 UnR X f (rU fun i=> .int (g i)):=by
 intro pins s σ H x v Q I rx h;obtain⟨i,rfl,q⟩:=h;obtain⟨t,rfl⟩:=rx;exact rule i t s _ _ ⟨.int (g i),H,I.tok _,⟨_,rfl⟩,q⟩
theorem Jv:UnR X (unaryOp .USub) (rU fun i=> .int (-i)):=unI fun _ _ _ _ _ q=>neg_int q
end
def V8:V→V→Bool
 | .bH,.bH=>true| .bH,.int _=>true| .int _,.bH=>true| .bH,.bl _=>true| .bl _,.bH=>true| .bH,.str _=>true| .str _,.bH=>true
 | .int _,.int _=>true| .bl _,.bl _=>true| .str _,.str _=>true| .Iq _,.Iq _=>true
 | .int _,.str _=>true| .str _,.int _=>true| .bl _,.str _=>true| .str _,.bl _=>true
 |_,_=>false
def rEq:R2:=fun x y H Q=>V8 x y=true∧Q (.bl (decide (x=y))) H
def rNe:R2:=fun x y H Q=>V8 x y=true∧Q (.bl (!decide (x=y))) H
theorem Gm{i j:Int}:decide (V.int i=V.int j)=(i==j):=by
 rw[Bool.eq_iff_iff];simp
theorem Nv{i j:Bool}:decide (V.bl i=V.bl j)=(i==j):=by
 rw[Bool.eq_iff_iff];simp
theorem FT{i j:Str}:decide (V.str i=V.str j)=(i==j):=by
 rw[Bool.eq_iff_iff];simp
theorem Gh{i j:Array UInt8}:decide (V.Iq i=V.Iq j)=(i.toList==j.toList):=by
 rw[Bool.eq_iff_iff];cases i;cases j;simp
section
variable{X:Cx}{a b c:Expr}{ta tb tc:TE}{pos:Pos}
theorem bU{pins:aL}{σ:St}{H:Hp}{s:Shared}{Q:VK}{k k' :Bool}(I:Inv X pins σ H s)(q:Q (.bl k) H)(e:k=k'):EP X pins σ Q (.bool k') s:=by
 subst e;exact⟨.bl k,H,I,rfl,q⟩
theorem xJ:qD X (compareOp .Eq) rEq:=by
 intro pins s σ H x y v u Q I rx ry h;obtain⟨hs,q⟩:=h
 cases x with
 |bH=>
  cases rx
  cases y with
  |bH=>cases ry;exact PySem.EqNone.eq_none_none (bU I q (by simp))
  |bl j=>cases ry;exact PySem.EqNone.eq_none_bool (bU I q (by simp))
  |int j=>obtain⟨t',rfl⟩:=ry;exact PySem.EqNone.eq_none_int (bU I q (by simp))
  |str j=>obtain⟨t',rfl⟩:=ry;exact PySem.EqNone.eq_none_str (bU I q (by simp))
  |_=>exact absurd (show false=true from hs) Bool.false_ne_true
 |bl i=>
  cases rx
  cases y with
  |bH=>cases ry;exact PySem.EqNone.eq_bool_none (bU I q (by simp))
  |bl j=>cases ry;exact eq_bool (bU I q Nv)
  |str j=>obtain⟨t',rfl⟩:=ry;exact PySem.EqMixed.eq_bool_str (bU I q (by simp))
  |_=>exact absurd (show false=true from hs) Bool.false_ne_true
 |int i=>
  obtain⟨t,rfl⟩:=rx
  cases y with
  |bH=>cases ry;exact PySem.EqNone.eq_int_none (bU I q (by simp))
  |int j=>obtain⟨t',rfl⟩:=ry;exact eq_int (bU I q Gm)
  |str j=>obtain⟨t',rfl⟩:=ry;exact PySem.EqMixed.eq_int_str (bU I q (by simp))
  |_=>exact absurd (show false=true from hs) Bool.false_ne_true
 |str i=>
  obtain⟨t,rfl⟩:=rx
  cases y with
  |bH=>cases ry;exact PySem.EqNone.eq_str_none (bU I q (by simp))
  |bl j=>cases ry;exact PySem.EqMixed.eq_str_bool (bU I q (by simp))
  |int j=>obtain⟨t',rfl⟩:=ry;exact PySem.EqMixed.eq_str_int (bU I q (by simp))
  |str j=>obtain⟨t',rfl⟩:=ry;exact eq_str (bU I q FT)
  |_=>exact absurd (show false=true from hs) Bool.false_ne_true
 |Iq i=>
  obtain⟨t,rfl⟩:=rx
  cases y with
  |Iq j=>obtain⟨t',rfl⟩:=ry;exact PySem.W.eq_bytes (bU I q Gh)
  |_=>exact absurd (show false=true from hs) Bool.false_ne_true
 |_=>cases y<;>exact absurd (show false=true from hs) Bool.false_ne_true
theorem vp:qD X (compareOp .NotEq) rNe:=by
 intro pins s σ H x y v u Q I rx ry h;obtain⟨hs,q⟩:=h
 cases x with
 |bH=>
  cases rx
  cases y with
  |bH=>cases ry;exact PySem.EqNone.ne_none_none (bU I q (by simp))
  |bl j=>cases ry;exact PySem.EqNone.ne_none_bool (bU I q (by simp))
  |int j=>obtain⟨t',rfl⟩:=ry;exact PySem.EqNone.ne_none_int (bU I q (by simp))
  |str j=>obtain⟨t',rfl⟩:=ry;exact PySem.EqNone.ne_none_str (bU I q (by simp))
  |_=>exact absurd (show false=true from hs) Bool.false_ne_true
 |bl i=>
  cases rx
  cases y with
  |bH=>cases ry;exact PySem.EqNone.ne_bool_none (bU I q (by simp))
  |bl j=>cases ry;exact ne_bool (bU I q (congrArg not Nv))
  |str j=>obtain⟨t',rfl⟩:=ry;exact PySem.EqMixed.ne_bool_str (bU I q (by simp))
  |_=>exact absurd (show false=true from hs) Bool.false_ne_true
 |int i=>
  obtain⟨t,rfl⟩:=rx
  cases y with
  |bH=>cases ry;exact PySem.EqNone.ne_int_none (bU I q (by simp))
  |int j=>obtain⟨t',rfl⟩:=ry;exact ne_int (bU I q (congrArg not Gm))
  |str j=>obtain⟨t',rfl⟩:=ry;exact PySem.EqMixed.ne_int_str (bU I q (by simp))
  |_=>exact absurd (show false=true from hs) Bool.false_ne_true
 |str i=>
  obtain⟨t,rfl⟩:=rx
  cases y with
  |bH=>cases ry;exact PySem.EqNone.ne_str_none (bU I q (by simp))
  |bl j=>cases ry;exact PySem.EqMixed.ne_str_bool (bU I q (by simp))
  |int j=>obtain⟨t',rfl⟩:=ry;exact PySem.EqMixed.ne_str_int (bU I q (by simp))
  |str j=>obtain⟨t',rfl⟩:=ry;exact ne_str (bU I q (congrArg not FT))
  |_=>exact absurd (show false=true from hs) Bool.false_ne_true
 |Iq i=>
  obtain⟨t,rfl⟩:=rx
  cases y with
  |Iq j=>obtain⟨t',rfl⟩:=ry;exact PySem.W.ne_bytes (bU I q (congrArg not Gh))
  |_=>exact absurd (show false=true from hs) Bool.false_ne_true
 |_=>cases y<;>exact absurd (show false=true from hs) Bool.false_ne_true
theorem DA:qD X (compareOp .Lt) (SO fun i j=> .bl (decide (i<j))):=P0 fun _ _ _ _ _ _ _ q=>lt_int q
theorem F8:qD X (compareOp .LtE) (SO fun i j=> .bl (decide (i≤j))):=P0 fun _ _ _ _ _ _ _ q=>le_int q
theorem J9:qD X (compareOp .Gt) (SO fun i j=> .bl (decide (j<i))):=P0 fun _ _ _ _ _ _ _ q=>gt_int q
theorem Y3:qD X (compareOp .GtE) (SO fun i j=> .bl (decide (j≤i))):=P0 fun _ _ _ _ _ _ _ q=>ge_int q
theorem rT:qD X (compareOp .Is) (fun x y H Q=>y= .bH∧Q (.bl (decide (x= .bH))) H):=by
 intro pins s σ H x y v u Q I rx ry h;obtain⟨rfl,q⟩:=h;cases ry;refine is_none_gen (bU I q ?_)
 cases x<;>first
  |(cases rx;rfl)
  |(obtain⟨t,rfl⟩:=rx;rfl)
theorem we:qD X (compareOp .IsNot) (fun x y H Q=>y= .bH∧Q (.bl (!decide (x= .bH))) H):=by
 intro pins s σ H x y v u Q I rx ry h;obtain⟨rfl,q⟩:=h;cases ry;refine isnot_none_gen (bU I q ?_)
 cases x<;>first
  |(cases rx;rfl)
  |(obtain⟨t,rfl⟩:=rx;rfl)
theorem qD.or{f:Value→Value→Sem Value}{r r' :R2}(h:qD X f r)(h' :qD X f r'):qD X f (fun x y H Q=>r x y H Q∨r' x y H Q):=by
 intro pins s σ H x y v u Q I rx ry q;rcases q with q|q
 ·exact h pins s σ H x y v u Q I rx ry q
 ·exact h' pins s σ H x y v u Q I rx ry q
theorem bu(b:Expr){op:CmpOp}(h:op≠.In:=by decide)(h2:op≠.NotIn:=by decide):behindInMarks op b=false:=by
 have e1:(op==CmpOp.In)=false:=by cases op<;>first|rfl|exact absurd rfl h
 have e2:(op==CmpOp.NotIn)=false:=by cases op<;>first|rfl|exact absurd rfl h2
 cases b<;>simp[behindInMarks,e1,e2]
theorem lN{op:CmpOp}{r:R2}(ho:qD X (compareOp op) r)(ha:PE X a ta)(hb:PE X b tb)(hm:behindInMarks op b=false):PE X (.Compare a [op] [b] pos) (tOp r ta tb):=by
 intro pins s σ H Q I h;exact wpAny_Compare1 (VT ha hb I h fun v u s2 x y H2 I2 rx ry q=>ho pins s2 σ H2 x y v u Q I2 rx ry q) hm
def aaL(t:TE):TT:=fun σ H Q=>t σ H fun x H' =>∃k,x= .bl k∧Q k H'
theorem ba{op:CmpOp}{r:R2}(ho:qD X (compareOp op) r)(ha:PE X a ta)(hb:PE X b tb)(hm:behindInMarks op b=false):PT X (.Compare a [op] [b] pos) (aaL (tOp r ta tb)):=by
 intro pins s σ H Q I h
 refine wpAny_isTrue_Compare1 (ck (ha pins s σ H _ I h) fun v s1 ⟨x,H1,I1,r1,q1⟩=>ck (hb pins s1 σ H1 _ I1 q1) fun u s2 ⟨y,H2,I2,r2,q2⟩=>
  ck (ho pins s2 σ H2 x y v u _ I2 r1 r2 q2) fun c s3 ⟨z,H3,I3,r3,k,e,q3⟩=> ?_) hm
 subst e;cases r3;exact wpAny_truthy_bool ⟨H3,I3,q3⟩
def Wi(r r' :R2)(ta tb tc:TE):TE:=fun σ H Q=>ta σ H fun x H1=>tb σ H1 fun y H2=>r x y H2 fun z H3=>∃k,z= .bl k∧
 (if k=true then tc σ H3 fun w' H4=>r' y w' H4 Q else Q (.bl false) H3)
theorem Ny{op op' :CmpOp}{r r' :R2}(ho:qD X (compareOp op) r)(Bf :qD X (compareOp op') r')(ha:PE X a ta)(hb:PE X b tb)(hc:PE X c tc)
 (hm:lastMarks [op,op'] [b,c]=false:=by with_unfolding_all rfl):PE X (.Compare a [op,op'] [b,c] pos) (Wi r r' ta tb tc):=by
 intro pins s σ H Q I h
 refine Compare_chain (ck (ha pins s σ H _ I h) fun v s1 ⟨x,H1,I1,r1,q1⟩=>chain_link (ck (hb pins s1 σ H1 _ I1 q1) fun u s2 ⟨y,H2,I2,r2,q2⟩=>
  ck (ho pins s2 σ H2 x y v u _ I2 r1 r2 q2) fun d s3 ⟨z,H3,I3,r3,k,e,q3⟩=> ?_)) hm
 subst e;cases r3;refine wpAny_truthy_bool ?_
 cases k with
 |false=>exact ite_ff ⟨.bl false,H3,I3,rfl,q3⟩
 |true=>exact ite_tt (chain_last (ck (hc pins s3 σ H3 _ I3 q3) fun w' s4 ⟨z',H4,I4,r4,q4⟩=>Bf pins s4 σ H4 y z' u w' Q I4 r2 r4 q4))
theorem AA:(sizeLine:Nat)<2 ^ 63:=by rw[sizeLine_eq];decide
theorem xL{x:V}{us:aA}(r:Vals [x] us):∃u,us=[u]∧RelV x u:=by
 cases r with
 |cons r1 r2=>cases r2;exact⟨_,rfl,r1⟩
theorem XV{x y:V}{us:aA}(r:Vals [x,y] us):∃u w',us=[u,w']∧RelV x u∧RelV y w' :=by
 cases r with
 |cons r1 r2=>
  cases r2 with
  |cons r3 r4=>cases r4;exact⟨_,_,rfl,r1,r3⟩
theorem qC(hc:X.calm=true):f_ X (.builtin "max") (fun xs H Q=>∃i j,xs=[.int i,.int j]∧Q (.int (if j>i then j else i)) H):=by
 intro pins s σ H xs us Q I r h;obtain⟨i,j,rfl,q⟩:=h;obtain⟨u,w',rfl,⟨t,rfl⟩,⟨t',rfl⟩⟩:=XV r;refine max_two_ints (I.ok.hd hc) fun h' tk k=>⟨_,H,I.kept k,?_,q⟩;by_cases hj:j>i
 ·rw[if_pos hj,if_pos hj];exact⟨_,rfl⟩
 ·rw[if_neg hj,if_neg hj];exact⟨_,rfl⟩
theorem HQ(hc:X.calm=true):f_ X (.builtin "min") (fun xs H Q=>∃i j,xs=[.int i,.int j]∧Q (.int (if j<i then j else i)) H):=by
 intro pins s σ H xs us Q I r h;obtain⟨i,j,rfl,q⟩:=h;obtain⟨u,w',rfl,⟨t,rfl⟩,⟨t',rfl⟩⟩:=XV r;refine min_two_ints (I.ok.hd hc) fun h' tk k=>⟨_,H,I.kept k,?_,q⟩;by_cases hj:j<i
 ·rw[if_pos hj,if_pos hj];exact⟨_,rfl⟩
 ·rw[if_neg hj,if_neg hj];exact⟨_,rfl⟩
end
structure E8(h:Heap)(x dx C:Addr)(mA:Str→aH):Prop where
 obj:h.get? x=some (instObj C dx)
 ns:h.Ns1 dx mA
 ne:dx≠x
theorem zN{h:Heap}{dx:Addr}{mA:Str→aH}(n:h.Ns1 dx mA):∃od,h.get? dx=some od∧∀name,lookIn name od=some (mA name):=by
 obtain⟨o,es,ep,ho,hd,hk,_,hm⟩:=n;refine⟨o,ho,fun name=> ?_⟩;have e:=hm name;unfold nsFind findBy at e;rw[←Array.find?_toList] at e;unfold lookIn;rw[hd];dsimp only
 split
 ·rename_i y q;rw[q] at e;exact congrArg some e
 ·rename_i q;rw[q] at e
  have a:es.toList.any (·.refKey)=false:=by
   rw[List.any_eq_false];intro y hy;obtain⟨z,t,AI⟩:=hk y (Array.mem_toList_iff.mp hy);simp[DictEntry.refKey,AI]
  have a' :¬es.toList.any (·.refKey)=true:=by rw[a];exact Bool.false_ne_true
  rw[if_neg a'];exact congrArg some e
theorem E8.look{h:Heap}{x dx C:Addr}{mA:Str→aH}(I:E8 h x dx C mA):∃od,PySem.W.InstAt h x (instObj C dx) C (some od)∧∀name,lookIn name od=some (mA name):=
 let⟨od,ho,hl⟩:=zN I.ns
 ⟨od,⟨I.obj,rfl,rfl,ho⟩,hl⟩
section
variable{prog:Program}{w:World}{A:Around}{E:Value→Shared→Prop}{s:Shared}{K:Frag}{x dx C f:Addr}{mA:Str→aH}{name:Str}{v:Value}
theorem jai{expr:Bool}{Q:Value→Shared→Prop}(X:K.In s.heap)(I:E8 s.heap x dx C mA)(hg:PySem.W.plainGet K C name=true)(hh:PySem.W.hasDictIn K C=true)
 (ha:PySem.W.findIn K (.ref C) name=some none) (hv:mA name=some v) (NT :handedIn v=true) (h:Q v {s with toks:=s.toks+1}):
 wpAny (model prog w) A (getAttr (.ref x) name expr) Q E s:=by
 obtain⟨od,J,hl⟩:=I.look;exact PySem.W.get_value X J (plainGet_of hg).1 (findObj_own hh ha rfl (by rw[hl,hv])) NT h
theorem Nx{pl:Sem Bool}{Q:Value×aA→Shared→Prop}(X:K.In s.heap)(I:E8 s.heap x dx C mA)(hg:PySem.W.plainGet K C name=true)
 (hf:PySem.W.findIn K (.ref C) name=some (some (.ref f))) (ht:PySem.W.isFn K (.ref f)=true) (hv:mA name=none) (h:Q (.ref f,[.ref x]) s):
 wpAny (model prog w) A (getMethod (.ref x) name pl) Q E s:=by
 obtain⟨od,J,hl⟩:=I.look;exact PySem.W.method_fn X J (plainGet_of hg).1 (plainGet_of hg).2 hf (beq_iff_eq.mp ht) (by show(lookIn name od).map (·.isSome)=some false;rw[hl,hv];rfl) h
theorem Qo{ns:aX}{Q:Unit→Shared→Prop}(X:K.In s.heap)(I:E8 s.heap x dx C mA)
 (hs:PySem.W.findIn K (.ref C) "__setattr__"=some (some (.builtin "object.__setattr__"))) (hp:PySem.W.plainOver K C=true) (ht:takerIn K C name=some none) (hh:PySem.W.hasDictIn K C=true)
 (hw:PySem.Within mA ns) (hsz:ns.length≤sizeLine)
 (h:∀h',E8 h' x dx C (fun y=>if y=name then some v else mA y)→Heap.SameBut dx s.heap h'→Q () {s with heap:=h',toks:=s.toks+2}):
 wpAny (model prog w) A (setAttr (.ref x) name v) Q E s:=by
 obtain⟨od,J,hl⟩:=I.look;refine set_plain X J hs (PySem.W.osa_open (s:={s with toks:=s.toks+1}) (r:=none) X J hp ht fun b=> ?_);obtain⟨cd,hc,zt⟩:=any_some hh;have hx:s.heap.get? x=some ⟨.ref C,some dx,.plain,#[]⟩:=I.obj;refine wpAny_bind (wpAny_pure (wpAny_bind (wpAny_bind (wpAny_loadPart hx (wpAny_bind (PySem.W.Looks.here (s:={s with toks:=s.toks+1}) (PySem.W.looks_clsIn X hc) ?_))))));rw[zt];refine wpAny_pure (a:=some dx) (wpAny_bind (wpAny_pure (wpAny_bind ?_)));refine wpAny_nsSet1 (s:={s with toks:=s.toks+1}) I.ns fun h' WJ WT=> ?_;obtain⟨oD,esD,epD,hoD,X1,Ze⟩:=WJ.count (PySem.Within.cons name v hw);refine wpAny_bind (wpAny_lookBehind hoD (by rw[X1];exact pastItsLine_dict (Nat.le_trans Ze (by rw[List.length_cons];lia))) ?_);exact wpAny_pure (h _ ⟨(WT.2 _ (Ne.symm I.ne)).trans I.obj,WJ,I.ne⟩ WT)
theorem J2{R:Result→Shared→Prop}{vs:aA}{kw:List (Str×Value)}(X:K.In s.heap)(hm:PySem.W.makesIn K C=true)
 (hi:PySem.W.findIn K (.ref C) "__init__"=some (some (.ref f))) (hf:PySem.W.typeIn K (.ref f)=some (.type "function"))
 (h:codeAny (model prog w) (A.under (.builtin "type.__call__" ⟨.ref C::vs,kw⟩)) (.call (.ref f) ⟨.ref (s.heap.objs.size+1)::vs,kw⟩) (PySem.W.InitBack (s.heap.objs.size+1) R)
  {s with heap:=(s.heap.push emptyDict).push (instObj C s.heap.objs.size)}):
 codeAny (model prog w) A (.call (.ref C) ⟨vs,kw⟩) R s:=by
 obtain⟨hh,g,d,t,os⟩:=s;exact PySem.W.make_core (PySem.W.makes_of X hm) (looks_findIn X hi) (fun self=>bind_fn X self hf) (.inl rfl) h
end
def cq(f:Str)(v:V):iM→iM
 |[]=>[(f,v)]
 |(g,x)::r=>if g=f then(g,v)::r else(g,x)::cq f v r
theorem aJ(f g:Str)(v:V):∀fs:iM,(cq f v fs).lookup g=if g=f then some v else fs.lookup g
 |[]=>by
  show List.lookup g [(f,v)]=_;by_cases h:g=f
  ·have hb:(g==f)=true:=beq_iff_eq.mpr h;simp only[List.lookup,hb,if_pos h]
  ·have hb:(g==f)=false:=beq_eq_false_iff_ne.mpr h;simp only[List.lookup,hb,if_neg h]
 |(k,x)::r=>by
  have ih:=aJ f g v r;rw[show cq f v ((k,x)::r)=(if k=f then(k,v)::r else(k,x)::cq f v r) from rfl];by_cases hk:k=f
  ·rw[if_pos hk];by_cases h:g=k
   ·have hb:(g==k)=true:=beq_iff_eq.mpr h;simp only[List.lookup,hb,if_pos (h.trans hk)]
   ·have hb:(g==k)=false:=beq_eq_false_iff_ne.mpr h;simp only[List.lookup,hb,if_neg (fun e:g=f=>h (e.trans hk.symm))]
  ·rw[if_neg hk];by_cases h:g=k
   ·have hb:(g==k)=true:=beq_iff_eq.mpr h;simp only[List.lookup,hb,if_neg (fun e:g=f=>hk (h.symm.trans e))]
   ·have hb:(g==k)=false:=beq_eq_false_iff_ne.mpr h;simp only[List.lookup,hb];exact ih
theorem ux(f:Str)(v:V):∀fs:iM,f∈(cq f v fs).map (·.1)∧∀g,g∈fs.map (·.1)→g∈(cq f v fs).map (·.1)
 |[]=>⟨by simp[cq],fun g h=>by simp at h⟩
 |(k,x)::r=>by
  obtain⟨i1,i2⟩:=ux f v r;rw[show cq f v ((k,x)::r)=(if k=f then(k,v)::r else(k,x)::cq f v r) from rfl];by_cases hk:k=f
  ·rw[if_pos hk];subst hk;exact⟨by simp,fun g h=>by simpa using h⟩
  ·rw[if_neg hk];refine⟨?_,fun g h=> ?_⟩
   ·rw[List.map_cons];exact List.mem_cons_of_mem _ i1
   ·rw[List.map_cons] at h ⊢;rcases List.mem_cons.mp h with e|e
    ·exact List.mem_cons.mpr (.inl e)
    ·exact List.mem_cons_of_mem _ (i2 g e)
theorem cy(f:Str)(v:V):∀fs:iM,(cq f v fs).length≤fs.length+1
 |[]=>by simp[cq]
 |(k,x)::r=>by
  have ih:=cy f v r;rw[show cq f v ((k,x)::r)=(if k=f then(k,v)::r else(k,x)::cq f v r) from rfl];by_cases hk:k=f
  ·rw[if_pos hk,List.length_cons,List.length_cons];lia
  ·rw[if_neg hk,List.length_cons,List.length_cons];lia
theorem lB.some_of{v:V}{o:aH}(r:lB (some v) o):∃u,o=some u∧RelV v u:=by
 cases o with
 |none=>exact(show False from r).elim
 |some u=>exact⟨u,rfl,r⟩
theorem lB.none_of{o:aH}(r:lB none o):o=none:=by
 cases o with
 |none=>rfl
 |some u=>exact(show False from r).elim
theorem zI{v:V}{u:Value}(r:RelV v u):handedIn u=true:=by
 cases v with
 |bH=>cases(show u=Value.none from r);rfl
 |bl b=>cases(show u=Value.bool b from r);rfl
 |int i=>obtain⟨t,e⟩:=(show ∃t,u=Value.int i t from r);cases e;rfl
 |str x=>obtain⟨t,e⟩:=(show ∃t,u=Value.str x t from r);cases e;rfl
 |Iq b=>obtain⟨t,e⟩:=(show ∃t,u=Value.bytes b t from r);cases e;rfl
 |WA b=>obtain⟨t,e⟩:=(show ∃t,u=Value.float b t from r);cases e;rfl
 |ref a=>cases(show u=Value.ref a from r);rfl
 |ty n=>cases(show u=Value.type n from r);rfl
section
variable{P:Program}{w:World}{H H' :Hp}{h h' :Heap}{a C dx:Addr}{fs fs' :iM}
theorem wu(bC:qI P w H h)(e:H a=some (.ins C dx fs)):∃mA,E8 h a dx C mA∧(∀f,lB (fs.lookup f) (mA f))∧PySem.Within mA (fs.map (·.1))∧fs.length≤1000∧H dx=some (.own a):=by
 obtain⟨d,z,ne,ob,mA,n,r,q⟩:=(show bq P w H h a (.ins C dx fs) from bC a _ e);exact⟨mA,⟨ob,n,ne⟩,r,q,z,d⟩
end
structure Ec(K:Frag)(C:Addr):Prop where
 pg:PySem.W.plainGet K C Str.empty=true
 hd:PySem.W.hasDictIn K C=true
 po:PySem.W.plainOver K C=true
 sa:PySem.W.findIn K (.ref C) "__setattr__"=some (some (.builtin "object.__setattr__"))
theorem Ec.get{K:Frag}{C:Addr}(c:Ec K C)(f:Str):PySem.W.plainGet K C f=true:=c.pg
def cP(K:Frag)(C:Addr)(f:Str):Prop:=PySem.W.findIn K (.ref C) f=some none
theorem cP.ab6{K:Frag}{C:Addr}{f:Str}(n:cP K C f):takerIn K C f=some none:=by
 unfold takerIn;rw[show PySem.W.findIn K (.ref C) f=some none from n];rfl
structure Meth(K:Frag)(C:Addr)(m:Str)(f:Addr):Prop where
 at_:PySem.W.findIn K (.ref C) m=some (some (.ref f))
 fn:PySem.W.isFn K (.ref f)=true
 kp:PySem.W.keepIn K (.ref f)=true
section
variable{X:Cx}{pins:aL}{σ:St}{H:Hp}{s:Shared}{a C dx:Addr}{fs:iM}{f:Str}{v:V}{A:Around}{E:Value→Shared→Prop}
theorem E_{b:Bool}{Q:Value→Shared→Prop}(I:Inv X pins σ H s)(e:H a=some (.ins C dx fs))(c:Ec X.K C)(n:cP X.K C f)(l:fs.lookup f=some v)
 (h:∀u s',Inv X pins σ H s'→RelV v u→Q u s'):wpAny (model X.prog X.w) A (getAttr (.ref a) f b) Q E s:=by
 obtain⟨mA,O,r,_,_,_⟩:=wu I.bC e;obtain⟨u,hu,ru⟩:=lB.some_of (v:=v) (o:=mA f) (by rw[←l];exact r f);exact jai I.lA O (c.get f) c.hd n hu (zI ru) (h u _ (I.tok _) ru)
theorem oY{m:Str}{g:Addr}{pl:Sem Bool}{Q:Value×aA→Shared→Prop}(I:Inv X pins σ H s)(e:H a=some (.ins C dx fs))(c:Ec X.K C)(k:Meth X.K C m g)(l:fs.lookup m=none)
 (h:Q (.ref g,[.ref a]) s):wpAny (model X.prog X.w) A (getMethod (.ref a) m pl) Q E s:=by
 obtain⟨mA,O,r,_,_,_⟩:=wu I.bC e;have hn:mA m=none:=lB.none_of (by rw[←l];exact r m);exact Nx I.lA O (c.get m) k.at_ k.fn hn h
theorem EJ{y:V}{u:Value}{Q:Unit→Shared→Prop}(I:Inv X pins σ H s)(e:H a=some (.ins C dx fs))(c:Ec X.K C)(n:cP X.K C f)(hl:fs.length<1000)(ry:RelV y u)
 (h:∀s',Inv X pins σ (upd H a (.ins C dx (cq f y fs))) s'→Q () s'):wpAny (model X.prog X.w) A (setAttr (.ref a) f u) Q E s:=by
 obtain⟨mA,O,r,wi,_,ho⟩:=wu I.bC e;have hz:(fs.map (·.1)).length≤sizeLine:=by rw[List.length_map,sizeLine_eq];lia
 refine Qo I.lA O c.sa c.po n.ab6 c.hd wi hz fun h' O' sb=>h _ ?_;have hd:∃o,h'.get? dx=some o:=let⟨o,_,_,e',_⟩:=O'.ns;⟨o,e'⟩
 refine I.write (x:=a) (e:=dx) (by rw[e];exact True.intro) (.inr ho) (fun b q hb z=>(sb.2 b hb).trans z) hd ?_;refine⟨by rw[af O.ne];exact ho,?_,O.ne,O'.obj,_,O'.ns,fun g=> ?_,fun g hg=> ?_⟩
 ·have:=cy f y fs;lia
 ·show lB ((cq f y fs).lookup g) (if g=f then some u else mA g);rw[aJ];by_cases q:g=f
  ·rw[if_pos q,if_pos q];exact ry
  ·rw[if_neg q,if_neg q];exact r g
 ·by_cases q:g=f
  ·rw[q];exact(ux f y fs).1
  ·refine(ux f y fs).2 g (wi g fun z=>hg ?_);show(if g=f then some u else mA g)=none;rw[if_neg q];exact z
theorem Inv.made(I:Inv X pins σ H s):Inv X pins σ (upd (upd H s.heap.objs.size (.own (s.heap.objs.size+1))) (s.heap.objs.size+1) (.ins C s.heap.objs.size []))
 {s with heap:=(s.heap.push emptyDict).push (instObj C s.heap.objs.size)}:=by
 have e1:(s.heap.push emptyDict).get? s.heap.objs.size=some emptyDict:=Heap.get?_push_size s.heap rfl
 have e2:((s.heap.push emptyDict).push (instObj C s.heap.objs.size)).get? (s.heap.objs.size+1)=some (instObj C s.heap.objs.size):=by
  have:=Heap.get?_push_size (s.heap.push emptyDict) (o:=instObj C s.heap.objs.size) rfl;rwa[Heap.size_push] at this
 have e3:(s.heap.push emptyDict).Ns s.heap.objs.size (fun _=>none):=⟨emptyDict,#[],_,e1,rfl,(fun e he=>absurd he (by simp)),fun _=>rfl⟩;have I1:=I.laid (a:=s.heap.objs.size) (o:= .own (s.heap.objs.size+1)) (h' :=s.heap.push emptyDict) (t' :=s.toks) (fun b u q=>Heap.get?_push_of_some _ q) (Nat.le_refl _) ⟨_,e1⟩;refine I1.laid (a:=s.heap.objs.size+1) (o:= .ins C s.heap.objs.size []) (t' :=s.toks) (fun b u q=>Heap.get?_push_of_some _ q) (Nat.le_of_eq (Heap.size_push _ _)) ?_;have ne:s.heap.objs.size≠s.heap.objs.size+1:=Nat.ne_of_lt (Nat.lt_succ_self _);refine⟨by rw[af ne,ae],Nat.zero_le _,ne,e2,fun _=>none,(Heap.Ns1.of_empty e3).at fun o q=>Heap.get?_push_of_some _ q,fun _=>True.intro,fun y hy=>absurd rfl hy⟩
theorem FK{prog:Program}{w:World}{env:Env}{e:Expr}{f:Str}{pos:Pos}{s:Shared}{Q:Value→Shared→Prop}(hb:attributeBase e f env (eval e env)=eval e env)
 (h:wpAny (model prog w) A (eval e env) (fun o bE=>wpAny (model prog w) A (getAttr o f true) Q E bE) E s):wpAny (model prog w) A (eval (.Attribute e f pos) env) Q E s:=
 Attribute_any_ h (by rw[arm_eval_Attribute,hb])
end
def YS(K:Frag)(ta:TE)(f:Str):TE:=fun σ H Q=>ta σ H fun x H1=>∃a C dx fs v,x= .ref a∧H1 a=some (.ins C dx fs)∧Ec K C∧cP K C f∧fs.lookup f=some v∧Q v H1
def ahp(K:Frag)(ta tv:TE)(f:Str):TS:=fun D σ H=>tv σ H fun y H1=>ta σ H1 fun x H2=>∃a C dx fs,x= .ref a∧H2 a=some (.ins C dx fs)∧Ec K C∧cP K C f∧fs.length<1000∧
 D.nx σ (upd H2 a (.ins C dx (cq f y fs)))
section
variable{X:Cx}{o e value:Expr}{f:Str}{pos pos' aey:Pos}{ta tv:TE}
theorem b8(he:PE X e ta)(hb:attributeBase e f X.env (eval e X.env)=eval e X.env):PE X (.Attribute e f pos) (YS X.K ta f):=by
 intro pins s σ H Q I h;refine FK hb (ck (he pins s σ H _ I h) fun u s1 ⟨x,H1,I1,rx,a,C,dx,fs,v,ex,ea,c,n,l,q⟩=> ?_);subst ex;obtain rfl:u=Value.ref a:=rx;exact E_ I1 ea c n l fun u' s2 I2 ru=>⟨v,H1,I2,ru,q⟩
theorem kB(ha:PE X o ta)(hv:PE X value tv)(hs:swapsWith value (some (.Attribute o f pos')) pos.line X.env=pure false):PS X (.Assign [.Attribute o f pos'] value pos) (ahp X.K ta tv f):=by
 intro pins s σ H D I h;refine plainObj_wpAny_Assign_Attribute (ck (hv pins s σ H _ I h) fun u s1 ⟨y,H1,I1,ry,q⟩=>ck (ha pins s1 σ H1 _ I1 q) fun ov s2 ⟨x,H2,I2,rx,a,C,dx,fs,ex,ea,c,n,l,q2⟩=> ?_) hs;subst ex;obtain rfl:ov=Value.ref a:=rx;exact EJ I2 ea c n l ry fun s3 I3=>⟨σ,_,I3,q2⟩
theorem Q1{pl:Sem Bool}{m:Str}{apos:Pos}{args:cQ}{pins:aL}{s:Shared}{σ:St}{H:Hp}{Q:Value→Shared→Prop}{te:TE}(he:PE X e te)(I:Inv X pins σ H s)
 (h:te σ H fun x H1=>∃a C dx fs g,x= .ref a∧H1 a=some (.ins C dx fs)∧Ec X.K C∧Meth X.K C m g∧fs.lookup m=none∧
  ∀s1,Inv X pins σ H1 s1→wpAny (model X.prog X.w) X.A (callWith pos (.ref g) [.ref a] (backTo pos (starEach args X.env)) (backToKw pos (keywordEach [] X.env))) Q X.xe s1)
 (ht:eval (.Call (.Attribute e m apos) args [] pos) X.env=(do
  let ov←eval e X.env
  standAt apos.atName
  let(f,first)←holding [ov] (getMethod ov m pl)
  callWith pos f first (backTo pos (starEach args X.env)) (backToKw pos (keywordEach [] X.env)))):
 wpAny (model X.prog X.w) X.A (eval (.Call (.Attribute e m apos) args [] pos) X.env) Q X.xe s:=by
 refine methodCall_KW (pl:=pl) (ck (he pins s σ H _ I h) fun u s1 ⟨x,H1,I1,rx,a,C,dx,fs,g,ex,ea,c,k,l,q⟩=> ?_) ht;subst ex;obtain rfl:u=Value.ref a:=rx;exact oY I1 ea c k l (q s1 I1)
end
section
variable{X:Cx}{pins:aL}{σ:St}{H:Hp}{s:Shared}{A:Around}{E:Value→Shared→Prop}{Q:Value→Shared→Prop}{c:Value}{b:Bool}
inductive sF (K:Frag) (H:Hp):V→Value→Prop where
 |bH:sF K H .bH (.type "NoneType")
 |bl (x:Bool):sF K H (.bl x) (.type "bool")
 |int (i:Int):sF K H (.int i) (.type "int")
 |str (x:Str):sF K H (.str x) (.type "str")
 |WA (x:UInt64):sF K H (.WA x) (.type "float")
 |lst {a:Addr} {xs:az} (e:H a=some (.lst xs)):sF K H (.ref a) (.type "list")
 |gE {a:Addr} {o:Obj} {xs:az} (e:H a=some (.gE o (.lst xs))):sF K H (.ref a) (.type "list")
 |tup {a:Addr} {xs:az} (e:H a=some (.tup xs)):sF K H (.ref a) (.type "tuple")
 |dK {a:Addr} {kvs:bJ} (e:H a=some (.dK kvs)):sF K H (.ref a) (.type "dict")
 |dT {a:Addr} {kvs:dJ} (e:H a=some (.dT kvs)):sF K H (.ref a) (.type "dict")
 |ins {a C dx:Addr} {fs:iM} (e:H a=some (.ins C dx fs)) (cl:Ec K C) (ha:PySem.W.findIn K (.ref C) "__class__"=some (some (.builtin "object.__class__")))
  (hn:PySem.W.specialIn K (.builtin "object.__class__") "__get__"=some (some (.builtin "getset_descriptor.__get__"))) (VS:PySem.W.takesIn K (.builtin "object.__class__")=some true)
  (hm:PySem.W.mroIn K C (.type "object")=some true):sF K H (.ref a) (.ref C)
theorem zM{x:V}{u t:Value}(I:Inv X pins σ H s)(rx:RelV x u)(ty:sF X.K H x t)(e:kitOne X.K t c=some b)(h:∀tk,Q (.bool b) {s with toks:=tk}):
 wpAny (model X.prog X.w) A (call (.builtin "isinstance") [u,c]) Q E s:=by
 cases ty with
 |bH=>cases(show u=Value.none from rx);exact kia_one PySem.W.kitx_none I.lA True.intro e (fun z=>nomatch z) h
 |bl y=>cases(show u=Value.bool y from rx);exact kia_one PySem.W.kitx_bool I.lA True.intro e (fun z=>nomatch z) h
 |int i=>obtain⟨t,q⟩:=(show ∃t,u=Value.int i t from rx);cases q;exact kia_one PySem.W.kitx_int I.lA True.intro e (fun z=>nomatch z) h
 |str y=>obtain⟨t,q⟩:=(show ∃t,u=Value.str y t from rx);cases q;exact kia_one PySem.W.kitx_str I.lA True.intro e (fun z=>nomatch z) h
 |WA y=>obtain⟨t,q⟩:=(show ∃t,u=Value.float y t from rx);cases q;exact kia_one PySem.W.kitx_float I.lA True.intro e (fun z=>nomatch z) h
 | @lst a xs ea=>
  cases(show u=Value.ref a from rx);obtain⟨_,_,n,_,h1⟩:=(show bq X.prog X.w H s.heap a (.lst xs) from I.bC a _ ea);exact kia_one kitx_list I.lA ⟨_,h1,rfl⟩ e (fun z=>nomatch z) h
 | @gE a ob xs ea=>
  cases(show u=Value.ref a from rx);obtain⟨_,_,_,n,_,h1⟩:=(show bq X.prog X.w H s.heap a (.gE ob (.lst xs)) from I.bC a _ ea);exact kia_one kitx_list I.lA ⟨_,h1,rfl⟩ e (fun z=>nomatch z) h
 | @tup a xs ea=>
  cases(show u=Value.ref a from rx);obtain⟨_,_,_,p⟩:=(show bq X.prog X.w H s.heap a (.tup xs) from I.bC a _ ea);obtain⟨o,h1,h2,_⟩:=p;exact kia_one PySem.W.kitx_tuple I.lA ⟨o,h1,h2⟩ e (fun z=>nomatch z) h
 | @dK a kvs ea=>
  cases(show u=Value.ref a from rx);obtain⟨_,_,vs,_,p⟩:=(show bq X.prog X.w H s.heap a (.dK kvs) from I.bC a _ ea);obtain⟨o,es,ep,h1,h2,_⟩:=p;exact kia_one kitx_dict I.lA ⟨o,h1,h2.1⟩ e (fun z=>nomatch z) h
 | @dT a kvs ea=>
  cases(show u=Value.ref a from rx);obtain⟨_,_,xs,_,o,es,ep,h1,h2,_⟩:=(show bq X.prog X.w H s.heap a (.dT kvs) from I.bC a _ ea);exact kia_one kitx_dict I.lA ⟨o,h1,h2.1⟩ e (fun z=>nomatch z) h
 | @ins a C dx fs ea cl ha hn VS hm=>
  cases(show u=Value.ref a from rx);obtain⟨mA,O,_⟩:=wu I.bC ea;obtain⟨od,J,_⟩:=O.look;exact kia_one (PySem.W.kitx_own (cl.get _) cl.hd ha hn VS hm) I.lA J e (fun z=>nomatch z) h
end
structure eQ(k:Nat)(A:Around):Prop where
 hd:A.handled=none
 dp:A.depth+3*k+5<recursionLimit
 un:A.units+16*k+200<cLine
 gd:A.guards=some []
theorem eQ.mono{j k:Nat}{A:Around}(r:eQ k A)(h:j≤k):eQ j A:=⟨r.hd,by have:=r.dp;lia,by have:=r.un;lia,r.gd⟩
theorem eQ.deeper{k:Nat}{A:Around}(r:eQ (k+1) A)(env:Env):eQ k (A.deeper env):=
 ⟨r.hd,by have:=r.dp;show A.depth+1+3*k+5<_;lia,by have:=r.un;show A.units+3+16*k+200<_;lia,r.gd⟩
theorem eQ.in1{k:Nat}{A:Around}(r:eQ (k+1) A):eQ k A.in1:=
 ⟨r.hd,by have:=r.dp;show A.depth+3*k+5<_;lia,by have:=r.un;show A.units+1+16*k+200<_;lia,r.gd⟩
theorem Fd{A:Around}{C:Addr}{us:aA}{kw:List (Str×Value)}:(A.under (.builtin "type.__call__" ⟨.ref C::us,kw⟩)).depth=A.depth+1:=by
 first|rfl|simp[Around.under,Code.weight,Code.isCreation,Code.isGuard,Code.isCaller,Code.frames,Code.isFrame,guardIds]
theorem DZ{A:Around}{C:Addr}{us:aA}{kw:List (Str×Value)}:(A.under (.builtin "type.__call__" ⟨.ref C::us,kw⟩)).units=A.units+1:=by
 first|rfl|simp[Around.under,Code.cUnits,Code.frames,Code.isFrame]
theorem DP{A:Around}{C:Addr}{us:aA}{kw:List (Str×Value)}{g:List Code}(h:A.guards=some g):(A.under (.builtin "type.__call__" ⟨.ref C::us,kw⟩)).guards=some g:=by
 have e:(Code.builtin "type.__call__" ⟨.ref C::us,kw⟩).guards=[]:=by first|rfl|simp[Code.guards,Code.isGuard,guardIds]
 first
  |(simp only[Around.under,e,pushGuards];exact h)
  |simp[Around.under,e,pushGuards,h]
theorem eQ.make{k:Nat}{A:Around}(r:eQ (k+1) A)(C:Addr)(us:aA)(kw:List (Str×Value)):eQ k (A.under (.builtin "type.__call__" ⟨.ref C::us,kw⟩)):=
 ⟨r.hd,by have:=r.dp;rw[Fd];lia,by have:=r.un;rw[DZ];lia,DP r.gd⟩
theorem eQ.depth{k:Nat}{A:Around}(r:eQ k A):A.depth<recursionLimit:=by have:=r.dp;lia
theorem eQ.units{k:Nat}{A:Around}(r:eQ k A):A.units+64<cLine:=by have:=r.un;lia
theorem eQ.D7{k:Nat}{A:Around}(r:eQ k A):A.units<cLine:=by have:=r.un;lia
def Zw:TA:=fun _ H Q=>Q [] H
def abh(ta:TE)(tr:TA):TA:=fun σ H Q=>ta σ H fun x H1=>tr σ H1 fun xs H2=>Q (x::xs) H2
section
variable{X:Cx}{e:Expr}{es:cQ}{te:TE}{t:TA}{pos:Pos}
theorem ah:PA X [] Zw:=fun _ _ _ _ H Q I h=>Calls.spliced_nil ⟨[],H,I,.nil,h⟩
theorem aa(ha:PE X e te)(hr:PA X es t)(hs:starEach (e::es) X.env=(false,eval e X.env)::starEach es X.env:=by rfl):PA X (e::es) (abh te t):=by
 intro pos pins s σ H Q I h;rw[hs];show wpAny _ _ (spliced ((false,eval e X.env)::backTo pos (starEach es X.env))) _ _ s;refine Calls.spliced_cons (ck (ha pins s σ H _ I h) fun u s1 ⟨x,H1,I1,r1,q1⟩=> ?_);exact ck (hr pos pins s1 σ H1 _ I1 q1) fun us s2 ⟨xs,H2,I2,r2,q2⟩=>⟨x::xs,H2,I2,.cons r1 r2,q2⟩
def anM(t:TA):TE:=fun σ H Q=>t σ H fun xs H1=>xs.length≤sizeLine∧∀p,H1 p=none→Q (.ref p) (upd H1 p (.tup xs))
def afL(t:TA):TE:=fun σ H Q=>t σ H fun xs H1=>xs.length≤sizeLine∧∀p,H1 p=none→Q (.ref p) (upd H1 p (.lst xs))
theorem oR{x1}(h:PA X es t):PE X (.Tuple es x1 pos) (anM t):=by
 intro pins s σ H Q I hq;refine wpAny_Tuple_spliced (ck (h pos pins s σ H _ I hq) fun us s1 ⟨xs,H1,I1,r,z,q⟩=>⟨by rw[←r.length];exact z,?_⟩);have hf:H1 s1.heap.objs.size=none:=I1.bC.fresh (Nat.le_refl _);refine⟨.ref s1.heap.objs.size,upd H1 s1.heap.objs.size (.tup xs),I1.laid (t' :=s1.toks) (fun b u e=>Heap.get?_push_of_some _ e) (Nat.le_refl _) ?_,rfl,q _ hf⟩;exact⟨z,us,r,⟨_,Heap.get?_push_size _ rfl,rfl,_,rfl⟩⟩
theorem bN(h:PA X es t):PE X (.List es pos) (afL t):=by
 intro pins s σ H Q I hq;refine wpAny_List_spliced (ck (h pos pins s σ H _ I hq) fun us s1 ⟨xs,H1,I1,r,z,q⟩=>⟨by rw[←r.length];exact z,?_⟩);have hf:H1 s1.heap.objs.size=none:=I1.bC.fresh (Nat.le_refl _);refine⟨.ref s1.heap.objs.size,upd H1 s1.heap.objs.size (.lst xs),I1.laid (t' :=s1.toks) (fun b u e=>Heap.get?_push_of_some _ e) (Nat.le_refl _) ?_,rfl,q _ hf⟩;exact⟨z,us,0,r,Heap.get?_push_size _ rfl⟩
end
abbrev Sp:=az→Hp→VK→XK→Prop
abbrev AS:=List Env→Hp→Shared→XK→Value→Shared→Prop
structure x_(P:Program)(w:World)(K:Frag)(mg:Str→aH)(base:Heap)(A:Around)(outer:List Env)(s:Shared)(H:Hp):Prop where
 frames:A.frames=some outer
 mod:Mod K mg base
 bs:∀b o,base.get? b=some o→s.heap.get? b=some o∧H b=none
 GX:base.objs.size≤s.heap.objs.size
 se:s.heap.FunFrames base outer
 NR:∀b∈wd outer,H b=none
 bC:qI P w H s.heap
 bare:AllBare s.gens
def CE(outer:List Env)(P:Program)(w:World)(H:Hp)(s:Shared)(Q:VK)(u:Value)(s' :Shared):Prop:=
 ∃v H',s'.os=s.os∧AllBare s'.gens∧Un (wd outer) [] H H' s.heap s'.heap∧qI P w H' s'.heap∧RelV v u∧Q v H'
def CR(CX:AS)(outer:List Env)(P:Program)(w:World)(H:Hp)(s:Shared)(Q:VK)(E:XK)(r:Result)(s' :Shared):Prop:=
 match r with
 | .ok (.ret u)=>CE outer P w H s Q u s'
 | .ok _=>False
 | .error e=>CX outer H s E e s'
structure aV(P:Program)(w:World)(K:Frag)(mg:Str→aH)(base:Heap)(CX:AS)(k:Nat)(f:Addr)(fd:FuncData)(ps:aX)(sp:Sp):Prop where
 len:∀vs H Q E,sp vs H Q E→vs.length=ps.length
 run:∀(A:Around) (outer:List Env) (s:Shared) (H:Hp) (args:Args) (us:aA) (vs:az) (Q:VK) (E:XK),eQ k A→x_ P w K mg base A outer s H→BindsTo s fd args (ps.zip us)→Vals vs us→sp vs H Q E→
  codeAny (model P w) A (.call (.ref f) args) (CR CX outer P w H s Q E) s
theorem aV.mono{P:Program}{w:World}{K:Frag}{mg:Str→aH}{base:Heap}{CX:AS}{j k:Nat}{f:Addr}{fd:FuncData}{ps:aX}{sp:Sp}(F:aV P w K mg base CX j f fd ps sp)(h:j≤k):
 aV P w K mg base CX k f fd ps sp:=⟨F.len,fun A outer s H args us vs Q E hr=>F.run A outer s H args us vs Q E (hr.mono h)⟩
theorem aV.imp{P:Program}{w:World}{K:Frag}{mg:Str→aH}{base:Heap}{CX:AS}{k:Nat}{f:Addr}{fd:FuncData}{ps:aX}{sp sp' :Sp}(F:aV P w K mg base CX k f fd ps sp)
 (h:∀vs H Q E,sp' vs H Q E→sp vs H Q E):aV P w K mg base CX k f fd ps sp' :=
 ⟨fun vs H Q E q=>F.len vs H Q E (h _ _ _ _ q),fun A outer s H args us vs Q E hr he hb hv hs=>F.run A outer s H args us vs Q E hr he hb hv (h _ _ _ _ hs)⟩
theorem x_.make{P:Program}{w:World}{K:Frag}{mg:Str→aH}{base:Heap}{A:Around}{outer:List Env}{s:Shared}{H:Hp}(e:x_ P w K mg base A outer s H)(C:Addr)(us:aA)(kw:List (Str×Value)):
 x_ P w K mg base (A.under (.builtin "type.__call__" ⟨.ref C::us,kw⟩)) outer s H:=⟨by first|exact e.frames|(simpa[Around.under,Code.envs,Code.isFrame,pushEnvs] using e.frames),e.mod,e.bs,e.GX,e.se,e.NR,e.bC,e.bare⟩
theorem x_.in1{P:Program}{w:World}{K:Frag}{mg:Str→aH}{base:Heap}{A:Around}{outer:List Env}{s:Shared}{H:Hp}(e:x_ P w K mg base A outer s H):
 x_ P w K mg base A.in1 outer s H:=⟨e.frames,e.mod,e.bs,e.GX,e.se,e.NR,e.bC,e.bare⟩
section
variable{X:Cx}{pins:aL}{σ:St}{H:Hp}{s s' :Shared}
theorem Inv.PZ(I:Inv X pins σ H s):x_ X.prog X.w X.K X.mg X.base X.A X.stack s H:=
 ⟨I.ok.frames,I.ok.mod,I.bs,Nat.le_trans I.ok.GX I.sz,I.stack,I.wA,I.bC,I.bare⟩
theorem Inv.after{Q:VK}{u:Value}(I:Inv X pins σ H s)(h:CE X.stack X.prog X.w H s Q u s'):EP X pins σ Q u s' :=by
 obtain⟨v,H',os,bare,un,bC,r,q⟩:=h;obtain⟨hh,g,d,t,os'⟩:=s';obtain rfl:os' =s.os:=os;exact⟨v,H',I.call (h' :=hh) (g' :=g) (d' :=d) (t' :=t) (ch:=[]) un bC bare (fun b z=>absurd z (by simp)),r,q⟩
end
def QP(sp:Sp)(qW:az)(E:XK)(t:TA):TE:=fun σ H Q=>t σ H fun vs H1=>sp (vs++qW) H1 Q E
def SD(C:Addr)(m:Str)(sp:Sp)(qW:az)(E:XK)(ta:TE)(t:TA):TE:=fun σ H Q=>ta σ H fun x H1=>∃a dx fs,x= .ref a∧H1 a=some (.ins C dx fs)∧fs.lookup m=none∧
 t σ H1 fun vs H2=>sp (x::(vs++qW)) H2 Q E
def acu(C:Addr)(sp:Sp)(qW:az)(E:XK)(t:TA):TE:=fun σ H Q=>t σ H fun vs H1=>∀x dx,H1 x=none→H1 dx=none→dx≠x→
 sp (.ref x::(vs++qW)) (upd (upd H1 dx (.own x)) x (.ins C dx [])) (fun v H2=>v= .bH∧Q (.ref x) H2) E
def Binds(K:Frag)(fd:FuncData)(ps:aX)(ds:aA):Prop:=
 ∀(s:Shared) (us:aA),K.In s.heap→(us++ds).length=ps.length→BindsTo s fd ⟨us,[]⟩ (ps.zip (us++ds))
theorem Binds.all{K:Frag}{fd:FuncData}{ps:aX}(h:∀us:aA,us.length=ps.length→bindArgs fd ⟨us,[]⟩=pure (ps.zip us)):Binds K fd ps []:=fun s us _ hl=>by
 rw[List.append_nil] at hl ⊢;exact .of_eq (h us hl)
def wT(CX:AS)(X:Cx)(E:XK):Prop:=∀(pins:aL) (σ:St) (H:Hp) (s:Shared) (e:Value) (s' :Shared),Inv X pins σ H s→CX X.stack H s E e s'→X.xe e s'
section
variable{X:Cx}{CX:AS}{k:Nat}{f C:Addr}{fd:FuncData}{ps:aX}{sp:Sp}{qW:az}{ds:aA}{E:XK}{x m:Str}{p pos apos:Pos}{e o:Expr}{es:cQ}{ta:TE}{t:TA}
theorem AU{pins:aL}{σ:St}{H:Hp}{s:Shared}{Q:VK}{us:aA}{vs:az}(F:aV X.prog X.w X.K X.mg X.base CX k f fd ps sp)(hr:eQ k X.A)(hb:Binds X.K fd ps ds)(hd:Vals qW ds)(hx:wT CX X E)
 (I:Inv X pins σ H s) (r:Vals vs us) (h:sp (vs++qW) H Q E):wpAny (model X.prog X.w) X.A (call (.ref f) us) (EP X pins σ Q) X.xe s:=by
 have r2:Vals (vs++qW) (us++ds):=r.append hd;have hl:(us++ds).length=ps.length:=by rw[←r2.length];exact F.len _ _ _ _ h
 refine wpAny_call (codeAny_mono (F.run X.A X.stack s H ⟨us,[]⟩ (us++ds) (vs++qW) Q E hr I.PZ (hb s us I.lA hl) r2 h) fun r s' hq=> ?_)
 cases r with
 |error e=>exact hx pins σ H s e s' I hq
 |ok fl=>
  cases fl with
  |ret u=>exact I.after hq
  |next=>exact False.elim hq
  |brk=>exact False.elim hq
  |cont=>exact False.elim hq
theorem ay(F:aV X.prog X.w X.K X.mg X.base CX k f fd ps sp)(hr:eQ k X.A)(hg:Gl X x)(hm:X.mg x=some (.ref f))(hk:PySem.W.keepIn X.K (.ref f)=true)(hb:Binds X.K fd ps ds)(hd:Vals qW ds)(hx:wT CX X E)
 (ha:PA X (e::es) t) (BU:(x==("__debug__" :Str))=false:=by decide) (he:starEach (e::es) X.env=(false,eval e X.env)::starEach es X.env:=by rfl) (rR:(backTo pos (starEach es X.env)).any (·.1)=false:=by rfl):
 PE X (.Call (.Name x p) (e::es) [] pos) (QP sp qW E t):=by
 intro pins s σ H Q I h;refine wpAny_Call_Name_kw (nE I hg hm ?_ BU);refine callWith_K (h₀:=X.base) I.ok.mod.NV hk (ck (ha pos pins s σ H _ I h) fun us s1 ⟨vs,H1,I1,r,q⟩=>⟨I1.lA,?_⟩) he rR;exact AU F hr hb hd hx I1 r q
theorem aR{pl:Sem Bool}(he:PE X o ta)(c:Ec X.K C)(hm:Meth X.K C m f)(F:aV X.prog X.w X.K X.mg X.base CX k f fd ps sp)(hr:eQ k X.A)(hb:Binds X.K fd ps ds)(hd:Vals qW ds)(hx:wT CX X E)(ha:PA X (e::es) t)
 (fE:starEach (e::es) X.env=(false,eval e X.env)::starEach es X.env:=by rfl) (rR:(backTo pos (starEach es X.env)).any (·.1)=false:=by rfl)
 (ht:eval (.Call (.Attribute o m apos) (e::es) [] pos) X.env=(do
  let ov←eval o X.env
  standAt apos.atName
  let(f,first)←holding [ov] (getMethod ov m pl)
  callWith pos f first (backTo pos (starEach (e::es) X.env)) (backToKw pos (keywordEach [] X.env))):=by rfl):
 PE X (.Call (.Attribute o m apos) (e::es) [] pos) (SD C m sp qW E ta t):=by
 intro pins s σ H Q I h;refine methodCall_KW (pl:=pl) (ck (he pins s σ H _ I h) fun u s1 ⟨x,H1,I1,rx,a,dx,fs,ex,ea,l,q⟩=> ?_) ht;subst ex;obtain rfl:u=Value.ref a:=rx;refine oY I1 ea c hm l ?_;refine callWith_K (first:=[.ref a]) (h₀:=X.base) I.ok.mod.NV hm.kp (ck (ha pos pins s1 σ H1 _ I1 q) fun us s2 ⟨vs,H2,I2,r,q2⟩=>⟨I2.lA,?_⟩) fE rR;exact AU (us:= .ref a::us) (vs:= .ref a::vs) F hr hb hd hx I2 (.cons rfl r) q2
theorem b_{pl:Sem Bool}(he:PE X o ta)(c:Ec X.K C)(hm:Meth X.K C m f)(F:aV X.prog X.w X.K X.mg X.base CX k f fd ps sp)(hr:eQ k X.A)(hb:Binds X.K fd ps ds)(hd:Vals qW ds)(hx:wT CX X E)
 (ht:eval (.Call (.Attribute o m apos) [] [] pos) X.env=(do
  let ov←eval o X.env
  standAt apos.atName
  let(f,first)←holding [ov] (getMethod ov m pl)
  callWith pos f first (backTo pos (starEach [] X.env)) (backToKw pos (keywordEach [] X.env))):=by rfl):
 PE X (.Call (.Attribute o m apos) [] [] pos) (SD C m sp qW E ta Zw):=by
 intro pins s σ H Q I h;refine methodCall_KW (pl:=pl) (ck (he pins s σ H _ I h) fun u s1 ⟨x,H1,I1,rx,a,dx,fs,ex,ea,l,q⟩=> ?_) ht;subst ex;obtain rfl:u=Value.ref a:=rx;refine oY I1 ea c hm l ?_;exact PySem.W.callWith_K0 (first:=[.ref a]) I1.lA hm.kp (AU (us:=[.ref a]) (vs:=[.ref a]) F hr hb hd hx I1 (.cons rfl .nil) q)
structure Mk(K:Frag)(C f:Addr):Prop where
 makes:PySem.W.makesIn K C=true
 init:PySem.W.findIn K (.ref C) "__init__"=some (some (.ref f))
 fn:PySem.W.isFn K (.ref f)=true
 kp:PySem.W.keepIn K (.ref C)=true
theorem JN{pins:aL}{σ:St}{H:Hp}{s:Shared}{Q:VK}{us:aA}{vs:az}(M:Mk X.K C f)(F:aV X.prog X.w X.K X.mg X.base CX k f fd ps sp)(hr:eQ (k+1) X.A)(hb:Binds X.K fd ps ds)(hd:Vals qW ds)
 (hx:wT CX X E) (I:Inv X pins σ H s) (r:Vals vs us)
 (h:∀x dx,H x=none→H dx=none→dx≠x→sp (.ref x::(vs++qW)) (upd (upd H dx (.own x)) x (.ins C dx [])) (fun v H2=>v= .bH∧Q (.ref x) H2) E):
 wpAny (model X.prog X.w) X.A (call (.ref C) us) (EP X pins σ Q) X.xe s:=by
 have hq:=h (s.heap.objs.size+1) s.heap.objs.size (I.bC.fresh (Nat.le_succ _)) (I.bC.fresh (Nat.le_refl _)) (Nat.ne_of_lt (Nat.lt_succ_self _));have I2:=Inv.made (C:=C) I;have r2:Vals (V.ref (s.heap.objs.size+1)::(vs++qW)) (Value.ref (s.heap.objs.size+1)::(us++ds)):= .cons rfl (r.append hd)
 have hl:(Value.ref (s.heap.objs.size+1)::us++ds).length=ps.length:=by
  have e:=r2.length;rw[F.len _ _ _ _ hq] at e;exact e.symm
 refine wpAny_call (J2 (f:=f) I.lA M.makes M.init (beq_iff_eq.mp M.fn) (codeAny_mono (F.run _ X.stack _ _ ⟨Value.ref (s.heap.objs.size+1)::us,[]⟩ (Value.ref (s.heap.objs.size+1)::(us++ds)) _ _ E (hr.make C us [])
  (I2.PZ.make C us []) (hb _ (Value.ref (s.heap.objs.size+1)::us) I2.lA hl) r2 hq) fun r s' Le => ?_))
 cases r with
 |error e=>exact hx pins σ _ _ e s' I2 Le
 |ok fl=>
  cases fl with
  |ret u=>
   obtain⟨v,H',I3,rv,ev,q3⟩:=I2.after Le;subst ev;exact⟨rv,⟨V.ref (s.heap.objs.size+1),H',I3,rfl,q3⟩⟩
  |next=>exact False.elim Le
  |brk=>exact False.elim Le
  |cont=>exact False.elim Le
theorem wq(M:Mk X.K C f)(F:aV X.prog X.w X.K X.mg X.base CX k f fd ps sp)(hr:eQ (k+1) X.A)(hg:Gl X x)(hm:X.mg x=some (.ref C))(hb:Binds X.K fd ps ds)(hd:Vals qW ds)(hx:wT CX X E)
 (ha:PA X (e::es) t) (BU:(x==("__debug__" :Str))=false:=by decide) (he:starEach (e::es) X.env=(false,eval e X.env)::starEach es X.env:=by rfl) (rR:(backTo pos (starEach es X.env)).any (·.1)=false:=by rfl):
 PE X (.Call (.Name x p) (e::es) [] pos) (acu C sp qW E t):=by
 intro pins s σ H Q I h;refine wpAny_Call_Name_kw (nE I hg hm ?_ BU);refine callWith_K (h₀:=X.base) I.ok.mod.NV M.kp (ck (ha pos pins s σ H _ I h) fun us s1 ⟨vs,H1,I1,r,q⟩=>⟨I1.lA,?_⟩) he rR;exact JN M F hr hb hd hx I1 r q
end
section
variable{X:Cx}{CX:AS}{k:Nat}{f C:Addr}{fd:FuncData}{ps ks:aX}{sp:Sp}{E:XK}{x m:Str}{p pos apos ayb:Pos}{e o:Expr}{es:cQ}{kws:List Keyword}{te ta:TE}{t tk:TA}{nm:Option Str}
variable{g:aA→aA→aA}{gV:az→az→az}
end
structure aB(N P:aX)(sc:Scope):Prop where
 kind:sc.kind= .function
 co:sc.isCoroutine=false
 gen:sc.isGenerator=false
 nd:N.Nodup
 pre:N.take P.length=P
 par:∀x∈P,sc.names.lookup x=some .local∨sc.names.lookup x=some .cell
 U9:∀y∈sc.names,y.2≠.free
theorem Av{kindOf:Str→Option NameKind}{x:Str}:∀{binds:List (Str×Value)} {m:Str→aH},(∀v,(x,v)∉binds)→bindL kindOf binds m x=m x
 |[],_,_=>rfl
 |(n,v)::r,m,h=>by
  unfold bindL;rw[Av fun w hw=>h w (List.mem_cons_of_mem _ hw)]
  split
  ·have:x≠n:=by rintro rfl;exact h v List.mem_cons_self
   simp[this]
  ·rfl
theorem z4{kindOf:Str→Option NameKind}{x:Str}:∀{binds:List (Str×Value)} {m:Str→aH},(∀v,(x,v)∉binds)→bindC kindOf binds m x=m x
 |[],_,_=>rfl
 |(n,v)::r,m,h=>by
  unfold bindC;rw[z4 fun w hw=>h w (List.mem_cons_of_mem _ hw)]
  split
  ·rfl
  ·have:x≠n:=by rintro rfl;exact h v List.mem_cons_self
   simp[this]
theorem An{kindOf:Str→Option NameKind}{x:Str}{v:Value}:∀{P:aX} {vs:aA} {i:Nat} {m:Str→aH},P.Nodup→P[i]? =some x→vs[i]? =some v→kindOf x=some .local→
 bindL kindOf (P.zip vs) m x=some v
 |[],_,_,_,_,h,_,_=>by simp at h
 |_::_,[],_,_,_,_,h,_=>by simp at h
 |p::P,w::vs,0,m,nd,h1,h2,hk=>by
  simp at h1 h2;subst h1;subst h2
  show bindL kindOf ((p,w)::P.zip vs) m p=_;unfold bindL;rw[Av fun v hv=>(List.nodup_cons.mp nd).1 (List.of_mem_zip hv).1,if_pos hk];simp
 |p::P,w::vs,i+1,m,nd,h1,h2,hk=>by
  show bindL kindOf ((p,w)::P.zip vs) m x=_;unfold bindL;exact An (i:=i) (List.nodup_cons.mp nd).2 (by simpa using h1) (by simpa using h2) hk
theorem zZ{kindOf:Str→Option NameKind}{x:Str}{v:Value}:∀{P:aX} {vs:aA} {i:Nat} {m:Str→aH},P.Nodup→P[i]? =some x→vs[i]? =some v→kindOf x≠some .local→
 bindC kindOf (P.zip vs) m x=some v
 |[],_,_,_,_,h,_,_=>by simp at h
 |_::_,[],_,_,_,_,h,_=>by simp at h
 |p::P,w::vs,0,m,nd,h1,h2,hk=>by
  simp at h1 h2;subst h1;subst h2
  show bindC kindOf ((p,w)::P.zip vs) m p=_;unfold bindC;rw[z4 fun v hv=>(List.nodup_cons.mp nd).1 (List.of_mem_zip hv).1,if_neg hk];simp
 |p::P,w::vs,i+1,m,nd,h1,h2,hk=>by
  show bindC kindOf ((p,w)::P.zip vs) m x=_;unfold bindC;exact zZ (i:=i) (List.nodup_cons.mp nd).2 (by simpa using h1) (by simpa using h2) hk
def zn(N:aX)(vs:az):St:=vs.map some++List.replicate (N.length - vs.length) none
def B9(CX:AS)(P:Program)(w:World)(K:Frag)(mg:Str→aH)(base:Heap)(N:aX)(qual:Str)(scope:Scope)(f:Addr)(cd:Value)(A:Around)(outer:List Env)(s:Shared)(H:Hp)(E:XK):Cx where
 prog:=P
 w:=w
 K:=K
 mg:=mg
 base:=base
 A:=A.deeper (envOfC qual scope s.heap.objs.size f cd)
 N:=N
 fM:=s
 H₀:=H
 env:=envOfC qual scope s.heap.objs.size f cd
 outer:=outer
 stack:=envOfC qual scope s.heap.objs.size f cd::outer
 ex:=[]
 calm:=true
 fn:=fun _=>true
 pn:=[]
 xe:=fun e s' =>wpAny (model P w) (A.deeper (envOfC qual scope s.heap.objs.size f cd)) (leaving (envOfC qual scope s.heap.objs.size f cd) e) (fun _ Lu =>CX outer H s E e Lu) (fun e' Lu =>CX outer H s E e' Lu) s'
theorem CZ{sc:Scope}{n:Nat}{x:Str}(h:sc.names.lookup x=some .cell):∃c,(cellsFrom n sc.names []).lookup x=some c:=by
 have q:=cellsFrom_some sc.names n [] (.inl h);exact Option.isSome_iff_exists.mp q
theorem Hl{CX:AS}{P:Program}{w:World}{K:Frag}{mg:Str→aH}{base:Heap}{N ps:aX}{qual:Str}{scope:Scope}{f:Addr}{cd:Value}{A:Around}{outer:List Env}{s s1:Shared}{H:Hp}{E:XK}{us:aA}{vs:az}
 (S:aB N ps scope) (hd:A.handled=none) (e0:x_ P w K mg base A outer s H) (hl:vs.length=ps.length) (r:Vals vs us)
 (x:InCallC s s.heap.objs.size (bindL (envOfC qual scope s.heap.objs.size f cd).kindOf (ps.zip us) fun _=>none) (cellsFrom (s.heap.objs.size+1) scope.names []) (bindC (envOfC qual scope s.heap.objs.size f cd).kindOf (ps.zip us) fun _=>none) s1):
 Inv (B9 CX P w K mg base N qual scope f cd A outer s H E) [] (zn N vs) H s1:=by
 have rR:ps.length≤N.length:=by have:=congrArg List.length S.pre;rw[List.length_take] at this;lia
 obtain⟨h1,tk,rfl,hk⟩:=x.done;have noA:∀b:Addr,b∉(B9 CX P w K mg base N qual scope f cd A outer s H E).ex:=fun b z=>absurd (show b∈([]:aY) from z) (by simp)
 refine⟨⟨e0.mod,S.kind,rfl,rfl,Nat.le_refl _,fun y z c h1 h2=> ?_,fun y hy=> ?_,fun y c _ h=> ?_,fun _=>hd,Around.frames_deeper e0.frames,.inr ⟨rfl,rfl⟩,fun b z=>absurd z (noA b),e0.bs,e0.GX,fun b _ _=>noA b,fun b z=>absurd z (noA b),e0.se,e0.NR⟩,
  rfl,e0.bare,Un.kept hk,⟨_,x.toInCall.ns,fun i y v h1 h2 h3=> ?_⟩,fun y c h=>⟨_,x.cell y c h⟩,e0.bC.fresh (Nat.le_refl _),fun y c h=> ?_,fun p hp=>absurd (show p∈([]:aL) from hp) (by simp),e0.bC.kept hk,?_⟩
 ·exact name_of_addr x.apart (PySem.mem_of_lookup h1) (PySem.mem_of_lookup h2)
 ·have hy:scope.names.lookup y=some .cell∨scope.names.lookup y=some .free:=hy;rcases hy with hy|hy
  ·exact CZ hy
  ·exact absurd rfl (S.U9 _ (PySem.mem_of_lookup hy))
 ·exact Nat.le_of_lt (x.above y c (PySem.mem_of_lookup h))
 ·have hi:i<vs.length:=by
   unfold zn at h2;by_cases hi:i<vs.length
   ·exact hi
   ·rw[List.getElem?_append_right (by simpa using hi)] at h2;rw[List.getElem?_replicate] at h2
    split at h2<;>cases h2
  have ha:vs[i]? =some v:=by
   unfold zn at h2;rw[List.getElem?_append_left (by simpa using hi),List.getElem?_map] at h2
   cases e:vs[i]? with
   |none=>rw[e] at h2;cases h2
   |some a=>rw[e] at h2;cases h2;rfl
  obtain⟨u,hu,rv⟩:=r.get ha
  have hp:ps[i]? =some y:=by
   rw[←S.pre,List.getElem?_take_of_lt (by lia)];exact h1
  have ndP:ps.Nodup:=by rw[←S.pre];exact S.nd.sublist (List.take_sublist _ _)
  refine⟨u,rv,?_⟩;rcases S.par y (List.mem_of_getElem? hp) with k|k
  ·exact .inl ⟨k,An ndP hp hu k⟩
  ·obtain⟨c,e⟩:=CZ (n:=s.heap.objs.size+1) k;refine .inr ⟨.inl k,c,e,?_⟩;have q:=x.cell y c e;rw[zZ ndP hp hu (by show scope.names.lookup y≠_;rw[k];decide)] at q;exact q
 ·exact e0.bC.fresh (Nat.le_of_lt (x.above y c (PySem.mem_of_lookup h)))
 ·unfold zn;show _=N.length;rw[List.length_append,List.length_map,List.length_replicate]
  lia
theorem SJ{CX:AS}{P:Program}{w:World}{K:Frag}{mg:Str→aH}{base:Heap}{k:Nat}{f:Addr}{name qual:Str}{params:Arguments}{body:List Stmt}{scope:Scope}{dV kV doc pm cF ct oc:Value}{an od:Option Addr}
 {IF:Array (aH)} {N ps:aX} {sp:Sp} (lk:K.lookup f=some ⟨oc,od,.func (fnOf name qual params body scope dV kV doc pm an cF ct),IF⟩) (zF:PySem.W.codeIn K cF qual=true) (S:aB N ps scope)
 (len:∀vs H Q E,sp vs H Q E→vs.length=ps.length)
 (kU:∀(A:Around) (outer:List Env) (s:Shared) (H:Hp) (vs:az) (Q:VK) (E:XK),eQ k (A.deeper (envOfC qual scope s.heap.objs.size f cF))→sp vs H Q E→
  ∃t,zr (B9 CX P w K mg base N qual scope f cF A outer s H E) body t∧t {nx:=fun _ H' =>Q .bH H',rt:=Q} (zn N vs) H):
 aV P w K mg base CX (k+1) f (fnOf name qual params body scope dV kV doc pm an cF ct) ps sp:=by
 refine⟨len,fun A outer s H args us vs Q E hr e0 hb r NN=> ?_⟩;have hl:=len _ _ _ _ NN;have KX:K.In s.heap:=e0.mod.NV.keeps fun b o e=>(e0.bs b o e).1;have lim:s.heap.NoLimit:=e0.mod.nolimit.keeps fun b o e=>(e0.bs b o e).1
 have abj:∀y∈ps.zip us,scope.names.lookup y.1=some .local∨(scope.names.lookup y.1=some .cell∧((cellsFrom (s.heap.objs.size+1) scope.names []).lookup y.1).isSome=true):=fun⟨n,v⟩ hy=>by
  rcases S.par n (List.of_mem_zip hy).1 with q|q
  ·exact .inl q
  ·exact .inr ⟨q,cellsFrom_some _ _ _ (.inl q)⟩
 refine codeAny_call_function hr.depth (KX _ _ lk) rfl S.co S.gen rfl (PySem.W.codeRec_of KX zF) (hb _ _ _ _ ?_);refine wpAny_newFunctionEnv_cells S.kind abj fun env he s1 x=> ?_;subst he;refine⟨lim.keeps x.toInCall.keep,codeAny_func ?_⟩;obtain⟨t,ht,hq⟩:=kU A outer s H vs Q E (hr.deeper _) NN;have I:Inv (B9 CX P w K mg base N qual scope f cF A outer s H E) [] (zn N vs) H s1:=Hl S hr.hd e0 hl r x;refine wpAny_mono (ht [] s1 (zn N vs) H _ I hq) (fun fl s' hs=> ?_) fun e s' hs=>hs
 have fin:∀{cI :St} {H' :Hp} {v:V} {u:Value},Inv (B9 CX P w K mg base N qual scope f cF A outer s H E) [] cI H' s'→RelV v u→Q v H'→CE outer P w H s Q u s' :=
  fun{cI H' v u} J rv q=>⟨v,H',J.os,J.bare,J.base,J.bC,rv,q⟩
 cases fl with
 |ret u=>
  obtain⟨v,cI,H',J,rv,q⟩:=hs;exact fin J rv q
 |next=>
  obtain⟨cI,H',J,q⟩:=hs;exact fin (v:=V.bH) (u:=Value.none) J rfl q
 |brk=>
  obtain⟨_,_,_,q⟩:=hs;exact False.elim q
 |cont=>
  obtain⟨_,_,_,q⟩:=hs;exact False.elim q
section
variable{X:Cx}{x:Str}{p pos:Pos}{e:Expr}{es:cQ}{t:TA}{id T:String}{r:az→Hp→VK→Prop}
def tCB(r:az→Hp→VK→Prop)(t:TA):TE:=fun σ H Q=>t σ H fun vs H1=>r vs H1 Q
theorem aE(hc:f_ X (.builtin id) r)(hg:Gl X x)(hm:X.mg x=none)(hv:bootBuiltins x=some (.builtin id))(ha:PA X (e::es) t)(hn:x≠ "__name__":=by decide)(BU:(x==("__debug__" :Str))=false:=by decide)
 (he:starEach (e::es) X.env=(false,eval e X.env)::starEach es X.env:=by rfl) (rR:(backTo pos (starEach es X.env)).any (·.1)=false:=by rfl):PE X (.Call (.Name x p) (e::es) [] pos) (tCB r t):=by
 intro pins s σ H Q I h;refine wpAny_Call_Name_kw (oS I hg hm hv ?_ hn BU);exact PyProof.Rows.callWith_builtin1 (ck (ha pos pins s σ H _ I h) fun us s1 ⟨vs,H1,I1,r1,q1⟩=>hc pins s1 σ H1 vs us Q I1 r1 q1) he rR
theorem cj(hc:f_ X (.type T) r)(hg:Gl X x)(hm:X.mg x=none)(hv:bootBuiltins x=some (.type T))(ha:PA X (e::es) t)(hn:x≠ "__name__":=by decide)(BU:(x==("__debug__" :Str))=false:=by decide)
 (he:starEach (e::es) X.env=(false,eval e X.env)::starEach es X.env:=by rfl) (rR:(backTo pos (starEach es X.env)).any (·.1)=false:=by rfl):PE X (.Call (.Name x p) (e::es) [] pos) (tCB r t):=by
 intro pins s σ H Q I h;refine wpAny_Call_Name_kw (oS I hg hm hv ?_ hn BU);exact PyProof.Rows.callWith_type1 (ck (ha pos pins s σ H _ I h) fun us s1 ⟨vs,H1,I1,r1,q1⟩=>hc pins s1 σ H1 vs us Q I1 r1 q1) he rR
end
end L2
namespace HT
open PySem PyProof.Rows
section
open PySem.SeqAt
open PySem.AutoSeq1 (wpAny_loadPart')
open PySem.MeetsSeq PySem.MeetsSeq2 PySem.MeetsSeq3
end
section
variable{prog:Program}{w:World}{A:Around}{E:Value→Shared→Prop}{s:Shared}
def Ck(n d:Nat):Option Int→Nat
 |none=>d
 |some v=>if v<0 then(v+(n:Int)).toNat else min v.toNat n
theorem P_(n d k:Nat):Ck n d (some (k:Int))=min k n:=by
 show(if(k:Int)<0 then((k:Int)+(n:Int)).toNat else min (k:Int).toNat n)=min k n;rw[if_neg (by lia),Int.toNat_natCast]
end
end HT
namespace L2
open PySem PySem.Spec PyProof.Rows
abbrev TO:=St→Hp→(Option Int→Hp→Prop)→Prop
def PO(X:Cx)(e:Option Expr)(t:TO):Prop:=
 ∀(pins:aL) (s:Shared) (σ:St) (H:Hp) (Q:Option Int→Hp→Prop),Inv X pins σ H s→t σ H Q→
  wpAny (model X.prog X.w) X.A (evalPart e X.env) (fun u s' =>∃o H',Inv X pins σ H' s'∧IsPart u o∧Q o H') X.xe s
def OQ:TO:=fun _ H Q=>Q none H
def QL(t:TE):TO:=fun σ H Q=>t σ H fun x H1=>∃i,x= .int i∧Q (some i) H1
section
variable{X:Cx}{e:Expr}{te:TE}{lo hi:Option Expr}{tl th:TO}{pos p2:Pos}
theorem PB:PO X none OQ:=by
 intro pins s σ H Q I h;rw[evalPart_none];exact wpAny_pure ⟨none,H,I,.none,h⟩
theorem GF(h:PE X e te):PO X (some e) (QL te):=by
 intro pins s σ H Q I hw;rw[evalPart_some];refine ck (h pins s σ H _ I hw) fun u s1 ⟨x,H1,I1,r1,q1⟩=> ?_;obtain⟨i,rfl,q⟩:=q1;obtain⟨t,rfl⟩:=r1;exact⟨some i,H1,I1,.int i t,q⟩
def Xk(X:Cx)(r:V→Option Int→Option Int→Hp→VK→Prop):Prop:=
 ∀(pins:aL) (s:Shared) (σ:St) (H:Hp) (x:V) (v vl vu:Value) (lo hi:Option Int) (sl:Addr) (Q:VK),Inv X pins σ H s→RelV x v→s.heap.IsSliceOf sl vl vu .none→IsPart vl lo→IsPart vu hi→r x lo hi H Q→
  ∃T id,typeLookup (.type T) "__getitem__"=pure (some (.builtin id))∧s.TypeIs v T∧wpAny (model X.prog X.w) X.A (getItem v (.ref sl)) (EP X pins σ Q) X.xe s
theorem Xk.or{r r' :V→Option Int→Option Int→Hp→VK→Prop}(h:Xk X r)(h' :Xk X r'):Xk X (fun x lo hi H Q=>r x lo hi H Q∨r' x lo hi H Q):=by
 intro pins s σ H x v vl vu lo hi sl Q I rx hs pl pu q;rcases q with q|q
 ·exact h pins s σ H x v vl vu lo hi sl Q I rx hs pl pu q
 ·exact h' pins s σ H x v vl vu lo hi sl Q I rx hs pl pu q
def tSl(r:V→Option Int→Option Int→Hp→VK→Prop)(te:TE)(tl th:TO):TE:=fun σ H Q=>te σ H fun x H1=>tl σ H1 fun l H2=>th σ H2 fun u H3=>r x l u H3 Q
theorem Jl{r:V→Option Int→Option Int→Hp→VK→Prop}(hr:Xk X r)(he:PE X e te)(hl:PO X lo tl)(hu:PO X hi th):PE X (.Subscript e (.Slice lo hi none p2) pos) (tSl r te tl th):=by
 intro pins s σ H Q I h;refine Subscript_ (ck (he pins s σ H _ I h) fun v s1 ⟨x,H1,I1,r1,q1⟩=> ?_);refine wpAny_Slice (ck (hl pins s1 σ H1 _ I1 q1) fun vl s2 ⟨l,H2,I2,pl,q2⟩=>ck (hu pins s2 σ H2 _ I2 q2) fun vu s3 ⟨u,H3,I3,pu,q3⟩=> ?_);rw[evalPart_none];refine wpAny_pure ?_;have I4:Inv X pins σ H3 {s3 with heap:=s3.heap.push {cls:= .type "slice",data:= .fields #[vl,vu,.none]}}:=I3.kept (t' :=s3.toks) fun b ob q=>Heap.get?_push_of_some _ q;obtain⟨T,id,hT,ht,hg⟩:=hr pins {s3 with heap:=s3.heap.push {cls:= .type "slice",data:= .fields #[vl,vu,.none]}} σ H3 x v vl vu l u s3.heap.objs.size Q I4 r1 (Heap.IsSliceOf.new ..) pl pu q3;show wpAny (model X.prog X.w) X.A (subscriptTail e (.Slice lo hi none p2) v (.ref s3.heap.objs.size)) (EP X pins σ Q) X.xe {s3 with heap:=s3.heap.push {cls:= .type "slice",data:= .fields #[vl,vu,.none]}};exact tail_any (ops:=[.ref s3.heap.objs.size,v]) ht hT hg (by with_unfolding_all rfl)
def xm(xs:az)(lo hi:Option Int):az:=(xs.drop (HT.Ck xs.length 0 lo)).take (HT.Ck xs.length xs.length hi - HT.Ck xs.length 0 lo)
theorem DJ(xs:az)(lo hi:Option Int):(xm xs lo hi).length≤xs.length:=by
 unfold xm;rw[List.length_take,List.length_drop]
 lia
end
def Og(n:Nat)(i:Int):Option Nat:=if 0≤i then(if i<n then some i.toNat else none) else if -(n:Int)≤i then some (i+n).toNat else none
def Ir{α:Type}(xs:List α)(i:Int):Option α:=(Og xs.length i).bind fun j=>xs[j]?
theorem Fp{n:Nat}{i:Int}{j:Nat}(h:Og n i=some j):seqIndex? i n=some j∧j<n∧ -(n:Int)≤i∧i<n:=by
 unfold Og at h;by_cases h0:0≤i
 ·rw[if_pos h0] at h;by_cases h1:i<n
  ·rw[if_pos h1] at h;have e:i.toNat=j:=Option.some.inj h;exact⟨by rw[seqIndex_of h0 h1,e],by lia,by lia,h1⟩
  ·rw[if_neg h1] at h;cases h
 ·rw[if_neg h0] at h;by_cases h1: -(n:Int)≤i
  ·rw[if_pos h1] at h;have e:(i+n).toNat=j:=Option.some.inj h;exact⟨by rw[seqIndex_neg (by lia) h1,e],by lia,h1,by lia⟩
  ·rw[if_neg h1] at h;cases h
theorem Gi{α:Type}{xs:List α}{i:Int}{v:α}(h:Ir xs i=some v):∃j,seqIndex? i xs.length=some j∧xs[j]? =some v∧j<xs.length∧ -(xs.length:Int)≤i∧i<xs.length:=by
 unfold Ir at h
 cases e:Og xs.length i with
 |none=>rw[e] at h;cases h
 |some j=>
  rw[e] at h;obtain⟨h1,h2,h3,h4⟩:=Fp e;exact⟨j,h1,h,h2,h3,h4⟩
theorem dD{α:Type}{xs:List α}{j:Nat}{v:α}(h:xs[j]? =some v):Ir xs (j:Int)=some v:=by
 have hj:j<xs.length:=(List.getElem?_eq_some_iff.mp h).1
 have e:Og xs.length (j:Int)=some j:=by
  unfold Og;rw[if_pos (by lia),if_pos (by lia)];simp
 unfold Ir;rw[e];exact h
def Qa(b:Expr):Prop:=∀o i,subscripted b false o i=operate [o,i] (getItem o i)
def Ph(X:Cx)(r:R2):Prop:=
 ∀(value slice:Expr) (pins:aL) (s:Shared) (σ:St) (H:Hp) (x y:V) (v u:Value) (Q:VK),Inv X pins σ H s→RelV x v→RelV y u→r x y H Q→
  subscripted slice false v u=operate [v,u] (getItem v u)→wpAny (model X.prog X.w) X.A (subscriptTail value slice v u) (EP X pins σ Q) X.xe s
def Pu(X:Cx)(id:String)(r:V→az→Hp→VK→Prop):Prop:=
 ∀(pins:aL) (s:Shared) (σ:St) (H:Hp) (x:V) (xs:az) (v:Value) (us:aA) (Q:VK),Inv X pins σ H s→RelV x v→Vals xs us→r x xs H Q→
  wpAny (model X.prog X.w) X.A (call (.builtin id) (v::us)) (EP X pins σ Q) X.xe s
section
variable{X:Cx}{a b:Expr}{ta tb:TE}{pos:Pos}
theorem Ph.or{r r' :R2}(h:Ph X r)(h' :Ph X r'):Ph X (fun x y H Q=>r x y H Q∨r' x y H Q):=by
 intro value slice pins s σ H x y v u Q I rx ry q hs;rcases q with q|q
 ·exact h value slice pins s σ H x y v u Q I rx ry q hs
 ·exact h' value slice pins s σ H x y v u Q I rx ry q hs
theorem Pu.or{id:String}{r r' :V→az→Hp→VK→Prop}(h:Pu X id r)(h' :Pu X id r'):Pu X id (fun x xs H Q=>r x xs H Q∨r' x xs H Q):=by
 intro pins s σ H x xs v us Q I rx rs q;rcases q with q|q
 ·exact h pins s σ H x xs v us Q I rx rs q
 ·exact h' pins s σ H x xs v us Q I rx rs q
theorem bB{r:R2}(hr:Ph X r)(ha:PE X a ta)(hb:PE X b tb)(hs:Qa b):PE X (.Subscript a b pos) (tOp r ta tb):=by
 intro pins s σ H Q I h;exact Subscript_ (VT ha hb I h fun v u s2 x y H2 I2 rx ry q=>hr a b pins s2 σ H2 x y v u Q I2 rx ry q (hs _ _))
def Pn(K:Frag):R2:=fun x y H Q=>∃p xs i v,x= .ref p∧y= .int i∧bA K H p xs∧Ir xs i=some v∧Q v H
def XA(K:Frag):R2:=fun x y H Q=>∃p xs i v,x= .ref p∧y= .int i∧qS K H p xs∧Ir xs i=some v∧Q v H
theorem bj:Ph X (Pn X.K):=by
 intro value slice pins s σ H x y v u Q I rx ry h hs;obtain⟨p,xs,i,z,rfl,rfl,hq,he,q⟩:=h;cases rx;obtain⟨t,rfl⟩:=ry;obtain⟨its,r,pl,hz⟩:=I.list hq;obtain⟨j,h1,h2,h3,h4,h5⟩:=Gi he;obtain⟨w,ew,D4⟩:=r.get h2;have hl:=r.length;have hn:=AA;have fin:EP X pins σ Q w s:=⟨z,H,I,D4,q⟩;by_cases h0:0≤i
 ·have hj:i.toNat=j:=by
   rw[seqIndex_of h0 h5] at h1;exact Option.some.inj h1
  exact item_listR pl.isList h0 (by lia) (by rw[hj];simpa using ew) fin hs
 ·have hj:(i+(its.toArray.size:Int)).toNat=j:=by
   rw[seqIndex_neg (by lia) h4] at h1;rw[List.size_toArray,←hl];exact Option.some.inj h1
  exact subscriptTail_builtinR (x:=w) pl.isList.typeIs slot_list_getitem.lookup
   (wpAny_getItem_list_neg (Q:=fun r s' =>r=w∧EP X pins σ Q r s') pl.isList (by lia) (by rw[List.size_toArray]<;>lia) (by lia) (by rw[hj];simpa using ew) ⟨rfl,fin⟩) hs
theorem iG:Ph X (XA X.K):=by
 intro value slice pins s σ H x y v u Q I rx ry h hs;obtain⟨p,xs,i,z,rfl,rfl,hq,he,q⟩:=h;cases rx;obtain⟨t,rfl⟩:=ry;obtain⟨its,r,pl,hz⟩:=I.tuple hq;obtain⟨j,h1,h2,h3,h4,h5⟩:=Gi he;obtain⟨w,ew,D4⟩:=r.get h2;have hl:=r.length;have hn:=AA;have fin:EP X pins σ Q w s:=⟨z,H,I,D4,q⟩
 exact subscriptTail_builtinR (x:=w) pl.typeIs slot_tuple_getitem.lookup
  (getItem_tuple (j:=j) (Q:=fun r s' =>r=w∧EP X pins σ Q r s') pl (by lia) (by lia) (by rw[List.size_toArray,←hl];exact h1) (by simpa using ew) ⟨rfl,fin⟩) hs
theorem Es(its:aA)(n j:Nat)(u:Value):Obj.mapSeq (·.setIfInBounds j u) {cls:= .type "list",data:= .seq its.toArray n}={cls:= .type "list",data:= .seq (its.set j u).toArray n}:=by
 simp[Obj.mapSeq]
theorem Inv.lst{pins:aL}{σ:St}{H:Hp}{s:Shared}{p:Addr}{xs:az}(I:Inv X pins σ H s)(h:H p=some (.lst xs)):
 ∃(its:aA) (n:Nat),Vals xs its∧s.heap.get? p=some {cls:= .type "list",data:= .seq its.toArray n}∧xs.length≤sizeLine:=by
 obtain⟨z,its,n,r,e⟩:=I.bC p _ h;exact⟨its,n,r,e,z⟩
theorem Inv.Vb{pins:aL}{σ:St}{H:Hp}{s:Shared}{p:Addr}{xs ys:az}{its its' :aA}{n n' :Nat}{f:Obj→Obj}(I:Inv X pins σ H s)(h:H p=some (.lst xs))
 (ho:s.heap.get? p=some {cls:= .type "list",data:= .seq its.toArray n}) (hf:f {cls:= .type "list",data:= .seq its.toArray n}={cls:= .type "list",data:= .seq its'.toArray n'}) (r:Vals ys its') (hz:ys.length≤sizeLine) (t:Nat):
 Inv X pins σ (upd H p (.lst ys)) {s with heap:=s.heap.update p f,toks:=t}:=by
 have e:(s.heap.update p f).get? p=some {cls:= .type "list",data:= .seq its'.toArray n'}:=by
  rw[Heap.get?_update_self f ho (by rw[hf]<;>rfl),hf]
 refine I.write (x:=p) (e:=p) (by rw[h];trivial) (.inl rfl) (fun b u hb q=>(Heap.get?_update_other _ _ (Ne.symm hb)).trans q) ⟨_,e⟩ ?_;exact⟨hz,its',n',r,e⟩
def aal:V→V→V→Hp→(Hp→Prop)→Prop:=fun o i v H Q=>∃p xs k j,o= .ref p∧i= .int k∧H p=some (.lst xs)∧Og xs.length k=some j∧Q (upd H p (.lst (xs.set j v)))
theorem ww:XJ X aal:=by
 intro pins s σ H o i v ov iv u Q I ro ri rv h;obtain⟨p,xs,k,j,rfl,rfl,hp,hj,q⟩:=h;cases ro;obtain⟨t,rfl⟩:=ri;obtain⟨its,n,r,ho,hz⟩:=I.lst hp;obtain⟨h1,h2,h3,h4⟩:=Fp hj;have hl:=r.length;have hn:=AA
 have I' :Inv X pins σ (upd H p (.lst (xs.set j v))) {s with heap:=s.heap.update p (Obj.mapSeq (·.setIfInBounds j u))}:=
  I.Vb hp ho (Es its n j u) (r.set rv j) (by rw[List.length_set];exact hz) s.toks
 by_cases h0:0≤k
 ·have hk:k.toNat=j:=by
   rw[seqIndex_of h0 h4] at h1;exact Option.some.inj h1
  exact PySem.W.ki_setAt ho h0 (by lia) (by rw[List.size_toArray,←hl];exact h4) (by rw[hk];exact⟨_,I',q⟩)
 ·have hk:(k+(its.toArray.size:Int)).toNat=j:=by
   rw[seqIndex_neg (by lia) h3] at h1;rw[List.size_toArray,←hl];exact Option.some.inj h1
  exact PySem.W.ki_setBack ho (by lia) (by rw[List.size_toArray,←hl];exact h3) (by lia) (by rw[hk];exact⟨_,I',q⟩)
theorem Bp(lo hi:Option Int)(n:Nat):(sliceBounds lo hi none n).1=((HT.Ck n 0 lo:Nat):Int)∧(sliceBounds lo hi none n).2.1=((HT.Ck n n hi:Nat):Int)∧(sliceBounds lo hi none n).2.2=1:=by
 refine⟨?_,?_,rfl⟩
 ·cases lo with
  |none=>simp[sliceBounds,HT.Ck]
  |some i=>
   simp only[sliceBounds,HT.Ck,Option.getD_none,show(1:Int)>0 by decide,if_true];by_cases h:i<0
   ·simp only[h,if_true]<;>lia
   ·simp only[h,if_false]<;>lia
 ·cases hi with
  |none=>simp[sliceBounds,HT.Ck]
  |some i=>
   simp only[sliceBounds,HT.Ck,Option.getD_none,show(1:Int)>0 by decide,if_true];by_cases h:i<0
   ·simp only[h,if_true]<;>lia
   ·simp only[h,if_false]<;>lia
theorem yR(its:aA)(lo hi:Option Int):slicePick its.toArray lo hi none=((its.drop (HT.Ck its.length 0 lo)).take (HT.Ck its.length its.length hi - HT.Ck its.length 0 lo)).toArray:=by
 obtain⟨h1,h2,h3⟩:=Bp lo hi its.toArray.size;unfold slicePick;rw[h1,h2,h3];simp only[sliceRange_one,pick_run,List.size_toArray]<;>rfl
def aqb(K:Frag):V→Option Int→Option Int→Hp→VK→Prop:=fun x lo hi H Q=>∃a xs,x= .ref a∧bA K H a xs∧∀p,H p=none→Q (.ref p) (upd H p (.lst (xm xs lo hi)))
theorem N_:Xk X (aqb X.K):=by
 intro pins s σ H x v vl vu lo hi sl Q I rx hs pl pu h;obtain⟨a,xs,rfl,hx,q⟩:=h;cases rx;obtain⟨its,r,ht,hz⟩:=I.list hx;have hlen:=r.length;refine⟨"list",_,slot_list_getitem.lookup,ht.isList.typeIs,?_⟩;refine wpAny_getItem_list_slice ht.isList hs pl pu .none (by simp) ?_ (by rw[List.size_toArray]<;>lia);rw[yR,←hlen];refine⟨.ref s.heap.objs.size,_,I.laid (t' :=s.toks) (o:= .lst (xm xs lo hi)) (fun b ob q=>Heap.get?_push_of_some _ q) (Nat.le_refl _) ?_,rfl,q _ (I.bC.fresh (Nat.le_refl _))⟩;exact⟨Nat.le_trans (DJ xs lo hi) hz,_,0,(r.drop (HT.Ck xs.length 0 lo)).take (HT.Ck xs.length xs.length hi - HT.Ck xs.length 0 lo),Heap.get?_push_size _ rfl⟩
def mV:V→Bool
 | .bH=>true
 | .bl _=>true
 | .int _=>true
 | .str _=>true
 |_=>false
def G3:V→V→Bool
 | .bH,.bH=>true
 | .bl a,.bl b=>a==b
 | .bl a,.int b=>(if a then 1 else 0)==b
 | .int a,.bl b=>a==(if b then 1 else 0)
 | .int a,.int b=>a==b
 | .str a,.str b=>a==b
 |_,_=>false
theorem Ll{A:Around}{s:Shared}{y x:V}{u v:Value}(ry:RelV y u)(rx:RelV x v)(fy:mV y=true)(fx:mV x=true):SeqAt.EqAt A s u v (G3 y x):=by
 cases y with
 |bH=>
  cases ry
  cases x with
  |bH=>cases rx;exact SeqAt.EqAt.same _
  |bl b=>cases rx;exact SeqAt.EqAt.none_bool b
  |int b=>obtain⟨t,rfl⟩:=rx;exact SeqAt.EqAt.none_int b t
  |str b=>obtain⟨t,rfl⟩:=rx;exact SeqAt.EqAt.none_str b t
  |_=>exact absurd (show false=true from fx) Bool.false_ne_true
 |bl a=>
  cases ry
  cases x with
  |bH=>cases rx;exact SeqAt.EqAt.bool_none a
  |bl b=>cases rx;exact SeqAt.EqAt.bool_bool a b
  |int b=>obtain⟨t,rfl⟩:=rx;exact SeqAt.EqAt.bool_int a b t
  |str b=>obtain⟨t,rfl⟩:=rx;exact SeqAt.EqAt.bool_str a b t
  |_=>exact absurd (show false=true from fx) Bool.false_ne_true
 |int a=>
  obtain⟨t',rfl⟩:=ry
  cases x with
  |bH=>cases rx;exact SeqAt.EqAt.int_none a t'
  |bl b=>cases rx;exact SeqAt.EqAt.int_bool a t' b
  |int b=>obtain⟨t,rfl⟩:=rx;exact SeqAt.EqAt.int_int a t' b t
  |str b=>obtain⟨t,rfl⟩:=rx;exact SeqAt.EqAt.int_str a t' b t
  |_=>exact absurd (show false=true from fx) Bool.false_ne_true
 |str a=>
  obtain⟨t',rfl⟩:=ry
  cases x with
  |bH=>cases rx;exact SeqAt.EqAt.str_none a t'
  |bl b=>cases rx;exact SeqAt.EqAt.str_bool a t' b
  |int b=>obtain⟨t,rfl⟩:=rx;exact SeqAt.EqAt.str_int a t' b t
  |str b=>obtain⟨t,rfl⟩:=rx;exact SeqAt.EqAt.str_str a t' b t
  |_=>exact absurd (show false=true from fx) Bool.false_ne_true
 |_=>exact absurd (show false=true from fy) Bool.false_ne_true
def Oi(x:V)(u:Value):Bool:=match u with
 | .none=>G3 .bH x
 | .bool b=>G3 (.bl b) x
 | .int i _=>G3 (.int i) x
 | .str z _=>G3 (.str z) x
 |_=>false
theorem Lk{x y:V}{u:Value}(r:RelV y u)(f:mV y=true):Oi x u=G3 y x:=by
 cases y with
 |bH=>cases r;rfl
 |bl b=>cases r;rfl
 |int i=>obtain⟨t,rfl⟩:=r;rfl
 |str z=>obtain⟨t,rfl⟩:=r;rfl
 |_=>exact absurd (show false=true from f) Bool.false_ne_true
theorem BQ{x:V}:∀{xs:az} {us:aA},Vals xs us→xs.all mV=true→us.any (Oi x)=xs.any fun y=>G3 y x
 |_,_,.nil,_=>rfl
 |y::xs,u::us,.cons r t,f=>by
  rw[List.all_cons,Bool.and_eq_true] at f;rw[List.any_cons,List.any_cons,Lk r f.1,BQ t f.2]
theorem xA{A:Around}{s:Shared}{x:V}{v:Value}(rx:RelV x v)(fx:mV x=true):∀{xs:az} {us:aA},Vals xs us→xs.all mV=true→∀u∈us,SeqAt.EqAt A s u v (Oi x u)
 |_,_,.nil,_=>fun u hu=>by cases hu
 |y::xs,u::us,.cons r t,f=>fun u' hu=>by
  rw[List.all_cons,Bool.and_eq_true] at f;rcases List.mem_cons.mp hu with rfl|hu
  ·rw[Lk r f.1];exact Ll r rx f.1 fx
  ·exact xA rx fx t f.2 u' hu
def Ua(x:V)(xs:az):Bool:=xs.any fun y=>G3 y x
def rIn(K:Frag)(neg:Bool):R2:=fun x y H Q=>∃p xs,y= .ref p∧(bA K H p xs∨qS K H p xs)∧mV x=true∧xs.all mV=true∧Q (.bl (if neg then !Ua x xs else Ua x xs)) H
theorem Hf:qD X (compareOp .In) (rIn X.K false):=by
 intro pins s σ H x y v u Q I rx ry h;obtain⟨p,xs,rfl,hq,fx,fs,q⟩:=h;cases ry;rcases hq with hq|hq
 ·obtain⟨its,r,pl,hz⟩:=I.list hq;refine SeqAt.in_listAt (Oi x) pl.isList (fun w hw=>xA rx fx r fs w (by simpa using hw)) ⟨.bl _,H,I,rfl,?_⟩;rw[show its.toArray.any (Oi x)=its.any (Oi x) by simp,BQ r fs];exact q
 ·obtain⟨its,r,pl,hz⟩:=I.tuple hq;refine SeqAt.in_tupleAt (Oi x) pl (fun w hw=>xA rx fx r fs w (by simpa using hw)) ⟨.bl _,H,I,rfl,?_⟩;rw[show its.toArray.any (Oi x)=its.any (Oi x) by simp,BQ r fs];exact q
theorem aU:f_ X (.builtin "len") (fun xs H Q=>∃p ys,xs=[.ref p]∧(bA X.K H p ys∨qS X.K H p ys)∧Q (.int ys.length) H):=by
 intro pins s σ H xs us Q I r h;obtain⟨p,ys,rfl,hq,q⟩:=h;obtain⟨u,rfl,rx⟩:=xL r;cases rx;have hn:=AA;rcases hq with hq|hq
 ·obtain⟨its,r',pl,hz⟩:=I.list hq;have hlen:=r'.length;exact Calls.call_len_list pl.isList (by simp only[List.size_toArray]<;>lia) ⟨.int ys.length,H,I.tok _,⟨s.toks+1,by rw[List.size_toArray,hlen]⟩,q⟩
 ·obtain⟨its,r',pl,hz⟩:=I.tuple hq;have hlen:=r'.length;exact len_tuple pl (by simp only[List.size_toArray]<;>lia) ⟨.int ys.length,H,I.tok _,⟨s.toks+1,by rw[List.size_toArray,hlen]⟩,q⟩
theorem f_.or{f:Value}{r r' :az→Hp→VK→Prop}(h:f_ X f r)(h' :f_ X f r'):f_ X f (fun xs H Q=>r xs H Q∨r' xs H Q):=by
 intro pins s σ H xs us Q I rs q;rcases q with q|q
 ·exact h pins s σ H xs us Q I rs q
 ·exact h' pins s σ H xs us Q I rs q
theorem g_:f_ X (.type "list") (fun xs H Q=>∃p ys,xs=[.ref p]∧(bA X.K H p ys∨qS X.K H p ys)∧∀l,H l=none→Q (.ref l) (upd H l (.lst ys))):=by
 intro pins s σ H xs us Q I r h;obtain⟨p,ys,rfl,hq,q⟩:=h;obtain⟨u,rfl,rx⟩:=xL r;cases rx
 have fin:∀(its:aA),Vals ys its→ys.length≤sizeLine→∀(h' :Heap) (c' :Nat),(∀b o',s.heap.get? b=some o'→h'.get? b=some o')→
  h'.get? s.heap.objs.size=some {cls:= .type "list",dict:=none,data:= .seq its.toArray c',slots:= #[]}→EP X pins σ Q (.ref s.heap.objs.size) {s with heap:=h'}:=fun its r' hz h' c' kp e=>
  ⟨.ref s.heap.objs.size,_,I.laid (t' :=s.toks) kp (Nat.le_refl _) (show bq X.prog X.w _ h' _ (.lst ys) from⟨hz,its,c',r',e⟩),rfl,q _ (I.bC.fresh (Nat.le_refl _))⟩
 rcases hq with hq|hq
 ·obtain⟨its,r',pl,hz⟩:=I.list hq;have hlen:=r'.length;obtain⟨o,ho,hc,n,hd⟩:=pl.isList;exact call_list_seq p (.inl rfl) ho hc hd (fun h' c' kp e=>fin its r' hz h' c' kp e) (by simp only[List.size_toArray]<;>lia)
 ·obtain⟨its,r',pl,hz⟩:=I.tuple hq;have hlen:=r'.length;obtain⟨o,ho,hc,n,hd⟩:=pl;exact call_list_seq p (.inr rfl) ho hc hd (fun h' c' kp e=>fin its r' hz h' c' kp e) (by simp only[List.size_toArray]<;>lia)
theorem gv:f_ X (.type "tuple") (fun xs H Q=>∃p ys,xs=[.ref p]∧((bA X.K H p ys∧∀l,H l=none→Q (.ref l) (upd H l (.tup ys)))∨(qS X.K H p ys∧Q (.ref p) H))):=by
 intro pins s σ H xs us Q I r h;obtain⟨p,ys,rfl,h⟩:=h;obtain⟨u,rfl,rx⟩:=xL r;cases rx;rcases h with⟨hq,q⟩|⟨hq,q⟩
 ·obtain⟨its,r',pl,hz⟩:=I.list hq;have hlen:=r'.length;refine call_tuple_list pl.isList (fun h' kp=> ?_) (by simp only[List.size_toArray]<;>lia);have I1:Inv X pins σ H {s with heap:=h'}:=I.kept (t' :=s.toks) kp
  have I2:Inv X pins σ (upd H h'.objs.size (.tup ys)) {s with heap:=h'.push {cls:= .type "tuple",data:= .seq its.toArray}}:=
   I1.laid (t' :=s.toks) (fun b o e=>Heap.get?_push_of_some _ e) (Nat.le_refl _) (show bq X.prog X.w _ _ _ (.tup ys) from⟨hz,its,r',IsTup.new _ _⟩)
  exact⟨.ref h'.objs.size,_,I2,rfl,q _ (I1.bC.fresh (Nat.le_refl _))⟩
 ·obtain⟨its,r',pl,hz⟩:=I.tuple hq;exact call_tuple_same pl ⟨.ref p,H,I,rfl,q⟩
def tyV(K:Frag)(T:String)(x:V)(H:Hp):Prop:=match x with
 | .str _=>T="str"
 | .int _=>T="int"
 | .ref p=>(T="list" ∧∃xs,bA K H p xs)∨(T="tuple" ∧∃o,K.lookup p=some o∧o.cls= .type "tuple" ∧o.dict=none)∨
  (T="dict" ∧((∃kvs,H p=some (.dK kvs))∨∃kvs,H p=some (.dT kvs)))∨(T="set" ∧∃S n,H p=some (.set S n))
 |_=>False
theorem MO{pins:aL}{σ:St}{H:Hp}{s:Shared}{T:String}{x:V}{v:Value}(I:Inv X pins σ H s)(r:RelV x v)(ty:tyV X.K T x H):
 s.TypeIs v T∧∀a,v= .ref a→∃ob,s.heap.get? a=some ob∧ob.dict=none:=by
 cases x with
 |str z=>
  obtain⟨t,rfl⟩:=r;cases(show T="str" from ty);exact⟨typeIs_str s z t,fun _ e=>nomatch e⟩
 |int i=>
  obtain⟨t,rfl⟩:=r;cases(show T="int" from ty);exact⟨typeIs_int s i t,fun _ e=>nomatch e⟩
 |ref p=>
  cases r;rcases ty with⟨rfl,xs,hq⟩|⟨rfl,o,hk,hc,hd⟩|⟨rfl,hk⟩|⟨rfl,S,n,hk⟩
  ·obtain⟨its,_,pl,_⟩:=I.list hq;refine⟨pl.isList.typeIs,fun a e=> ?_⟩;cases e;obtain⟨o,n,e,c,hd,_⟩:=pl;exact⟨o,e,hd⟩
  ·refine⟨⟨o,I.lA p o hk,hc⟩,fun a e=> ?_⟩;cases e;exact⟨o,I.lA _ o hk,hd⟩
  ·have z:∃o,s.heap.get? p=some o∧o.ExactDict:=by
    rcases hk with⟨kvs,hk⟩|⟨kvs,hk⟩
    ·obtain⟨_,_,_,_,o,_,_,e,ex,_⟩:=I.bC p _ hk;exact⟨o,e,ex⟩
    ·obtain⟨_,_,_,_,o,_,_,e,ex,_⟩:=I.bC p _ hk;exact⟨o,e,ex⟩
   obtain⟨o,e,ex⟩:=z;refine⟨⟨o,e,ex.1⟩,fun a e2=> ?_⟩;cases e2;exact⟨o,e,ex.2.1⟩
  ·obtain⟨o,_,_,_,e,ex,_⟩:=I.bC p _ hk;refine⟨⟨o,e,ex.1⟩,fun a e2=> ?_⟩;cases e2;exact⟨o,e,ex.2.1⟩
 |_=>exact False.elim ty
def amG(K:Frag)(T:String)(r:V→az→Hp→VK→Prop)(to:TE):TE:=fun σ H Q=>to σ H fun x H1=>tyV K T x H1∧r x [] H1 Q
def tBM(K:Frag)(T:String)(r:V→az→Hp→VK→Prop)(to:TE)(t:TA):TE:=fun σ H Q=>to σ H fun x H1=>tyV K T x H1∧t σ H1 fun xs H2=>r x xs H2 Q
variable{o e:Expr}{es:cQ}{to:TE}{t:TA}{name:Str}{apos fk:Pos}{T id:String}{r:V→az→Hp→VK→Prop}
theorem EY(pa:PlainAttrs T)(slot:Slot T name id)(XX:typeOf (.builtin id)=pure (.type "method_descriptor"))(hm:Pu X id r)(ho:PE X o to)
 (ug:attributeBase o name X.env (eval o X.env)=eval o X.env:=by rfl) (Dx:(apos.endLine==fk.line)=true:=by rfl):PE X (.Call (.Attribute o name apos) [] [] fk) (amG X.K T r to):=by
 intro pins s σ H Q I h;refine wpAny_Call_method0_late ug Dx (ck (ho pins s σ H _ I h) fun v s1 ⟨x,H1,I1,r1,ty,q1⟩=> ?_);obtain⟨h1,h2⟩:=MO I1 r1 ty;exact⟨T,id,pa,slot,XX,h1,h2,Calls.callWith_builtin rfl (PySem.evalArgs_none (hm pins s1 σ H1 x [] v [] Q I1 r1 .nil q1))⟩
theorem vy(pa:PlainAttrs T)(slot:Slot T name id)(XX:typeOf (.builtin id)=pure (.type "method_descriptor"))(hm:Pu X id r)(ho:PE X o to)(ha:PA X (e::es) t)
 (ug:attributeBase o name X.env (eval o X.env)=eval o X.env:=by rfl)
 (U8:((backTo fk (starEach (e::es) X.env)).all (fun x=> !x.1)&&(backToKw fk (keywordEach [] X.env)).all (fun x=>x.1.isSome)
  &&decide ((e::es).length+([]:List Keyword).length+(if([]:List Keyword).isEmpty then 0 else 1)<30))=true:=by rfl)
 (Dx:(apos.endLine==fk.line)=true:=by rfl) (hs:starEach (e::es) X.env=(false,eval e X.env)::starEach es X.env:=by rfl) (EZ:(backTo fk (starEach es X.env)).any (·.1)=false:=by rfl):
 PE X (.Call (.Attribute o name apos) (e::es) [] fk) (tBM X.K T r to t):=by
 intro pins s σ H Q I h;refine wpAny_Call_method_late ug U8 Dx rfl (ck (ho pins s σ H _ I h) fun v s1 ⟨x,H1,I1,r1,ty,q1⟩=> ?_);obtain⟨h1,h2⟩:=MO I1 r1 ty;refine⟨T,id,pa,slot,XX,h1,h2,?_⟩;have hA:=ha fk pins s1 σ H1 _ I1 q1;rw[hs] at hA ⊢;refine Calls.callWith_builtin (by show(false||(backTo fk (starEach es X.env)).any (·.1))=false;rw[EZ]<;>rfl) (Calls.evalArgs_plain ?_);exact ck hA fun us s2 ⟨vs,H2,I2,r2,q2⟩=>hm pins s2 σ H2 x vs v us Q I2 r1 r2 q2
end
def MtM(X:Cx)(id:String)(r:V→az→Hp→VK→Prop):Prop:=
 ∀(pins:aL) (s:Shared) (σ:St) (H:Hp) (x:V) (xs:az) (v:Value) (us:aA) (Q:VK),Inv X pins σ H s→RelV x v→Vals xs us→r x xs H Q→
  wpAny (model X.prog X.w) X.A (call (.builtin id) (v::us)) (EP X pins σ Q) X.xe s
theorem Vals.one:∀{x:V} {us:aA},Vals [x] us→∃u,us=[u]∧RelV x u
 |_,_,.cons r .nil=>⟨_,rfl,r⟩
theorem Vals.two:∀{x y:V} {us:aA},Vals [x,y] us→∃u v,us=[u,v]∧RelV x u∧RelV y v
 |_,_,_,.cons r (.cons q .nil)=>⟨_,_,rfl,r,q⟩
theorem Vals.zero:∀{us:aA},Vals [] us→us=[]
 |_,.nil=>rfl
theorem Vals.reverse{xs:az}{us:aA}(h:Vals xs us):Vals xs.reverse us.reverse:=by
 induction h with
 |nil=>exact .nil
 |cons r t ih=>rw[List.reverse_cons,List.reverse_cons];exact Vals.append ih (.cons r .nil)
theorem Vals.rep{xs:az}{us:aA}(h:Vals xs us):∀k:Nat,Vals (List.replicate k xs).flatten (List.replicate k us).flatten
 |0=> .nil
 |k+1=>by
  rw[List.replicate_succ,List.replicate_succ,List.flatten_cons,List.flatten_cons];exact Vals.append h (Vals.rep h k)
theorem ZB(its:aA):∀(k:Nat) (acc:aA),
 List.foldl (fun x1 x2=>x1++x2) acc.toArray (List.replicate k its.toArray)=(acc++(List.replicate k its).flatten).toArray
 |0,acc=>by simp
 |k+1,acc=>by
  have e:acc.toArray++its.toArray=(acc++its).toArray:=by simp
  have e2:(acc++its)++(List.replicate k its).flatten=acc++(List.replicate (k+1) its).flatten:=by
   rw[List.replicate_succ,List.flatten_cons,List.append_assoc]
  rw[←e2,←ZB its k (acc++its),←e,List.replicate_succ,List.foldl_cons]
section
variable{X:Cx}{pins:aL}{σ:St}{H:Hp}{s:Shared}{l b:Addr}{xs ys zs:az}
theorem Inv.ab0{its its' :aA}{n:Nat}{f:Array Value→Array Value}{t' :Nat}(I:Inv X pins σ H s)(hH:H l=some (.lst xs))
 (e:s.heap.get? l=some {cls:= .type "list",data:= .seq its.toArray n}) (hf:f its.toArray=its'.toArray) (hv:Vals ys its') (hz:ys.length≤sizeLine):
 Inv X pins σ (upd H l (.lst ys)) {s with heap:=s.heap.update l (Obj.mapSeq f),toks:=t'}:=by
 have q:=PySem.IsL.update e f;rw[hf] at q;refine I.write (x:=l) (e:=l) (by rw[hH];exact trivial) (.inl rfl) (fun b' u hb hu=>(Heap.get?_update_other s.heap (Obj.mapSeq f) (Ne.symm hb)).trans hu) ⟨_,q⟩ ?_;exact⟨hz,its',_,hv,q⟩
theorem Inv.V1{its:aA}{t' :Nat}(I:Inv X pins σ H s)(hv:Vals ys its)(hz:ys.length≤sizeLine):
 Inv X pins σ (upd H s.heap.objs.size (.lst ys)) {s with heap:=s.heap.push {cls:= .type "list",data:= .seq its.toArray},toks:=t'}:=
 I.laid (fun _ _ q=>Heap.get?_push_of_some _ q) (Nat.le_refl _) ⟨hz,its,0,hv,Heap.get?_push_size _ rfl⟩
theorem Inv.fresh(I:Inv X pins σ H s):H s.heap.objs.size=none:=I.bC.fresh (Nat.le_refl _)
theorem Inv.GZ(I:Inv X pins σ H s)(hH:H l=some (.lst xs)):xs.length≤sizeLine∧∃(its:aA) (n:Nat),Vals xs its∧xs.length=its.length∧s.heap.get? l=some {cls:= .type "list",data:= .seq its.toArray n}:=by
 obtain⟨z,its,n,r,e⟩:=I.bC l _ hH;exact⟨z,its,n,r,r.length,e⟩
theorem CK{n:Nat}(h:n≤sizeLine):Builtin.List.listTooLong n=false:=by
 unfold Builtin.List.listTooLong;exact decide_eq_false (by lia)
end
section
variable{X:Cx}
def Ol:V→az→Hp→VK→Prop:=fun x vs H Q=>∃l xs y,x= .ref l∧vs=[y]∧H l=some (.lst xs)∧xs.length<sizeLine∧Q .bH (upd H l (.lst (xs++[y])))
theorem eW:MtM X "list.append" Ol:=by
 intro pins s σ H x vs v us Q I rx rv h;obtain⟨l,xs,y,rfl,rfl,hH,hz,q⟩:=h;cases rx;obtain⟨u,rfl,ru⟩:=rv.one;obtain⟨z,its,n,r,hl,e⟩:=I.GZ hH;refine call_meets F.slot_list_append ⟨_,e,rfl⟩ F.entry_list_append (F.args_list_append_2 _ _) (PySem.list_append l its.toArray n u (by rw[List.size_toArray];lia)) ⟨e,?_⟩;refine⟨.bH,_,I.ab0 (its' :=its++[u]) hH e (by simp) (r.append (.cons ru .nil)) ?_,rfl,q⟩;rw[List.length_append,List.length_singleton]
 lia
def OJ:V→az→Hp→VK→Prop:=fun x vs H Q=>∃l b xs zs,x= .ref l∧vs=[.ref b]∧H l=some (.lst xs)∧H b=some (.lst zs)∧xs.length+zs.length≤sizeLine∧Q .bH (upd H l (.lst (xs++zs)))
theorem W3:MtM X "list.extend" OJ:=by
 intro pins s σ H x vs v us Q I rx rv h;obtain⟨l,b,xs,zs,rfl,rfl,hH,hB,hz,q⟩:=h;cases rx;obtain⟨u,rfl,ru⟩:=rv.one;cases ru;obtain⟨z,its,n,r,hl,e⟩:=I.GZ hH;obtain⟨z2,xE,n2,r2,mW,e2⟩:=I.GZ hB;have hsz:its.toArray.size+xE.toArray.size≤sizeLine:=by rw[List.size_toArray,List.size_toArray];lia
 have KN:¬(!its.toArray.isEmpty&&Builtin.List.listTooLong (its.toArray.size+xE.toArray.size))=true:=by
  rw[CK hsz,Bool.and_false];exact Bool.false_ne_true
 refine call_meets F.slot_list_extend ⟨_,e,rfl⟩ F.entry_list_extend (F.args_list_extend_2 _ _)
  (AutoSeq1.list_extend_list_list_0 l its.toArray n b xE.toArray n2 KN (by rw[List.size_toArray];lia) (by lia)) ⟨e,e2,?_⟩
 refine⟨.bH,_,I.ab0 (its' :=its++xE) hH e (by simp) (r.append r2) ?_,rfl,q⟩;rw[List.length_append]
 lia
def aok:R2:=fun x y H Q=>∃l b xs zs,x= .ref l∧y= .ref b∧H l=some (.lst xs)∧H b=some (.lst zs)∧xs.length+zs.length≤sizeLine∧∀p,H p=none→Q (.ref p) (upd H p (.lst (xs++zs)))
theorem Lj:qD X (binaryOp .Add) aok:=by
 intro pins s σ H x y v u Q I rx ry h;obtain⟨l,b,xs,zs,rfl,rfl,hH,hB,hz,q⟩:=h;cases rx;cases ry;obtain⟨z,its,n,r,hl,e⟩:=I.GZ hH;obtain⟨z2,xE,n2,r2,mW,e2⟩:=I.GZ hB;refine PySem.P.add_list e e2 ?_ (by rw[List.size_toArray,List.size_toArray];lia);have ea:its.toArray++xE.toArray=(its++xE).toArray:=by simp
 rw[ea];exact⟨.ref _,_,I.V1 (t' :=s.toks) (r.append r2) (by rw[List.length_append];lia),rfl,q _ I.fresh⟩
def aot:R2:=fun x y H Q=>∃l k xs,x= .ref l∧y= .int k∧H l=some (.lst xs)∧ -(2 ^ 63)≤k∧k<2 ^ 63∧xs.length*k.toNat≤sizeLine∧
 ∀p,H p=none→Q (.ref p) (upd H p (.lst (List.replicate k.toNat xs).flatten))
theorem jac{α:Type}(xs:List α)(k:Nat):(List.replicate k xs).flatten.length=k*xs.length:=by
 induction k with
 |zero=>simp
 |succ k ih=>rw[List.replicate_succ,List.flatten_cons,List.length_append,ih,Nat.succ_mul,Nat.add_comm]
theorem D5:qD X (binaryOp .Mult) aot:=by
 intro pins s σ H x y v u Q I rx ry h;obtain⟨l,k,xs,rfl,rfl,hH,h1,h2,hz,q⟩:=h;cases rx;obtain⟨t,rfl⟩:=ry;obtain⟨z,its,n,r,hl,e⟩:=I.GZ hH;have hlen:its.toArray.size*k.toNat≤sizeLine:=by rw[List.size_toArray,←hl];exact hz
 have apO:¬its.toArray.size*k.toNat>(2 ^ 63 - 1) / 8:=by
  have:(sizeLine:Nat)≤(2 ^ 63 - 1) / 8:=by decide
  lia
 have amH:¬(!Builtin.List.listFitsIndex k)=true:=by
  rw[fitsIndex_both h1 h2];exact Bool.false_ne_true
 have KN:¬Builtin.List.listTooLong (its.toArray.size*k.toNat)=true:=by
  rw[CK hlen];exact Bool.false_ne_true
 have Cb:List.foldl (fun x1 x2=>x1++x2) #[] (List.replicate (if its.toArray.isEmpty=true then 0 else k.toNat) its.toArray)=(List.replicate k.toNat its).flatten.toArray:=by
  have f0:∀m:Nat,List.foldl (fun x1 x2=>x1++x2) #[] (List.replicate m its.toArray)=(List.replicate m its).flatten.toArray:=fun m=>by
   have:=ZB its m [];rw[List.nil_append] at this;exact this
  rw[f0]
  cases its with
  |nil=>simp
  |cons a r' =>rw[if_neg (by simp)]
 refine wpAny_binaryOp_repeat_ref (T:="list") (U:="int") (by decide) ⟨_,e,rfl⟩ (fun s' =>typeIs_int s' k t) noFill_list_mul F.fills_int_mul F.slot_int_rmul repeat_list F.slot_int_index.lookup
  (call_meets F.slot_int_rmul (typeIs_int s k t) F.entry_int_rmul (F.args_int_rmul_2 _ _) (int___rmul___int_list k t l its.toArray n)
   ⟨e,rfl,⟨_,e,rfl⟩,call_meets F.slot_list_mul ⟨_,e,rfl⟩ F.entry_list_mul (F.args_list_mul_2 _ _) (AutoListH.list___mul___list_int_3 l its.toArray n k t amH apO KN) ⟨e,?_⟩⟩)
 rw[Cb];exact⟨.ref _,_,I.V1 (t' :=s.toks) (r.rep k.toNat) (by rw[jac,Nat.mul_comm];exact hz),rfl,q _ I.fresh⟩
end
section
variable{prog:Program}{w:World}{A:Around}{E:Value→Shared→Prop}{s:Shared}
set_option maxRecDepth 100000 in
end
section
variable{X:Cx}
end
section
variable{κ:Type}[DecidableEq κ]
def bz(kvs:List (κ×V))(k:κ):Option V:=(kvs.find? fun kv=>decide (kv.1=k)).map (·.2)
def v4(kvs:List (κ×V))(k:κ)(v:V):List (κ×V):=
 if(kvs.any fun kv=>decide (kv.1=k))=true then kvs.map (fun kv=>if kv.1=k then(kv.1,v) else kv) else kvs++[(k,v)]
def Q7(kvs:List (κ×V))(k:κ):List (κ×V):=kvs.filter fun kv=>decide (kv.1≠k)
theorem b9{p:κ×V}{r:List (κ×V)}{k:κ}(e:p.1=k):bz (p::r) k=some p.2:=by simp[bz,List.find?_cons,e]
theorem br{p:κ×V}{r:List (κ×V)}{k:κ}(e:¬p.1=k):bz (p::r) k=bz r k:=by simp[bz,List.find?_cons,e]
theorem ni(k:κ):∀kvs:List (κ×V),(kvs.any fun kv=>decide (kv.1=k))=(bz kvs k).isSome
 |[]=>rfl
 |p::r=>by
  rw[List.any_cons];by_cases e:p.1=k
  ·simp only[b9 e,decide_eq_true e,Bool.true_or,Option.isSome_some]
  ·rw[br e,decide_eq_false e,Bool.false_or];exact ni k r
theorem CF(k j:κ)(y:V):∀kvs:List (κ×V),bz (kvs.map fun kv=>if kv.1=k then(kv.1,y) else kv) j=(bz kvs j).map fun x=>if j=k then y else x
 |[]=>rfl
 |p::r=>by
  have ih:=CF k j y r;rw[List.map_cons];by_cases h:p.1=k
  ·rw[if_pos h];by_cases e:p.1=j
   ·rw[b9 (p:=(p.1,y)) e,b9 e,Option.map_some,if_pos (e.symm.trans h)]
   ·rw[br (p:=(p.1,y)) e,br e,ih]
  ·rw[if_neg h];by_cases e:p.1=j
   ·rw[b9 (p:=p) e,b9 e,Option.map_some,if_neg (fun z=>h (e.trans z))]
   ·rw[br (p:=p) e,br e,ih]
theorem zS(k j:κ)(y:V):∀kvs:List (κ×V),bz kvs k=none→bz (kvs++[(k,y)]) j=if j=k then some y else bz kvs j
 |[],_=>by
  by_cases e:k=j
  ·rw[if_pos e.symm];exact b9 (p:=(k,y)) e
  ·rw[if_neg (fun z=>e z.symm)];exact br (p:=(k,y)) e
 |p::r,hn=>by
  rw[List.cons_append];have hk:¬p.1=k:=fun z=>by rw[b9 z] at hn;cases hn
  rw[br hk] at hn;have ih:=zS k j y r hn;by_cases e:p.1=j
  ·rw[b9 e,b9 e,if_neg (fun z=>hk (e.trans z))]
  ·rw[br e,br e,ih]
theorem fL(kvs:List (κ×V))(k j:κ)(y:V):bz (v4 kvs k y) j=if j=k then some y else bz kvs j:=by
 unfold v4;by_cases a:(kvs.any fun kv=>decide (kv.1=k))=true
 ·rw[if_pos a,CF];rw[ni] at a;by_cases e:j=k
  ·obtain⟨x,hx⟩:=Option.isSome_iff_exists.mp a;rw[if_pos e,e,hx,Option.map_some,if_pos rfl]
  ·rw[if_neg e]
   cases bz kvs j with
   |none=>rfl
   |some x=>rw[Option.map_some,if_neg e]
 ·rw[if_neg a];refine zS k j y kvs ?_;rw[ni] at a
  cases q:bz kvs k with
  |none=>rfl
  |some x=>rw[q] at a;exact(a rfl).elim
theorem dI(kvs:List (κ×V))(k:κ)(v:V):(v4 kvs k v).length≤kvs.length+1:=by
 unfold v4
 split
 ·rw[List.length_map];lia
 ·rw[List.length_append,List.length_cons,List.length_nil];lia
theorem tF{kvs:List (κ×V)}{k:κ}(v:V)(h:bz kvs k=none):v4 kvs k v=kvs++[(k,v)]:=by
 unfold v4;rw[ni,h];exact if_neg (by decide)
theorem lB.uR{o:Option V}{u:aH}(r:lB o u):o.isSome=u.isSome:=by
 cases o with
 |none=>cases u with
  |none=>rfl
  |some _=>exact(show False from r).elim
 |some _=>cases u with
  |none=>exact(show False from r).elim
  |some _=>rfl
theorem lB.getD{o:Option V}{u:aH}{d:V}{d' :Value}(r:lB o u)(rd:RelV d d'):RelV (o.getD d) (u.getD d'):=by
 cases o with
 |none=>cases u with
  |none=>exact rd
  |some _=>exact(show False from r).elim
 |some _=>cases u with
  |none=>exact(show False from r).elim
  |some _=>exact r
theorem KV.val{kvs:List (κ×V)}{vs:List (κ×Value)}(r:KV kvs vs)(k:κ):lB (bz kvs k) (valueAt vs k):=by
 unfold KV at r
 induction r with
 |nil=>exact True.intro
 | @cons p q ps qs h t ih=>
  obtain⟨h1,h2⟩:=h;by_cases e:p.1=k
  ·have e' :q.1=k:=h1.symm.trans e;have b:valueAt (q::qs) k=some q.2:=by simp[valueAt,List.find?_cons,e']
   rw[b9 e,b];exact h2
  ·have e' :¬q.1=k:=fun z=>e (h1.trans z);have b:valueAt (q::qs) k=valueAt qs k:=by simp[valueAt,List.find?_cons,e']
   rw[br e,b];exact ih
theorem KV.any{kvs:List (κ×V)}{vs:List (κ×Value)}(r:KV kvs vs)(k:κ):(kvs.any fun kv=>decide (kv.1=k))=vs.any fun kv=>decide (kv.1=k):=by
 unfold KV at r
 induction r with
 |nil=>rfl
 |cons h t ih=>rw[List.any_cons,List.any_cons,ih,h.1]
theorem KV.WD{kvs:List (κ×V)}{vs:List (κ×Value)}(r:KV kvs vs)(k:κ){y:V}{u:Value}(ry:RelV y u):
 KV (kvs.map fun kv=>if kv.1=k then(kv.1,y) else kv) (vs.map fun kv=>if kv.1=k then(kv.1,u) else kv):=by
 unfold KV at r ⊢
 induction r with
 |nil=>exact .nil
 | @cons p q ps qs h t ih=>
  rw[List.map_cons,List.map_cons];refine .cons ?_ ih;obtain⟨h1,h2⟩:=h;by_cases e:p.1=k
  ·rw[if_pos e,if_pos (h1.symm.trans e)];exact⟨h1,ry⟩
  ·rw[if_neg e,if_neg (fun z=>e (h1.trans z))];exact⟨h1,h2⟩
theorem KV.put{kvs:List (κ×V)}{vs:List (κ×Value)}(r:KV kvs vs)(k:κ){y:V}{u:Value}(ry:RelV y u):KV (v4 kvs k y) (stored vs k u):=by
 unfold v4 stored;rw[r.any k];by_cases e:(vs.any fun kv=>decide (kv.1=k))=true
 ·rw[if_pos e,if_pos e];exact r.WD k ry
 ·rw[if_neg e,if_neg e];exact Paired.snoc r ⟨rfl,ry⟩
theorem KV.drop{kvs:List (κ×V)}{vs:List (κ×Value)}(r:KV kvs vs)(k:κ):KV (Q7 kvs k) (without vs k):=by
 unfold KV at r ⊢;unfold Q7 without
 induction r with
 |nil=>exact .nil
 | @cons p q ps qs h t ih=>
  obtain⟨h1,h2⟩:=h;rw[List.filter_cons,List.filter_cons];by_cases e:p.1=k
  ·have a:¬decide (p.1≠k)=true:=by simp[e]
   have b:¬decide (q.1≠k)=true:=by simp[h1.symm.trans e]
   rw[if_neg a,if_neg b];exact ih
  ·have e' :¬q.1=k:=fun z=>e (h1.trans z);have a:decide (p.1≠k)=true:=by simp[e]
   have b:decide (q.1≠k)=true:=by simp[e']
   rw[if_pos a,if_pos b];exact .cons ⟨h1,h2⟩ ih
theorem KV.keys{kvs:List (κ×V)}{vs:List (κ×Value)}(r:KV kvs vs):kvs.map (·.1)=vs.map (·.1):=by
 unfold KV at r
 induction r with
 |nil=>rfl
 |cons h t ih=>rw[List.map_cons,List.map_cons,ih,h.1]
theorem KV.length{kvs:List (κ×V)}{vs:List (κ×Value)}(r:KV kvs vs):kvs.length=vs.length:=Paired.length r
end
theorem vi{P:Program}{w:World}{k:wp}{u:Value}(r:RelV (kV k) u):(bI P w).is k u=true:=by
 cases k with
 |inl i=>obtain⟨t,e⟩:=(show ∃t,u=Value.int i t from r);subst e;exact CU P w i t
 |inr x=>obtain⟨t,e⟩:=(show ∃t,u=Value.str x t from r);subst e;exact C9 P w x t
theorem z5{P:Program}{w:World}:∀{ks:List wp} {us:aA},Vals (ks.map kV) us→ItemsAre (bI P w) ks us
 |[],_,r=>by rw[List.map_nil] at r;cases r;exact .nil
 |k::ks,_,r=>by
  rw[List.map_cons] at r
  cases r with
  |cons h t=>exact .cons (vi h) (z5 t)
abbrev KT(H:Hp):dJ→List (List wp×Addr×Value)→Prop:=Paired fun p q=>p.1=q.1∧H q.2.1=some (.tup (p.1.map kV))∧RelV p.2 q.2.2
theorem KT.val{H:Hp}{kvs:dJ}{xs:List (List wp×Addr×Value)}(r:KT H kvs xs)(k:List wp):lB (bz kvs k) ((atKey xs k).map (·.2)):=by
 induction r with
 |nil=>exact True.intro
 | @cons p q ps qs h t ih=>
  obtain⟨h1,_,h2⟩:=h;by_cases e:p.1=k
  ·have e' :q.1=k:=h1.symm.trans e;have b:atKey (q::qs) k=some q.2:=by simp[atKey,List.find?_cons,e']
   rw[b9 e,b];exact h2
  ·have e' :¬q.1=k:=fun z=>e (h1.trans z);have b:atKey (q::qs) k=atKey qs k:=by simp[atKey,List.find?_cons,e']
   rw[br e,b];exact ih
theorem KT.WD{H:Hp}{kvs:dJ}{xs:List (List wp×Addr×Value)}(r:KT H kvs xs)(k:List wp){y:V}{u:Value}(ry:RelV y u):
 KT H (kvs.map fun kv=>if kv.1=k then(kv.1,y) else kv) (xs.map (putAt k u)):=by
 induction r with
 |nil=>exact .nil
 | @cons p q ps qs h t ih=>
  rw[List.map_cons,List.map_cons];refine .cons ?_ ih;obtain⟨h1,h2,h3⟩:=h;unfold putAt;by_cases e:p.1=k
  ·rw[if_pos e,if_pos (h1.symm.trans e)];exact⟨h1,h2,ry⟩
  ·rw[if_neg e,if_neg (fun z=>e (h1.trans z))];exact⟨h1,h2,h3⟩
theorem KT.put{H:Hp}{kvs:dJ}{xs:List (List wp×Addr×Value)}(r:KT H kvs xs)(k:List wp){b:Addr}{y:V}{u:Value}(hb:H b=some (.tup (k.map kV)))(ry:RelV y u):
 KT H (v4 kvs k y) (storedH xs k b u):=by
 have e:(kvs.any fun kv=>decide (kv.1=k))=(atKey xs k).isSome:=by
  rw[ni,(r.val k).uR,Option.isSome_map]
 unfold v4 storedH;rw[e];by_cases q:(atKey xs k).isSome=true
 ·rw[if_pos q,if_pos q];exact r.WD k ry
 ·rw[if_neg q,if_neg q];exact Paired.snoc r ⟨rfl,hb,ry⟩
theorem KT.keeps{H H' :Hp}{kvs:dJ}{xs:List (List wp×Addr×Value)}(r:KT H kvs xs)(ht:∀b ys,H b=some (.tup ys)→H' b=some (.tup ys)):KT H' kvs xs:=
 Paired.Us r fun _ _ z=>⟨z.1,ht _ _ z.2.1,z.2.2⟩
section
variable{P:Program}{w:World}{H:Hp}{h:Heap}{a:Addr}
theorem Q4{u:HO}(ok:qI P w H h)(e:Rd H a u):bq P w H h a u:=e.ok ok
theorem Aj{kvs:bJ}(ok:qI P w H h)(e:Rd H a (.dK kvs)):kvs.length≤sizeLine∧(a==sysModules)=false∧∃vs,KV kvs vs∧h.DictOf (bI P w) a vs:=
 show bq P w H h a (.dK kvs) from Q4 ok e
theorem xl{kvs:bJ}(ok:qI P w H h)(e:H a=some (.dK kvs)):kvs.length≤sizeLine∧(a==sysModules)=false∧∃vs,KV kvs vs∧h.DictOf (bI P w) a vs:=Aj ok (.inl e)
theorem u4{ks:List wp}(ok:qI P w H h)(e:H a=some (.tup (ks.map kV))):(tupleKind (bI P w)).is h ks a:=by
 obtain⟨_,its,r,o,h1,h2,n,h3⟩:=(show bq P w H h a (.tup (ks.map kV)) from ok a _ e);exact⟨o,its.toArray,n,h1,h2,h3,by simpa using z5 r⟩
theorem zT{kvs:dJ}(ok:qI P w H h)(e:Rd H a (.dT kvs)):kvs.length≤sizeLine∧(a==sysModules)=false∧
 ∃xs,KT H kvs xs∧h.DictOfH (tupleKind (bI P w)) a xs:=by
 obtain⟨z,y,xs,r,o,es,ep,h1,h2,h3,h4,h5⟩:=(show bq P w H h a (.dT kvs) from Q4 ok e);refine⟨z,y,xs,r,o,es,ep,h1,h2,h3,h4,fun x hx=> ?_,h5⟩
 have all:∀{l:dJ} {m:List (List wp×Addr×Value)},KT H l m→∀x∈m,(tupleKind (bI P w)).is h x.1 x.2.1:=by
  intro l m q
  induction q with
  |nil=>intro x hx;exact nomatch hx
  | @cons p q ps qs hq t ih=>
   intro x hx;rcases List.mem_cons.mp hx with e|hx
   ·subst e;exact u4 ok (by rw[←hq.1];exact hq.2.1)
   ·exact ih x hx
 exact all r x hx
theorem XQ{kvs:dJ}(ok:qI P w H h)(e:H a=some (.dT kvs)):kvs.length≤sizeLine∧(a==sysModules)=false∧
 ∃xs,KT H kvs xs∧h.DictOfH (tupleKind (bI P w)) a xs:=zT ok (.inl e)
end
def ff(H:Hp)(a:Addr)(y:V)(r:Option V):Prop:=
 (∃kvs k,Rd H a (.dK kvs)∧y=kV k∧r=bz kvs k)∨∃kvs k b,Rd H a (.dT kvs)∧y= .ref b∧H b=some (.tup (k.map kV))∧r=bz kvs k
def sD(H:Hp)(a:Addr)(y v:V)(H' :Hp):Prop:=
 (∃kvs k,H a=some (.dK kvs)∧y=kV k∧kvs.length<sizeLine∧H' =upd H a (.dK (v4 kvs k v)))∨
 ∃kvs k b,H a=some (.dT kvs)∧y= .ref b∧H b=some (.tup (k.map kV))∧kvs.length<sizeLine∧H' =upd H a (.dT (v4 kvs k v))
theorem ff.k{H:Hp}{a:Addr}{kvs:bJ}{k:wp}(e:H a=some (.dK kvs)):ff H a (kV k) (bz kvs k):= .inl ⟨kvs,k,.inl e,rfl,rfl⟩
theorem ff.t{H:Hp}{a b:Addr}{kvs:dJ}{k:List wp}(e:H a=some (.dT kvs))(eb:H b=some (.tup (k.map kV))):ff H a (.ref b) (bz kvs k):= .inr ⟨kvs,k,b,.inl e,rfl,eb,rfl⟩
theorem sD.k{H:Hp}{a:Addr}{kvs:bJ}{k:wp}{v:V}(e:H a=some (.dK kvs))(hl:kvs.length<sizeLine):sD H a (kV k) v (upd H a (.dK (v4 kvs k v))):= .inl ⟨kvs,k,e,rfl,hl,rfl⟩
theorem sD.t{H:Hp}{a b:Addr}{kvs:dJ}{k:List wp}{v:V}(e:H a=some (.dT kvs))(eb:H b=some (.tup (k.map kV)))(hl:kvs.length<sizeLine):
 sD H a (.ref b) v (upd H a (.dT (v4 kvs k v))):= .inr ⟨kvs,k,b,e,rfl,eb,hl,rfl⟩
section
variable{X:Cx}{pins:aL}{σ:St}{H:Hp}{s:Shared}{a:Addr}{y v:V}{u r:Value}{o:Option V}{A:Around}{E:Value→Shared→Prop}
theorem Inv.big(I:Inv X pins σ H s):sysModules<s.heap.objs.size:=by
 have h:mainGlobals<s.heap.objs.size:=(I.mod.glob.keeps I.bk).lt;exact Nat.lt_trans (by decide) h
theorem HV{Q:Value→Shared→Prop}(hu:A.units+1<cLine)(I:Inv X pins σ H s)(g:ff H a y (some v))(ry:RelV y u)(h:∀w' s',Inv X pins σ H s'→RelV v w'→Q w' s'):
 wpAny (model X.prog X.w) A (getItem (.ref a) u) Q E s:=by
 rcases g with⟨kvs,k,e,ey,l⟩|⟨kvs,k,b,e,ey,eb,l⟩
 ·subst ey;obtain⟨z,hd,vs,rel,dd⟩:=Aj I.bC e;obtain⟨w',hw,D4⟩:=lB.some_of (v:=v) (o:=valueAt vs k) (by rw[l];exact rel.val k);exact wpAny_getItem_of (vi ry) dd.mapOf hw (h w' _ (I.tok _) D4)
 ·subst ey;cases(show u=Value.ref b from ry);obtain⟨z,hd,xs,rel,dd⟩:=zT I.bC e;obtain⟨w',hw,D4⟩:=lB.some_of (v:=v) (o:=(atKey xs k).map (·.2)) (by rw[l];exact rel.val k);obtain⟨p,hp,w_⟩:=Option.map_eq_some_iff.mp hw;refine wpAny_getItem_heap (tupleKind_room_in1 hu) (u4 I.bC eb) dd hp ?_;rw[w_];exact h w' _ (I.tok _) D4
theorem ag1{Q:Value→Shared→Prop}(hu:A.units+1<cLine)(I:Inv X pins σ H s)(g:ff H a y o)(ry:RelV y u)(h:∀s',Inv X pins σ H s'→Q (.bool o.isSome) s'):
 wpAny (model X.prog X.w) A (compareOp .In u (.ref a)) Q E s:=by
 rcases g with⟨kvs,k,e,ey,l⟩|⟨kvs,k,b,e,ey,eb,l⟩
 ·subst ey;obtain⟨z,hd,vs,rel,dd⟩:=Aj I.bC e;refine wpAny_in_of (vi ry) hd dd.mapOf ?_;rw[←(rel.val k).uR,←l];exact h _ (I.tok _)
 ·subst ey;cases(show u=Value.ref b from ry);obtain⟨z,hd,xs,rel,dd⟩:=zT I.bC e;refine wpAny_in_heap (tupleKind_room_in1 hu) (u4 I.bC eb) hd dd ?_;have q:=(rel.val k).uR;rw[Option.isSome_map] at q;rw[←q,←l];exact h _ (I.tok _)
theorem wx{h' :Heap}{t' :Nat}{ob:HO}(I:Inv X pins σ H s)(mu:YN (H a))(hs:Heap.SameBut a s.heap h')(he:∃q,h'.get? a=some q)(new:bq X.prog X.w (upd H a ob) h' a ob):
 Inv X pins σ (upd H a ob) {s with heap:=h',toks:=t'}:=
 I.write (x:=a) (e:=a) mu (.inl rfl) (fun b q hb z=>(hs.2 b hb).trans z) he new
theorem wK{P:Program}{w:World}{H' :Hp}{h' :Heap}{kvs:bJ}{vs:List (wp×Value)}(z:kvs.length≤sizeLine)(hd:(a==sysModules)=false)(rel:KV kvs vs)(dd:h'.DictOf (bI P w) a vs):
 bq P w H' h' a (.dK kvs):=⟨z,hd,vs,rel,dd⟩
theorem GQ{H' :Hp}{Q:Unit→Shared→Prop}(hu:A.units+1<cLine)(I:Inv X pins σ H s)(g:sD H a y v H')(ry:RelV y u)(rv:RelV v r)(h:∀s',Inv X pins σ H' s'→Q () s'):
 wpAny (model X.prog X.w) A (setItem (.ref a) u r) Q E s:=by
 rcases g with⟨kvs,k,e,ey,l,eH⟩|⟨kvs,k,b,e,ey,eb,l,eH⟩
 ·subst ey eH;obtain⟨z,hd,vs,rel,dd⟩:=xl I.bC e;have hz:vs.length≤sizeLine:=by rw[←rel.length];exact z
  have hl:(v4 kvs k v).length≤sizeLine:=by have:=dI kvs k v;lia
  refine wpAny_setItem_pairs (hsz:=hz) (vi ry) dd fun h' Ek hs=>h _ ?_;have he:∃q,h'.get? a=some q:=let⟨q,_,_,hq,_⟩:=Ek;⟨q,hq⟩
  exact wx I (by rw[e];exact True.intro) hs he (wK hl hd (rel.put k rv) Ek)
 ·subst ey eH;cases(show u=Value.ref b from ry);obtain⟨z,hd,xs,rel,dd⟩:=XQ I.bC e;have hz:xs.length≤sizeLine:=by rw[←Paired.length rel];exact z
  have hl:(v4 kvs k v).length≤sizeLine:=by have:=dI kvs k v;lia
  refine wpAny_setItem_heap (hsz:=hz) (tupleKind_room_in1 hu) (u4 I.bC eb) dd fun h' Ek hs=>h _ ?_;obtain⟨q,es,ep,hq,h2,h3,h4,_,h5⟩:=Ek;refine wx I (by rw[e];exact True.intro) hs ⟨q,hq⟩ ⟨hl,hd,_,(rel.put k eb rv).keeps fun c ys ec=> ?_,q,es,ep,hq,h2,h3,h4,h5⟩;rw[af (aK ec e (fun z=>nomatch z))];exact ec
end
section
variable{X:Cx}{pins:aL}{σ:St}{H:Hp}{s:Shared}{a:Addr}{kvs:bJ}{k:wp}{u:Value}{A:Around}{E:Value→Shared→Prop}
end
def aac(i:Expr):Prop:=∀ov iv,subscripted i false ov iv=operate [ov,iv] (getItem ov iv)
theorem Qh{prog:Program}{w:World}{A:Around}{E:Value→Shared→Prop}{s:Shared}{env:Env}{value slice:Expr}{pos:Pos}{T id:String}{Q:Value→Shared→Prop}
 (hl:typeLookup (.type T) "__getitem__"=pure (some (.builtin id))) (hs:aac slice)
 (h:wpAny (model prog w) A (eval value env) (fun o bE=>wpAny (model prog w) A (eval slice env) (fun i pY=>pY.TypeIs o T∧wpAny (model prog w) A (getItem o i) Q E pY) E bE) E s):
 wpAny (model prog w) A (eval (.Subscript value slice pos) env) Q E s:=by
 refine Subscript_ (wpAny_mono h (fun o bE iO=>wpAny_mono iO (fun i pY Kw=> ?_) fun _ _ x=>x) fun _ _ x=>x);obtain⟨hT,Kw⟩:=Kw;unfold subscriptTail;refine wpAny_bind ?_;rw[getitemInPython_of_ne hT.not_modules];refine wpAny_bind (wpAny_specialOf hT hl ?_)
 have fin:wpAny (model prog w) A (subscripted slice false o i) (fun r vO=>wpAny (model prog w) A (letTemporaryGo value o r>>= fun _=>pure r) Q E vO) E pY:=by
  rw[hs o i];exact wpAny_operating (wpAny_mono Kw (fun r vO Ow=>wpAny_bind (wpAny_letTemporaryGo (wpAny_pure Ow))) fun _ _ x=>x)
 first
  |exact wpAny_pure (wpAny_bind fin)
  |exact wpAny_bind (wpAny_pure (wpAny_bind fin))
  |exact wpAny_bind fin
theorem C2{X:Cx}{pins:aL}{σ:St}{H:Hp}{s:Shared}{a:Addr}{y:V}{o:Option V}(I:Inv X pins σ H s)(g:ff H a y o):s.TypeIs (.ref a) "dict":=by
 rcases g with⟨kvs,k,e,_,_⟩|⟨kvs,k,b,e,_,_,_⟩
 ·obtain⟨_,_,vs,_,dd⟩:=Aj I.bC e;exact dd.typeIs
 ·obtain⟨_,_,xs,_,dd⟩:=zT I.bC e;exact dd.typeIs
def aaX(td ty:TE):TE:=fun σ H Q=>td σ H fun x H1=>ty σ H1 fun y H2=>∃a v,x= .ref a∧ff H2 a y (some v)∧Q v H2
def apu(ty td:TE):TE:=fun σ H Q=>ty σ H fun y H1=>td σ H1 fun x H2=>∃a o,x= .ref a∧ff H2 a y o∧Q (.bl o.isSome) H2
def Yh(td ty tv:TE):TS:=fun D σ H=>tv σ H fun v H1=>td σ H1 fun x H2=>ty σ H2 fun y H3=>∃a H4,x= .ref a∧sD H3 a y v H4∧D.nx σ H4
section
variable{X:Cx}{o i e value:Expr}{pos pos' aey:Pos}{td ty tv:TE}
theorem aN(hu:X.A.units+1<cLine)(ho:PE X o td)(hi:PE X i ty)(hs:aac i):PE X (.Subscript o i pos) (aaX td ty):=by
 intro pins s σ H Q I h;refine Qh PySem.F.slot_dict_getitem.lookup hs (ck (ho pins s σ H _ I h) fun u s1 ⟨x,H1,I1,rx,q1⟩=>ck (hi pins s1 σ H1 _ I1 q1) fun iv s2 ⟨y,H2,I2,ry,a,v,ex,g,q2⟩=> ?_);subst ex;obtain rfl:u=Value.ref a:=rx;exact⟨C2 I2 g,HV hu I2 g ry fun w' s3 I3 D4 =>⟨v,H2,I3,D4,q2⟩⟩
theorem LM(hu:X.A.units+1<cLine)(hi:PE X i ty)(ho:PE X o td):PC X .In i o (apu ty td):=by
 intro pins s σ H Q I h;refine ck (hi pins s σ H _ I h) fun iv s1 ⟨y,H1,I1,ry,q1⟩=>ck (ho pins s1 σ H1 _ I1 q1) fun u s2 ⟨x,H2,I2,rx,a,ov,ex,g,q2⟩=> ?_;subst ex;obtain rfl:u=Value.ref a:=rx;exact ag1 hu I2 g ry fun s3 I3=>⟨.bl ov.isSome,H2,I3,rfl,q2⟩
theorem oM(hu:X.A.units+1<cLine)(ho:PE X o td)(hi:PE X i ty)(hv:PE X value tv)(hs:swapsWith value (some (.Subscript o i pos')) pos.line X.env=pure false):
 PS X (.Assign [.Subscript o i pos'] value pos) (Yh td ty tv):=by
 intro pins s σ H D I h;refine wpAny_Assign_Subscript (ck (hv pins s σ H _ I h) fun r s1 ⟨v,H1,I1,rv,q1⟩=>ck (ho pins s1 σ H1 _ I1 q1) fun u s2 ⟨x,H2,I2,rx,q2⟩=>ck (hi pins s2 σ H2 _ I2 q2) fun iv s3 ⟨y,H3,I3,ry,a,H4,ex,g,q3⟩=> ?_) hs;subst ex;obtain rfl:u=Value.ref a:=rx;exact GQ hu I3 g ry rv fun s4 I4=>⟨σ,H4,I4,q3⟩
end
theorem qe{P:Program}{w:World}{H:Hp}(h:Heap)(hb:sysModules<h.objs.size):bq P w H (h.push {cls:= .type "dict",data:= .dict #[]}) h.objs.size (.dK []):=
 ⟨Nat.zero_le _,beq_eq_false_iff_ne.mpr (Ne.symm (Nat.ne_of_lt hb)),[],.nil,Heap.DictOf.new h⟩
theorem JP{P:Program}{w:World}{H:Hp}(h:Heap)(hb:sysModules<h.objs.size):bq P w H (h.push {cls:= .type "dict",data:= .dict #[]}) h.objs.size (.dT []):=
 ⟨Nat.zero_le _,beq_eq_false_iff_ne.mpr (Ne.symm (Nat.ne_of_lt hb)),[],.nil,_,#[],0,Heap.get?_push_size _ rfl,⟨rfl,rfl,rfl⟩,rfl,rfl,List.nodup_nil⟩
def Uj:TE:=fun _ H Q=>∀p,H p=none→Q (.ref p) (upd H p (.dK []))
def Uv:TE:=fun _ H Q=>∀p,H p=none→Q (.ref p) (upd H p (.dT []))
section
variable{X:Cx}{pos:Pos}
theorem mT:PE X (.Dict [] [] pos) Uj:=fun pins s σ H Q I h=>
 wpAny_Dict_empty ⟨.ref s.heap.objs.size,_,I.laid (a:=s.heap.objs.size) (o:= .dK []) (t' :=s.toks) (fun _ _ q=>Heap.get?_push_of_some _ q) (Nat.le_refl _) (qe s.heap I.big),rfl,h _ (I.bC.fresh (Nat.le_refl _))⟩
theorem Jz:PE X (.Dict [] [] pos) Uv:=fun pins s σ H Q I h=>
 wpAny_Dict_empty ⟨.ref s.heap.objs.size,_,I.laid (a:=s.heap.objs.size) (o:= .dT []) (t' :=s.toks) (fun _ _ q=>Heap.get?_push_of_some _ q) (Nat.le_refl _) (JP s.heap I.big),rfl,h _ (I.bC.fresh (Nat.le_refl _))⟩
end
def EH:List (TE×TE)→St→Hp→(List (V×V)→Hp→Prop)→Prop
 |[],_,H,Q=>Q [] H
 |(tk,tv)::r,σ,H,Q=>tk σ H fun x H1=>tv σ H1 fun y H2=>EH r σ H2 fun ps H3=>Q ((x,y)::ps) H3
abbrev VV:List (V×V)→List (Value×Value)→Prop:=Paired fun p q=>RelV p.1 q.1∧RelV p.2 q.2
def PPs(X:Cx)(pos:Pos)(keys:List (Option Expr))(values:cQ)(PN:List (TE×TE)):Prop:=
 ∀(pins:aL) (s:Shared) (σ:St) (H:Hp) (Q:List (V×V)→Hp→Prop),Inv X pins σ H s→EH PN σ H Q→
  wpAny (model X.prog X.w) X.A (evalPairs (pairTrees keys values X.env pos)) (fun vs s' =>∃ps H',Inv X pins σ H' s'∧VV ps vs∧Q ps H') X.xe s
theorem PJ{X:Cx}{pos:Pos}:PPs X pos [] [] []:=fun pins s σ H Q I h=>pairTrees_nil_walk ⟨[],H,I,.nil,h⟩
theorem mJ{X:Cx}{pos:Pos}{k v:Expr}{ks:List (Option Expr)}{vs:cQ}{tk tv:TE}{PN:List (TE×TE)}(hk:PE X k tk)(hv:PE X v tv)(hr:PPs X pos ks vs PN):
 PPs X pos (some k::ks) (v::vs) ((tk,tv)::PN):=fun pins s σ H Q I h=>
 pairTrees_cons_walk (ck (hk pins s σ H _ I h) fun u s1 ⟨x,H1,I1,rx,q1⟩=>ck (hv pins s1 σ H1 _ I1 q1) fun w2 s2 ⟨y,H2,I2,ry,q2⟩=>
  ck (hr pins s2 σ H2 _ I2 q2) fun ws s3 ⟨ps,H3,I3,rel,q3⟩=>⟨(x,y)::ps,H3,I3,.cons ⟨rx,ry⟩ rel,q3⟩)
def mH(kvs more:bJ):bJ:=more.foldl (fun acc kv=>v4 acc kv.1 kv.2) kvs
theorem KV.merge:∀{more:bJ} {rs:List (wp×Value)} {kvs:bJ} {vs:List (wp×Value)},KV more rs→KV kvs vs→KV (mH kvs more) (merged vs rs):=by
 intro more rs kvs vs r;unfold KV at r
 induction r generalizing kvs vs with
 |nil=>intro q;exact q
 | @cons p q ps qs h t ih=>
  intro r0
  have e:KV (v4 kvs p.1 p.2) (stored vs q.1 q.2):=by
   have:=r0.put p.1 h.2;rw[←h.1];exact this
  exact ih e
theorem mr:∀(more kvs:bJ),(mH kvs more).length≤kvs.length+more.length
 |[],kvs=>by show kvs.length≤kvs.length+0;lia
 |p::r,kvs=>by
  have h1:=mr r (v4 kvs p.1 p.2);have h2:=dI kvs p.1 p.2;show(mH (v4 kvs p.1 p.2) r).length≤_;rw[List.length_cons];lia
theorem wQ{P:Program}{w:World}:∀{kvs:bJ} {ws:List (Value×Value)},VV (kvs.map fun kv=>(kV kv.1,kv.2)) ws→∃rs,Carries (bI P w) ws rs∧KV kvs rs
 |[],_,r=>by rw[List.map_nil] at r;cases r;exact⟨[],True.intro,.nil⟩
 |p::kvs,_,r=>by
  rw[List.map_cons] at r
  cases r with
  | @cons a b as bs h t=>
   obtain⟨rs,c,q⟩:=wQ (P:=P) (w:=w) t;obtain⟨b1,b2⟩:=b;exact⟨(p.1,b2)::rs,⟨vi h.1,rfl,c⟩,.cons ⟨rfl,h.2⟩ q⟩
def abC(PN:List (TE×TE)):TE:=fun σ H Q=>∀p,H p=none→EH PN σ (upd H p (.dK [])) fun ps H2=>H2 p=some (.dK [])∧∃kvs:bJ,ps=kvs.map (fun kv=>(kV kv.1,kv.2))∧kvs.length≤15∧Q (.ref p) (upd H2 p (.dK (mH [] kvs)))
theorem Pm{X:Cx}{pos:Pos}{keys:List (Option Expr)}{values:cQ}{PN:List (TE×TE)}(h:PPs X pos keys values PN)(Wj:keys.all (·.isSome)=true)(hl:keys.length=values.length)(h0:keys≠[])
 (h15:keys.length≤15):PE X (.Dict keys values pos) (abC PN):=by
 intro pins s σ H Q I q;have hn:=I.bC.fresh (Nat.le_refl s.heap.objs.size);have I1:=I.laid (a:=s.heap.objs.size) (o:= .dK []) (h' :=s.heap.push {cls:= .type "dict",data:= .dict #[]}) (t' :=s.toks) (fun _ _ q=>Heap.get?_push_of_some _ q) (Nat.le_refl _) (qe s.heap I.big);refine wpAny_Dict_walk (knd:=bI X.prog X.w) Wj hl h0 h15 (ck (h pins _ σ _ _ I1 (q _ hn)) fun ws s2 ⟨ps,H2,I2,rel,e,kvs,ep,lk,q2⟩=> ?_);subst ep;obtain⟨rs,c,rk⟩:=wQ (P:=X.prog) (w:=X.w) rel;obtain⟨z,hd,vs0,r0,dd⟩:=xl I2.bC e;cases r0;refine⟨rs,c,dd,fun h' Ek hs=>⟨.ref s.heap.objs.size,_,?_,rfl,q2⟩⟩
 have hz:(mH [] kvs).length≤sizeLine:=by
  have h1:=mr kvs [];rw[List.length_nil] at h1;rw[sizeLine_eq];lia
 have he:∃q,h'.get? s.heap.objs.size=some q:=let⟨q,_,_,hq,_⟩:=Ek;⟨q,hq⟩
 exact wx I2 (by rw[e];exact True.intro) hs he (wK hz hd (rk.merge .nil) Ek)
structure M1(X:Cx)(o:Expr)(m:Str)(apos:Pos)(e:Expr)(fk:Pos):Prop where
 base:attributeBase o m X.env (eval o X.env)=eval o X.env
 few:((backTo fk (starEach [e] X.env)).all (fun x=> !x.1)&&(backToKw fk (keywordEach [] X.env)).all (fun x=>x.1.isSome)
  &&decide (([e]:cQ).length+([]:List Keyword).length+(if([]:List Keyword).isEmpty then 0 else 1)<30))=true
 line:(apos.endLine==fk.line)=true
 trees:backTo fk (starEach [e] X.env)=[(false,eval e X.env)]
structure M2(X:Cx)(o:Expr)(m:Str)(apos:Pos)(e f:Expr)(fk:Pos):Prop where
 base:attributeBase o m X.env (eval o X.env)=eval o X.env
 few:((backTo fk (starEach [e,f] X.env)).all (fun x=> !x.1)&&(backToKw fk (keywordEach [] X.env)).all (fun x=>x.1.isSome)
  &&decide (([e,f]:cQ).length+([]:List Keyword).length+(if([]:List Keyword).isEmpty then 0 else 1)<30))=true
 line:(apos.endLine==fk.line)=true
 trees:backTo fk (starEach [e,f] X.env)=[(false,eval e X.env),(false,eval f X.env)]
def IsD(H:Hp)(a:Addr):Prop:=(∃kvs,Rd H a (.dK kvs))∨∃kvs,Rd H a (.dT kvs)
theorem Lr{X:Cx}{pins:aL}{σ:St}{H:Hp}{s:Shared}{a:Addr}(I:Inv X pins σ H s)(d:IsD H a):
 s.TypeIs (.ref a) "dict" ∧(∀b,Value.ref a= .ref b→∃ob,s.heap.get? b=some ob∧ob.dict=none)∧(a==sysModules)=false:=by
 rcases d with⟨kvs,e⟩|⟨kvs,e⟩
 ·obtain⟨_,hd,vs,_,dd⟩:=Aj I.bC e;refine⟨dd.typeIs,fun b q=> ?_,hd⟩;cases q;obtain⟨ob,_,_,h1,h2,_⟩:=dd;exact⟨ob,h1,h2.2.1⟩
 ·obtain⟨_,hd,xs,_,dd⟩:=zT I.bC e;refine⟨dd.typeIs,fun b q=> ?_,hd⟩;cases q;obtain⟨ob,_,_,h1,h2,_⟩:=dd;exact⟨ob,h1,h2.2.1⟩
section
variable{X:Cx}{pins:aL}{σ:St}{H:Hp}{s:Shared}{a:Addr}{y d:V}{u r:Value}{o:Option V}{A:Around}{E:Value→Shared→Prop}
theorem Uu{Q:Value→Shared→Prop}(hu:A.units+1<cLine)(I:Inv X pins σ H s)(g:ff H a y o)(ry:RelV y u)(rd:RelV d r)(h:∀w' s',Inv X pins σ H s'→RelV (o.getD d) w'→Q w' s'):
 wpAny (model X.prog X.w) A (call (.builtin "dict.get") [.ref a,u,r]) Q E s:=by
 rcases g with⟨kvs,k,e,ey,l⟩|⟨kvs,k,b,e,ey,eb,l⟩
 ·subst ey;obtain⟨z,hd,vs,rel,dd⟩:=Aj I.bC e;refine call_meetsIn slot_dict_get dd.typeIs entry_dict_get (args_dict_get_3 _ _ _) (meets_dict_get_default (bI X.prog X.w) a (vi ry) hd r) ⟨_,dd.mapOf,h _ _ (I.tok _) ?_⟩;rw[l];exact(rel.val k).getD rd
 ·subst ey;cases(show u=Value.ref b from ry);obtain⟨z,hd,xs,rel,dd⟩:=zT I.bC e;refine call_meetsIn slot_dict_get dd.typeIs entry_dict_get (args_dict_get_3 _ _ _) (meetsH_dict_get_default (tupleKind (bI X.prog X.w)) a b hd r) ⟨tupleKind_room_in1 hu,k,xs,u4 I.bC eb,dd,h _ _ (I.tok _) ?_⟩;rw[l];exact(rel.val k).getD rd
end
def VO(td ty tx:TE):TE:=fun σ H Q=>td σ H fun x H1=>∃a,x= .ref a∧IsD H1 a∧ty σ H1 fun y H2=>tx σ H2 fun z H3=>∃o,ff H3 a y o∧Q (o.getD z) H3
section
variable{X:Cx}{o e f:Expr}{apos fk:Pos}{td ty tx:TE}
theorem pZ(hu:X.A.units+1<cLine)(ho:PE X o td)(he:PE X e ty)(hf:PE X f tx)(m:M2 X o "get" apos e f fk):PE X (.Call (.Attribute o "get" apos) [e,f] [] fk) (VO td ty tx):=by
 intro pins s σ H Q I h;refine wpAny_Call_method m.base m.few m.line plainAttrs_dict slot_dict_get PySem.F.type_dict_get (ck (ho pins s σ H _ I h) fun u s1 ⟨x,H1,I1,rx,a,ex,d,q1⟩=> ?_);subst ex;obtain rfl:u=Value.ref a:=rx;obtain⟨t1,t2,_⟩:=Lr I1 d;refine⟨t1,t2,?_⟩;rw[m.trees]
 refine Calls.callWith_builtin rfl (Calls.evalArgs_plain (Calls.spliced_cons (ck (he pins s1 σ H1 _ I1 q1) fun iv s2 ⟨y,H2,I2,ry,q2⟩=>
  Calls.spliced_cons (ck (hf pins s2 σ H2 _ I2 q2) fun fv s3 ⟨z,H3,I3,rz,ov,g,q3⟩=>Calls.spliced_nil ?_))))
 exact Uu hu I3 g ry rz fun w' s4 I4 D4 =>⟨_,H3,I4,D4,q3⟩
end
section
variable{X:Cx}{pins:aL}{σ:St}{H:Hp}{s:Shared}{a:Addr}{kvs:bJ}{A:Around}{E:Value→Shared→Prop}
end
section
variable{X:Cx}{pins:aL}{σ:St}{H:Hp}{s:Shared}{a:Addr}{y:V}{u:Value}{A:Around}{E:Value→Shared→Prop}
end
end L2
namespace Att
open PySem PySem.W PySem.Calls PyProof.Rows
theorem vS{P:Params}{h:Heap}:∀(ns:List Int) (vs:aA),WellAll P h vs (ns.map WData.int)→IntsAre vs ns:=by
 intro ns
 induction ns with
 |nil=>
  intro vs w;rw[List.map_nil] at w;cases w;exact .nil
 |cons n ns ih=>
  intro vs w;rw[List.map_cons] at w
  cases w with
  |cons a b=>
   cases a;exact .cons _ _ (ih _ b)
theorem HN{l:OpenLaw}{n:Nat}(hn:l.most=some n){P:Params}{h:Heap}{args:List WData}{vals:aA}
 (Qb:l.row.toRowW.claim.pre args=true) (wg:WellAll P h vals args):
 ∃a vs ns,vals=[Value.ref a]∧args=[WData.list (ns.map WData.int)]∧h.get? a=some {cls:= .type "list",data:= .seq vs.toArray}∧IntsAre vs ns∧ns.length≤n:=by
 have hsh:WShape.hasAll [] args [.list .int]=true:=(pre_splitW Qb).1;have hc:l.pre.holds [] {args:=args}=true:=(pre_splitW Qb).2;obtain⟨d,r,rfl,h1,h2⟩:=hasAllW_cons hsh;obtain rfl:=hasAllW_nil h2;obtain⟨xs,rfl,h3⟩:=hasW_list h1;obtain⟨ns,rfl⟩:=items_int h3
 have hlen:ns.length≤n:=by
  unfold OpenLaw.pre at hc
  have h4:(WTm.not (.lt (.lit (.int (n:Int))) (.len (.arg 0)))).holds [] {args:=[.list (ns.map .int)]}=true:=by
   have h4:=(holds_andW hc).1;rw[hn] at h4;exact h4
  have h5:=condW_of h4 (w_not (w_lt w_lit (w_len_list (w_arg rfl))));rw[List.length_map] at h5;refine Nat.le_of_not_lt fun q=> ?_;have q' :(n:Int)<((ns.length:Nat):Int):=by lia
  first
   |(rw[decide_eq_true q'] at h5;exact absurd h5 (by decide))
   |(simp at h5;lia)
 cases wg with
 |cons w1 w2=>
  cases w2
  cases w1 with
  |list ho Wj=>exact⟨_,_,ns,rfl,rfl,ho,vS ns _ Wj,hlen⟩
theorem Ii(l:OpenLaw)(args:List WData):l.row.toRowW.claim.post args (.bool true) args=true:=
 postW_of (r:=l.row.toRowW) (X:=(true==true))
  (show WShape.has [] (.bool true) .bool=true by first|rfl|decide|simp[WShape.has,WShape.arms,WShape.armsAll])
  (show(WTm.eq .res (.lit (.bool true))).value [] {args:=args,res:=some (.bool true),after:=args}=some (.bool (true==true)) from w_eq_bool (w_res rfl) w_lit) rfl
theorem DR{l:OpenLaw}{n:Nat}{q:Program}{loose:aX}{XP:(Str→aH)→Heap→Prop}{YP:World→Heap→Prop}{d:DefRec}
 (hn:l.most=some n) (OY:d.params.defaults=[])
 (call:∀(w:World) (fM bE:Shared) (mg mb:Str→aH) (fa:Addr) (o:Obj) (pm cd doc:Value) (a:Addr) (vs:aA) (ns:List Int),
  Ground q loose [] XP w fM mg mb bE.heap→YP w bE.heap→
  bE.heap.get? fa=some o→o.data= .func (docDef d.name d.params d.body d.scope pm cd doc)→bE.heap.CodeRec cd d.name→mg d.name=some (.ref fa)→
  bE.heap.get? a=some {cls:= .type "list",data:= .seq vs.toArray}→IntsAre vs ns→ns.length≤n→bE.gens= #[]→
  codeAny (model l.prog w) callerA (.call (.ref fa) ⟨[.ref a],[]⟩) (fun r s' =>r= .ok (.ret (.bool true))∧OldK bE.heap s'.heap∧s'.os=bE.os∧AllBare s'.gens) bE):
 WalkO q loose XP YP l.row.toRowW d [] (fun f vs=>PySem.call f vs):=by
 intro w fM bE mg mb G Y fa o pm cd doc dV kV ho hd zF hD ZD hg args vals as Qb axY hrd wg hlo;obtain rfl:dV= .none:=Dflts.none hD OY;obtain rfl:kV= .none:=Dflts.noKw hD;obtain⟨a,vs,ns,rfl,rfl,UH,hints,hlen⟩:=HN hn Qb wg;refine enter_call (codeAny_mono (call w fM bE mg mb fa o pm cd doc a vs ns G Y ho (fd_plain hd) zF ZD UH hints hlen hg) fun r s' hq=> ?_);obtain⟨rfl,h2,h3,h4⟩:=hq;exact⟨.inl ⟨.bool true,.bool true,[],rfl,fun _=>rfl,.bool true,Ii l _,fun _=>⟨List.Pairwise.nil,fun _ hm=>(nomatch hm)⟩⟩,h2,h3,h4⟩
section
variable{prog:Program}{w:World}{A:Around}{E:Value→Shared→Prop}{s:Shared}{K:Frag}
def jay(h:Heap)(L d:Addr):aL:=(List.range h.objs.size).filterMap fun a=>if a=L∨a=d then none else(h.get? a).map fun o=>(a,o)
end
end Att
namespace L2
open PySem PySem.Spec PyProof.Rows
theorem Ad:∀{vs:aA} {ns:List Int},IntsAre vs ns→Vals (ns.map V.int) vs
 |_,_,.nil=> .nil
 |_,_,.cons n t h=> .cons ⟨t,rfl⟩ (Ad h)
def xn(H:Hp):Prop:=∀b,H b=none∨∃o xs,H b=some (.gE o (.lst xs))
theorem JE{P:Program}{w:World}{K:Frag}{mg mb:Str→aH}{CX:AS}{k:Nat}{fa a:Addr}{fd:FuncData}{x:Str}{sp:Sp}{bE:Shared}{vs:aA}{ns:List Int}
 (KX:K.In bE.heap) (hns:bE.heap.Ns mainGlobals mg) (hb:bE.heap.Ns builtinsNs mb) (hbb:∀x:Str,x≠ "__name__" →mb x=bootBuiltins x) (ao3:bE.heap.NoLimit) (hg:bE.gens= #[])
 (ha:bE.heap.get? a=some {cls:= .type "list",data:= .seq vs.toArray}) (hi:IntsAre vs ns) (hl:ns.length≤sizeLine) (hr:eQ k callerA)
 (F:∀base:Heap,K.In base→base.Ns mainGlobals mg→aV P w K mg base CX k fa fd [x] sp) (Zf:∀(s:Shared) (u:Value),BindsTo s fd ⟨[u],[]⟩ [(x,u)])
 (NN:∀H:Hp,xn H→bA K H a (ns.map V.int)→sp [.ref a] H (fun v _=>v= .bl true) fun _ _ _=>False)
 (hCX:∀H e s',CX [] H bE (fun _ _ _=>False) e s'→False):
 codeAny (model P w) callerA (.call (.ref fa) ⟨[.ref a],[]⟩) (fun r s' =>r= .ok (.ret (.bool true))∧OldK bE.heap s'.heap∧s'.os=bE.os∧AllBare s'.gens) bE:=by
 have rv:=Ad hi;have alc:=hi.length
 have core:∀H:Hp,xn H→bA K H a (ns.map V.int)→qI P w H bE.heap→(∀b,H b≠none→b=a)→(H a≠none→K.lookup a=none)→
  codeAny (model P w) callerA (.call (.ref fa) ⟨[.ref a],[]⟩) (fun r s' =>r= .ok (.ret (.bool true))∧OldK bE.heap s'.heap∧s'.os=bE.os∧AllBare s'.gens) bE:=by
  intro H hO hS bC hA hK;have Gk:∀{b:Addr} {o:Obj},bE.heap.get? b=some o→H b=none→(AW bE.heap H).get? b=some o:=fun e n=>MN e n
  have noA:∀{b:Addr} {o:Obj} {es:Array DictEntry} {ep:Nat},bE.heap.get? b=some o→o.data= .dict es ep→H b=none:=fun{b o es ep} e d=>by
   cases q:H b with
   |none=>rfl
   |some u=>
    have e' :b=a:=hA b (by rw[q];simp);subst e';rw[ha] at e;cases e
    have d' :Data.seq vs.toArray _=Data.dict es ep:=d;cases d'
  have nsK:∀{b:Addr} {m:Str→aH},bE.heap.Ns b m→(AW bE.heap H).Ns b m:=fun{b m} ⟨o,es,ep,e,d,r⟩=>⟨o,es,ep,Gk e (noA e d),d,r⟩
  have hKb:K.In (AW bE.heap H):=fun b o e=>Gk (KX b o e) (by
   cases q:H b with
   |none=>rfl
   |some u=>
    have e' :b=a:=hA b (by rw[q];simp);subst e';rw[hK (by rw[q];simp)] at e;cases e)
  have hM:Mod K mg (AW bE.heap H):=⟨hKb,nsK hns,⟨mb,nsK hb,hbb⟩,let⟨mc,h1,h2⟩:=ao3;⟨mc,nsK h1,h2⟩⟩;have e0:x_ P w K mg (AW bE.heap H) callerA [] bE H:=⟨rfl,hM,fun b o e=>PF e,Nat.le_of_eq (G0 _ _),trivial,fun b hb=>absurd (show b∈([]:aY) from hb) (by simp),bC,.of_eq hg⟩;refine codeAny_mono ((F _ hKb (nsK hns)).run callerA [] bE H ⟨[.ref a],[]⟩ [.ref a] [.ref a] _ _ hr e0 (Zf bE (.ref a)) (.cons rfl .nil) (NN H hO hS)) fun r s' h=> ?_
  cases r with
  |error e=>exact(hCX H e s' h).elim
  |ok fl=>
   cases fl with
   |next=>exact False.elim h
   |brk=>exact False.elim h
   |cont=>exact False.elim h
   |ret u=>
    obtain⟨v,H',os,bare,un,am8,r',q⟩:=h;have q' :v= .bl true:=q;subst q';obtain rfl:u=Value.bool true:=r';refine⟨rfl,OldK.of_keep fun b o e=> ?_,os,bare⟩
    cases q:H b with
    |none=>exact un.keep b o e q (by intro z;exact absurd (show b∈([]:aY) from z) (by simp)) (by simp)
    |some u=>
     rcases hO b with z|⟨ob,xs,z⟩
     ·rw[q] at z;cases z
     ·have z2:=un.pE b ob _ z;obtain⟨e1,_⟩:=bC b _ z;obtain⟨e2,_⟩:=am8 b _ z2;rw[e] at e1;cases e1
      exact e2
 cases hk:K.lookup a with
 |some o=>
  have e:=KX a o hk;rw[ha] at e;cases e;refine core (fun _=>none) (fun _=> .inl rfl) (.inr ⟨_,vs.toArray,_,hk,rfl,rfl,rfl,by rw[List.size_toArray,alc];exact hl,by simpa using rv⟩) (fun b u z=>by have z' :(none:Option HO)=some u:=z;cases z') (fun b z=>absurd rfl z) fun z=>absurd rfl z
 |none=>
  refine core (fun b=>if b=a then some (.gE {cls:= .type "list",data:= .seq vs.toArray} (.lst (ns.map V.int))) else none) (fun b=> ?_) (.inl (.inr ⟨{cls:= .type "list",data:= .seq vs.toArray},if_pos rfl⟩)) (fun b u z=> ?_) (fun b z=> ?_) fun _=>hk
  ·by_cases hb:b=a
   ·exact .inr ⟨_,_,if_pos hb⟩
   ·exact .inl (if_neg hb)
  ·by_cases hb:b=a
   ·have z' :=(if_pos hb).symm.trans z;cases z';subst hb;exact⟨ha,by rw[List.length_map];exact hl,vs,_,rv,ha⟩
   ·have z' :=(if_neg hb).symm.trans z;cases z'
  ·by_cases hb:b=a
   ·exact hb
   ·exact absurd (if_neg hb) z
theorem N9{l:PySem.W.OpenLaw}{n k:Nat}{q:Program}{loose:aX}{XP:(Str→aH)→Heap→Prop}{YP:World→Heap→Prop}{d:DefRec}{K:Params→Frag}{CX:World→AS}{sp:World→Sp}{x:Str}
 (hn:l.most=some n) (WJ:n≤sizeLine) (OY:d.params.defaults=[]) (hr:eQ k callerA)
 (hY:∀(w:World) (h:Heap),YP w h→(K w.params).In h)
 (F:∀(w:World) (mg:Str→aH) (fa:Addr) (h:Heap),(K w.params).In h→h.Ns mainGlobals mg→mg d.name=some (.ref fa)→
  ∃fd:FuncData,(∀(s:Shared) (u:Value),BindsTo s fd ⟨[u],[]⟩ [(x,u)])∧
   ∀base:Heap,(K w.params).In base→base.Ns mainGlobals mg→aV l.prog w (K w.params) mg base (CX w) k fa fd [x] (sp w))
 (NN:∀(w:World) (H:Hp) (a:Addr) (ns:List Int),ns.length≤n→xn H→bA (K w.params) H a (ns.map V.int)→sp w [.ref a] H (fun v _=>v= .bl true) fun _ _ _=>False)
 (hCX:∀(w:World) (H:Hp) (s:Shared) (e:Value) (s' :Shared),CX w [] H s (fun _ _ _=>False) e s'→False):
 PySem.W.WalkO q loose XP YP l.row.toRowW d [] (fun f vs=>PySem.call f vs):=by
 refine Att.DR hn OY fun w fM bE mg mb fa o pm cd doc a vs ns G Y ho hd zF ZD UH hints hlen hg=> ?_;have KX:=hY w _ Y;obtain⟨fd,hb,hF⟩:=F w mg fa _ KX G.T.g ZD;exact JE KX G.T.g G.T.b G.T.builtins G.T.nolimit hg UH hints (Nat.le_trans hlen WJ) hr hF hb (fun H hO hS=>NN w H a ns hlen hO hS) fun H e s' =>hCX w H bE e s'
abbrev eI:AS:=fun _ _ _ _ _ _=>False
abbrev E0:XK:=fun _ _ _=>False
theorem aw{X:Cx}:wT eI X E0:=fun _ _ _ _ _ _ _ h=>h.elim
structure e8(K:Frag)(x qual:Str)(st:Stmt)(f:Addr)(fd:FuncData):Prop where
 ex:∃(oc:Value) (od:Option Addr) (kV doc pm:Value) (an:Option Addr) (cF ct:Value) (IF:Array (aH)),
  fd=fnOf x qual (pj st) (j_ st) (av st) .none kV doc pm an cF ct∧K.lookup f=some ⟨oc,od,.func fd,IF⟩∧PySem.W.codeIn K cF qual=true
 kp:PySem.W.keepIn K (.ref f)=true
section
variable{P:Program}{w:World}{K:Frag}{mg:Str→aH}{base:Heap}
theorem e8.ok{x qual:Str}{st:Stmt}{f:Addr}{fd:FuncData}{N ps:aX}{k:Nat}{sp:Sp}(F:e8 K x qual st f fd)(S:aB N ps (av st))(len:∀vs H Q E,sp vs H Q E→vs.length=ps.length)
 (kU:∀(cF:Value) (A:Around) (outer:List Env) (s:Shared) (H:Hp) (vs:az) (Q:VK) (E:XK),eQ k (A.deeper (envOfC qual (av st) s.heap.objs.size f cF))→sp vs H Q E→
  ∃t,zr (B9 eI P w K mg base N qual (av st) f cF A outer s H E).TU (j_ st) t∧t {nx:=fun _ H' =>Q .bH H',rt:=Q} (zn N vs) H):aV P w K mg base eI (k+1) f fd ps sp:=by
 obtain⟨oc,od,kV,doc,pm,an,cF,ct,IF,rfl,lk,zF⟩:=F.ex;refine SJ lk zF S len fun A outer s H vs Q E hr NN=> ?_;obtain⟨t,h,q⟩:=kU cF A outer s H vs Q E hr NN;exact⟨t,h.TU,q⟩
theorem e8.binds{x qual:Str}{st:Stmt}{f:Addr}{fd:FuncData}{ps:aX}(F:e8 K x qual st f fd)
 (h:∀(kV doc pm:Value) (an:Option Addr) (cF ct:Value) (us:aA),us.length=ps.length→bindArgs (fnOf x qual (pj st) (j_ st) (av st) .none kV doc pm an cF ct) ⟨us,[]⟩=pure (ps.zip us)):Binds K fd ps []:=by
 obtain⟨oc,od,kV,doc,pm,an,cF,ct,IF,rfl,lk,zF⟩:=F.ex;exact .all (h kV doc pm an cF ct)
theorem VI{x qual:Str}{st:Stmt}{f:Addr}{oc:Value}{od an:Option Addr}{IF:Array (aH)}{kV doc pm cF ct:Value}(l:K.lookup f=some ⟨oc,od,.func (fnOf x qual (pj st) (j_ st) (av st) .none kV doc pm an cF ct),IF⟩)
 (c:PySem.W.codeIn K cF qual=true) (k:PySem.W.keepIn K (.ref f)=true):e8 K x qual st f (fnOf x qual (pj st) (j_ st) (av st) .none kV doc pm an cF ct):=⟨⟨oc,od,kV,doc,pm,an,cF,ct,IF,rfl,l,c⟩,k⟩
end
theorem dS{A:Around}{k:Nat}(hr:eQ k A):A.units+1<cLine:=Nat.lt_of_le_of_lt (Nat.add_le_add_left (by decide:1≤64) _) hr.units
section
variable{X:Cx}
theorem pv(i:Nat){x:Str}{pos:Pos}(hN:X.N[i]? =some x:=by rfl)(hv:Vis X.env.scope x:=by first|exact Or.inl rfl|exact Or.inr (Or.inl rfl)|exact Or.inr (Or.inr rfl))(hd:(x==("__debug__" :Str))=false:=by decide)
 (zF:(x==("__classdict__" :Str))=false:=by decide):PE X (.Name x pos) (aav i):=Vf hN hv hd zF
end
theorem g8{A B:Prop}(h:B):if false=true then A else B:=by
 rw[if_neg Bool.false_ne_true];exact h
theorem kj{A B:Prop}(h:A):if true=true then A else B:=by
 rw[if_pos rfl];exact h
theorem yv{c A B:Prop}[Decidable c](h1:c→A)(h2:¬c→B):if c then A else B:=by
 by_cases h:c
 ·rw[if_pos h];exact h1 h
 ·rw[if_neg h];exact h2 h
def au(H H' :Hp):Prop:=∀b o,H b=some o→H' b=some o
theorem au.refl(H:Hp):au H H:=fun _ _ h=>h
theorem au.trans{H H1 H2:Hp}(a:au H H1)(b:au H1 H2):au H H2:=fun c o h=>b c o (a c o h)
theorem au.free{H H' :Hp}(e:au H H'){l:Addr}(h:H' l=Option.none):H l=Option.none:=by
 cases q:H l with
 |none=>rfl
 |some o=>
  rw[e l o q] at h;cases h
theorem au.seq{K:Frag}{H H' :Hp}{a:Addr}{xs:az}(e:au H H')(h:bA K H a xs):bA K H' a xs:=by
 rcases h with(h|⟨o,h⟩)|h
 ·exact .inl (.inl (e _ _ h))
 ·exact .inl (.inr ⟨o,e _ _ h⟩)
 ·exact .inr h
section
variable{κ:Type}[DecidableEq κ]
end
def oC(env:Env):List (Str×NameKind)→List (Str×Addr)→List (Str×Addr)
 |[],acc=>acc
 |y::r,acc=>oC env r (if(y.2==NameKind.free)=true then(y.1,(env.cells.lookup y.1).getD 0)::acc else acc)
theorem wC{env:Env}:∀(ns:List (Str×NameKind)) (acc:List (Str×Addr)),(∀y∈ns,y.2= .free→∃c,env.cells.lookup y.1=some c)→
 (forIn ns acc fun(x:Str×NameKind) (cs:List (Str×Addr))=>if(x.2==NameKind.free)=true then(cellOf env x.1>>= fun a=>pure (ForInStep.yield ((x.1,a)::cs))) else(pure (ForInStep.yield cs):Sem (ForInStep (List (Str×Addr)))))=pure (oC env ns acc)
 |[],acc,_=>rfl
 |y::r,acc,h=>by
  rw[List.forIn_cons];have ih:=fun a=>wC r a fun z hz=>h z (List.mem_cons_of_mem _ hz);by_cases hk:(y.2==NameKind.free)=true
  ·obtain⟨c,hc⟩:=h y List.mem_cons_self (eq_of_beq hk);have e:cellOf env y.1=pure c:=by unfold cellOf;rw[hc]
   rw[if_pos hk,e];show(forIn r ((y.1,c)::acc) _:Sem (List (Str×Addr)))=_;rw[ih];show pure (oC env r ((y.1,c)::acc))=pure (oC env r (if(y.2==NameKind.free)=true then(y.1,(env.cells.lookup y.1).getD 0)::acc else acc));rw[if_pos hk,hc];rfl
  ·rw[if_neg hk];show(forIn r acc _:Sem (List (Str×Addr)))=_;rw[ih];show pure (oC env r acc)=pure (oC env r (if(y.2==NameKind.free)=true then(y.1,(env.cells.lookup y.1).getD 0)::acc else acc));rw[if_neg hk]
theorem xx{scope:Scope}{env:Env}(h:∀y∈scope.names,y.2= .free→∃c,env.cells.lookup y.1=some c):closureFor scope env=pure (oC env scope.names []):=by
 have q:=wC (env:=env) scope.names [] h;have e:closureFor scope env=((forIn scope.names ([]:List (Str×Addr)) fun(x:Str×NameKind) (cs:List (Str×Addr))=>if(x.2==NameKind.free)=true then(cellOf env x.1>>= fun a=>pure (ForInStep.yield ((x.1,a)::cs))) else(pure (ForInStep.yield cs):Sem (ForInStep (List (Str×Addr)))))>>= fun cs=>pure cs):=rfl;rw[e,q];rfl
theorem va{env:Env}:∀(ns:List (Str×NameKind)) (acc:List (Str×Addr)) {x:Str} {c:Addr},(∀y∈ns,y.2= .free→∃c,env.cells.lookup y.1=some c)→(oC env ns acc).lookup x=some c→env.cells.lookup x=some c∨acc.lookup x=some c
 |[],acc,x,c,_,h=> .inr h
 |y::r,acc,x,c,h,e=>by
  have e:(oC env r (if(y.2==NameKind.free)=true then(y.1,(env.cells.lookup y.1).getD 0)::acc else acc)).lookup x=some c:=e;rcases va r _ (fun z hz=>h z (List.mem_cons_of_mem _ hz)) e with q|q
  ·exact .inl q
  ·by_cases hk:(y.2==NameKind.free)=true
   ·rw[if_pos hk,List.lookup_cons] at q;obtain⟨d,hd⟩:=h y List.mem_cons_self (eq_of_beq hk)
    cases hx:x==y.1 with
    |true=>
     rw[hx] at q;dsimp only at q;rw[hd] at q;have hxy:x=y.1:=eq_of_beq hx;subst hxy;exact .inl (hd.trans q)
    |false=>
     rw[hx] at q;exact .inr q
   ·rw[if_neg hk] at q;exact .inr q
theorem u_{env:Env}:∀(ns:List (Str×NameKind)) (acc:List (Str×Addr)) {x:Str},((x,NameKind.free)∈ns∨∃c,acc.lookup x=some c)→∃c,(oC env ns acc).lookup x=some c
 |[],acc,x,h=>by
  rcases h with h|h
  ·cases h
  ·exact h
 |y::r,acc,x,h=>by
  show ∃c,(oC env r (if(y.2==NameKind.free)=true then(y.1,(env.cells.lookup y.1).getD 0)::acc else acc)).lookup x=some c;refine u_ r _ ?_;rcases h with h|⟨c,hc⟩
  ·rcases List.mem_cons.mp h with e|h
   ·subst e;refine .inr ⟨(env.cells.lookup x).getD 0,?_⟩;rw[if_pos (by rfl),List.lookup_cons,beq_self_eq_true]
   ·exact .inl h
  ·by_cases hk:(y.2==NameKind.free)=true
   ·rw[if_pos hk]
    cases hx:x==y.1 with
    |true=>exact .inr ⟨_,by rw[List.lookup_cons,hx]⟩
    |false=>exact .inr ⟨c,by rw[List.lookup_cons,hx];exact hc⟩
   ·rw[if_neg hk];exact .inr ⟨c,hc⟩
theorem nr{env:Env}{x:Str}{k:NameKind}:∀(ns:List (Str×NameKind)),(ns.map fun(n,k)=>if(k==NameKind.free&&env.scope.kind== .function&&env.kindOf n==some .cell) then(n,NameKind.cell) else(n,k)).lookup x=some k→
 ns.lookup x=some k∨(ns.lookup x=some .free∧k= .cell)
 |[],h=>by cases h
 |(n,j)::r,h=>by
  have ih:=nr (env:=env) (x:=x) (k:=k) r;rw[List.map_cons] at h;dsimp only at h;by_cases hc:(j==NameKind.free&&env.scope.kind== .function&&env.kindOf n==some .cell)=true
  ·rw[if_pos hc,List.lookup_cons] at h;rw[List.lookup_cons]
   cases hx:x==n with
   |true=>
    rw[hx] at h
    have hj:(j==NameKind.free)=true:=by
     rw[Bool.and_eq_true,Bool.and_eq_true] at hc;exact hc.1.1
    have hj:=eq_of_beq hj;subst hj;exact .inr ⟨rfl,(Option.some.inj h).symm⟩
   |false=>
    rw[hx] at h;exact ih h
  ·rw[if_neg hc,List.lookup_cons] at h;rw[List.lookup_cons]
   cases hx:x==n with
   |true=>
    rw[hx] at h;exact .inl h
   |false=>
    rw[hx] at h;exact ih h
theorem tG{env:Env}{x:Str}:∀(ns:List (Str×NameKind)),ns.lookup x=some .free→
 (ns.map fun(n,k)=>if(k==NameKind.free&&env.scope.kind== .function&&env.kindOf n==some .cell) then(n,NameKind.cell) else(n,k)).lookup x=some .cell∨
 (ns.map fun(n,k)=>if(k==NameKind.free&&env.scope.kind== .function&&env.kindOf n==some .cell) then(n,NameKind.cell) else(n,k)).lookup x=some .free
 |[],h=>by cases h
 |(n,j)::r,h=>by
  have ih:=tG (env:=env) (x:=x) r;rw[List.map_cons];dsimp only;rw[List.lookup_cons] at h;by_cases hc:(j==NameKind.free&&env.scope.kind== .function&&env.kindOf n==some .cell)=true
  ·rw[if_pos hc,List.lookup_cons]
   cases hx:x==n with
   |true=>exact .inl rfl
   |false=>
    rw[hx] at h;exact ih h
  ·rw[if_neg hc,List.lookup_cons]
   cases hx:x==n with
   |true=>
    rw[hx] at h;exact .inr h
   |false=>
    rw[hx] at h;exact ih h
def kK(X:Cx)(N:aX)(scope:Scope)(cl:List (Str×Addr))(C:Addr)(s:Shared)(H:Hp)(fp:aY):Cx where
 prog:=X.prog
 w:=X.w
 K:=X.K
 mg:=X.mg
 base:=X.base
 A:=X.A
 N:=N
 fM:=s
 H₀:=H
 env:=compEnvC scope cl C X.env
 outer:=X.stack
 stack:=X.stack
 ex:=fp
 fn:=fun _=>false
 calm:=X.calm
 pn:=[]
 xe:=fun _ _=>False
def vN(k:Nat)(js:List Nat)(σ:St):St:=List.replicate k none++js.map fun j=>σ.getD j none
structure sJ(X:Cx)(N:aX)(scope:Scope)(k:Nat)(js:List Nat):Prop where
 kind:scope.kind= .function
 cell:∀y∈scope.names,y.2≠.cell
 loc:∀y∈scope.names,y.2= .local→scope.names.lookup y.1=some .local
 free:∀y∈scope.names,y.2= .free→X.env.kindOf y.1=some .cell∨X.env.kindOf y.1=some .free
 len:N.length=k+js.length
 names:∀(i j:Nat),js[i]? =some j→X.N[j]? =N[k+i]?
 js:∀(i:Nat) (x:Str),N[k+i]? =some x→scope.names.lookup x=some .free
section
variable{X:Cx}{pins:aL}{σ:St}{H:Hp}{s:Shared}{N:aX}{scope:Scope}{k:Nat}{js:List Nat}
theorem sJ.cells(S:sJ X N scope k js)(ok:X.Ok):∀y∈scope.names,y.2= .free→∃c,X.env.cells.lookup y.1=some c:=fun y hy hf=>ok.has _ (S.free y hy hf)
theorem Jk{fp:aY}{h1:Heap}{t1:Nat}(I:Inv X pins σ H s)(S:sJ X N scope k js)(f:∀b∈fp,uH X pins H b)(fo:∀b∈fp,∃o,s.heap.get? b=some o)
 (hn:h1.Ns s.heap.objs.size fun _=>none) (hk:∀b o,s.heap.get? b=some o→h1.get? b=some o):
 Inv (kK X N scope (oC X.env scope.names []) s.heap.objs.size s H fp) [] (vN k js σ) H {s with heap:=h1,toks:=t1}:=by
 have cs:=S.cells I.ok
 have S6:∀{x:Str} {c:Addr},(oC X.env scope.names []).lookup x=some c→X.env.cells.lookup x=some c:=fun{x c} e=>by
  rcases va scope.names [] cs e with q|q
  ·exact q
  ·cases q
 refine⟨⟨I.ok.mod,S.kind,I.ok.glob,I.ok.blt,Nat.le_refl _,fun x y c e1 e2=>I.ok.inj x y c (S6 e1) (S6 e2),fun x hx=> ?_,fun x c hf _=>(nomatch hf),I.ok.hd,I.ok.frames,.inl rfl,fun b hb=>⟨?_,fun x c e=> ?_⟩,I.bs,
  Nat.le_trans I.ok.GX I.sz,fun b o e hb=> ?_,fun b hb z=> ?_,I.stack,I.wA⟩,rfl,I.bare,Un.kept hk,⟨_,hn,fun i x v e1 e2 e3=> ?_⟩,fun x c e=> ?_,I.bC.fresh (Nat.le_refl _),fun x c e=>I.jk x c (S6 e),fun p hp=> ?_,I.bC.kept hk,?_⟩
 ·have hx:(relabel scope X.env).names.lookup x=some .cell∨(relabel scope X.env).names.lookup x=some .free:=hx
  have fr:scope.names.lookup x=some .free:=by
   rcases hx with q|q
   ·rcases nr scope.names q with z|z
    ·exact absurd rfl (S.cell _ (PySem.mem_of_lookup z))
    ·exact z.1
   ·rcases nr scope.names q with z|z
    ·exact z
    ·exact z.1
  exact u_ scope.names [] (.inl (PySem.mem_of_lookup fr))
 ·obtain⟨o,ho⟩:=fo b hb;exact Nat.ne_of_lt (Heap.lt_size ho)
 ·exact(f b hb).2.2.2.2.1 x c (S6 e)
 ·rcases(f b hb).2.2.2.1 with z|z
  ·exact I.ok.E9 b o e z
  ·exact absurd (Nat.lt_of_lt_of_le (Nat.lt_of_lt_of_le (Heap.lt_size e) I.ok.GX) z) (Nat.lt_irrefl _)
 ·rcases List.mem_cons.mp (I.A7 b z) with q|q
  ·exact(f b hb).2.1 q
  ·exact(f b hb).2.2.1 q
 ·have e1:N[i]? =some x:=e1
  have hi:k≤i:=by
   by_cases hi:i<k
   ·unfold vN at e2;rw[List.getElem?_append_left (by rw[List.length_replicate];exact hi),List.getElem?_replicate,if_pos hi] at e2;cases e2
   ·omega
  obtain⟨d,rfl⟩:∃d,i=k+d:=⟨i - k,by omega⟩;unfold vN at e2;rw[List.getElem?_append_right (by rw[List.length_replicate];omega),List.length_replicate,List.getElem?_map] at e2;have ed:k+d - k=d:=by omega
  rw[ed] at e2
  cases ej:js[d]? with
  |none=>rw[ej] at e2;cases e2
  |some j=>
   rw[ej] at e2;have e2:σ.getD j none=some v:=Option.some.inj e2
   have e2' :σ[j]? =some (some v):=by
    rw[List.getD_eq_getElem?_getD] at e2
    cases q:σ[j]? with
    |none=>rw[q] at e2;cases e2
    |some z=>rw[q] at e2;rw[show z=some v from e2]
   have en:X.N[j]? =some x:=(S.names d j ej).trans e1;have fr:=S.js d x e1;have kx:=S.free _ (PySem.mem_of_lookup fr) rfl;obtain⟨m,_,hl⟩:=I.loc;obtain⟨u,r,l⟩:=hl j x v en e2' (by rcases kx with q|q;exact .inr (.inl q);exact .inr (.inr q));refine⟨u,r,.inr ⟨?_,?_⟩⟩
   ·exact tG (env:=X.env) scope.names fr
   ·rcases l with⟨l,_⟩|⟨_,c,ec,ic⟩
    ·rcases kx with q|q
     ·dsimp only at q;rw[q] at l;cases l
     ·dsimp only at q;rw[q] at l;cases l
    ·obtain⟨c',e'⟩:=u_ (env:=X.env) scope.names [] (.inl (PySem.mem_of_lookup fr));have e'' :=S6 e';rw[ec] at e'';cases e'';exact⟨c,e',ic.keeps hk⟩
 ·obtain⟨v,q⟩:=I.cell x c (S6 e);exact⟨v,q.keeps hk⟩
 ·have hp:p∈([]:aL):=hp;cases hp
 ·show(vN k js σ).length=N.length;unfold vN;rw[List.length_append,List.length_replicate,List.length_map,S.len]
end
def gw(σ cI :St):Prop:=∀(i:Nat) v,σ[i]? =some (some v)→cI[i]? =some (some v)
theorem gw.refl(σ:St):gw σ σ:=fun _ _ h=>h
theorem gw.own{σ cI :St}{k i:Nat}{js:List Nat}{v:Option V}(h:gw (vN k js σ) cI)(hi:i<k):gw (vN k js σ) (cI.set i v):=fun j u e=>by
 have hj:j≠i:=fun z=>by
  subst z;unfold vN at e;rw[List.getElem?_append_left (by rw[List.length_replicate];exact hi),List.getElem?_replicate,if_pos hi] at e;cases e
 rw[List.getElem?_set_ne (Ne.symm hj)];exact h j u e
def mU(J:It)(k:Nat)(js:List Nat)(g:TG)(tt:TT)(te:TE)(σ:St)(H1:Hp)(Q:VK):Prop:=∀p,H1 p=none→∃W:Nat→Nat→az→Hp→Prop,(∃m,W 0 m [] (upd H1 p (.lst [])))∧
 ∀i m ys H,W i m ys H→H p=some (.lst ys)∧((J.stop i H∧Q (.ref p) H)∨(J.go i H∧ys.length<sizeLine∧∀x H',J.wy i H x H'→g x (vN k js σ) H' fun oB H2=>gw (vN k js σ) oB∧tt oB H2 fun b H3=>
  if b=true then te oB H3 fun y H4=>H4 p=some (.lst ys)∧∃m',m' <m∧W (i+1) m' (ys++[y]) (upd H4 p (.lst (ys++[y]))) else ∃m',m' <m∧W (i+1) m' ys H3))
def T9(wi:TI)(k:Nat)(js:List Nat)(g:TG)(tt:TT)(te:TE):TE:=fun σ H Q=>wi σ H fun J H1=>mU J k js g tt te σ H1 Q
def WG:TT:=fun _ H Q=>Q true H
def JM(Y:Cx)(ifs:cQ)(t:TT):Prop:=
 ∀(pins:aL) (s:Shared) (σ:St) (H:Hp) (Q:Bool→Hp→Prop),Inv Y pins σ H s→t σ H Q→
  wpAny (model Y.prog Y.w) Y.A (forIn ifs true fun c r=>if r=true then do let ok←isTrue c Y.env (eval c Y.env);pure (ForInStep.yield ok) else pure (ForInStep.yield r)) (TP Y pins σ Q) Y.xe s
theorem za{Y:Cx}:JM Y [] WG:=fun _ _ _ H _ I h=>wpAny_tests_nil ⟨H,I,h⟩
theorem Bw{Y:Cx}{c:Expr}{t:TT}(h:PT Y c t):JM Y [c] t:=fun pins s σ H Q I hq=>wpAny_tests_one (h pins s σ H Q I hq)
section
variable{prog:Program}{w:World}{A:Around}{R:Result→Shared→Prop}{s:Shared}
theorem Be{elt target iter:Expr}{ifs:cQ}{scope:Scope}{pos:Pos}{it acc:Value}{env:Env}(I:Nat→Shared→Prop)
 (turn:∀n s,I n s→wpAny (model prog w) A (pyNext it) (fun r bE=>match r with
  |none=>R (.ok .next) bE
  |some v=>wpAny (model prog w) A (letOwnedTupleGo target it v) (fun _ fM=>wpAny (model prog w) A (assign target env v) (fun _ pY=>
   wpAny (model prog w) A (forIn ifs true fun c r=>if r=true then do let ok←isTrue c env (eval c env);pure (ForInStep.yield ok) else pure (ForInStep.yield r)) (fun ok vO=>
    if ok=true then wpAny (model prog w) A (eval elt env) (fun x N3=>
     wpAny (model prog w) A (call (.builtin "list.append") [acc,x]) (fun _ aag=>∃m,m<n∧I m aag) (fun _ _=>False) N3) (fun _ _=>False) vO
    else ∃m,m<n∧I m vO) (fun _ _=>False) pY) (fun _ _=>False) fM) (fun _ _=>False) bE) (fun _ _=>False) s)
 (n:Nat) (h:I n s):
 codeAny (model prog w) A (.compLoop (.ListComp elt [⟨target,iter,ifs,0⟩] scope pos) 0 it acc env) R s:=by
 refine codeAny_loop rfl I (fun n s hI=> ?_) n h;show wpAny _ A ((compTurn (.ListComp elt [⟨target,iter,ifs,0⟩] scope pos) 0 it acc env).onRaise (fun x=>do noteFrame x env;theTreesLotGoes x)) _ _ s;refine wpAny_noted ?_;rw[compTurn_list];refine wpAny_bind (wpAny_standAt (wpAny_bind (wpAny_mono (turn n s hI) (fun r bE iO=> ?_) fun _ _ h' =>h'.elim)))
 cases r with
 |none=>exact wpAny_pure iO
 |some v=>
  refine wpAny_bind (wpAny_mono iO (fun _ fM h₀=> ?_) fun _ _ h' =>h'.elim);refine wpAny_bind (wpAny_mono h₀ (fun _ pY Kw=>wpAny_bind (wpAny_mono Kw (fun ok vO Ow=> ?_) fun _ _ h' =>h'.elim)) fun _ _ h' =>h'.elim)
  cases ok with
  |false=>exact wpAny_pure ⟨rfl,Ow⟩
  |true=>
   exact wpAny_bind (wpAny_bind (wpAny_mono Ow (fun x N3 aii=>wpAny_bind (wpAny_mono aii (fun _ aag apV=>wpAny_pure (wpAny_pure ⟨rfl,apV⟩)) fun _ _ h' =>h'.elim)) fun _ _ h' =>h'.elim))
end
section
variable{X:Cx}{tg iter elt:Expr}{ifs:cQ}{scope:Scope}{pos:Pos}{N:aX}{k:Nat}{js:List Nat}{wi:TI}{g:TG}{tt:TT}{te:TE}
theorem zG{pins:aL}{s2:Shared}{σ:St}{H2:Hp}{it:Addr}{fp:aY}{tn:Nat→Heap→Prop}{J:It}{Q:VK}{RR:Value→Addr→Result→Shared→Prop}{E:Value→Shared→Prop}(hc:X.calm=true)(S:sJ X N scope k js)
 (hb:∀(cl:List (Str×Addr)) (C:Addr) (s:Shared) (H:Hp) (fp:aY),PG (kK X N scope cl C s H fp) tg g∧JM (kK X N scope cl C s H fp) ifs tt∧PE (kK X N scope cl C s H fp) elt te)
 (I2:Inv X pins σ H2 s2) (T:Turn X.prog X.w X.K tg J fp it tn) (Oq:tn 0 s2.heap) (f2:∀b∈fp,uH X pins H2 b)
 (h:∀p,H2 p=none→∃W:Nat→Nat→az→Hp→Prop,(∃m,W 0 m [] (upd H2 p (.lst [])))∧
  ∀i m ys H,W i m ys H→H p=some (.lst ys)∧((J.stop i H∧Q (.ref p) H)∨(J.go i H∧ys.length<sizeLine∧∀x H',J.wy i H x H'→g x (vN k js σ) H' fun oB H2=>gw (vN k js σ) oB∧tt oB H2 fun b H3=>
   if b=true then te oB H3 fun y H4=>H4 p=some (.lst ys)∧∃m',m' <m∧W (i+1) m' (ys++[y]) (upd H4 p (.lst (ys++[y]))) else ∃m',m' <m∧W (i+1) m' ys H3)))
 (hR:∀(p C:Addr) (s' :Shared) (H' :Hp) (m:Str→aH),Inv X pins σ H' s'→Q (.ref p) H'→s'.heap.Ns C m→H' C=none→C≠X.env.locals→X.fM.heap.objs.size≤C→(∀x c,X.env.cells.lookup x=some c→c≠C)→(∀q∈X.pn++pins,q.1≠C)→RR (.ref p) C (.ok .next) s'):
 wpAny (model X.prog X.w) X.A (newList []) (fun acc vO=>wpAny (model X.prog X.w) X.A (newFunctionEnv scope X.env.globals (oC X.env scope.names []) [] X.env.qual none .none (some X.env)) (fun acL N3=>
  codeAny (model X.prog X.w) X.A (.compStart (.ListComp elt [⟨tg,iter,ifs,0⟩] scope pos) 0 (.ref it) acc {acL with scope:=relabel scope X.env}) (RR acc acL.locals) N3) E vO) E s2:=by
 have hf:H2 s2.heap.objs.size=none:=I2.bC.fresh (Nat.le_refl _);obtain⟨W,⟨m0,w0⟩,turn⟩:=h s2.heap.objs.size hf;have I3:Inv X pins σ (upd H2 s2.heap.objs.size (.lst [])) {s2 with heap:=s2.heap.push {cls:= .type "list",dict:=none,data:= .seq ([]:aA).toArray},toks:=s2.toks}:=I2.V1 (ys:=[]) .nil (Nat.zero_le _);refine wpAny_newObj_type (wpAny_newFunctionEnv S.cell (by intro y hy;simp at hy) (fun iO ES Eb=> ?_) S.kind);dsimp only at ES Eb ⊢;generalize hp:s2.heap.objs.size=p at*
 generalize Xm:s2.heap.push {cls:= .type "list",dict:=none,data:= .seq ([]:aA).toArray}=g3 at ES Eb I3 ⊢;have Xo:∀b o,s2.heap.get? b=some o→g3.get? b=some o:=fun b o e=>Xm▸Heap.get?_push_of_some _ e;have W2:∀b o,g3.get? b=some o→iO.get? b=some o:=fun b o e=>Eb.extBut b o (Nat.ne_of_lt (Heap.lt_size e)) (Heap.get?_push_of_some _ e)
 have npf:∀b∈fp,b≠p:=fun b hb z=>by
  obtain⟨o,ho,_⟩:=T.obj _ _ Oq b hb;have:=Heap.lt_size ho;rw[hp,z] at this;exact Nat.lt_irrefl _ this
 have f3:∀b∈fp,uH X pins (upd H2 p (.lst [])) b:=fun b hb=>⟨by rw[af (npf b hb)];exact(f2 b hb).1,(f2 b hb).2⟩
 have fo3:∀b∈fp,∃o,g3.get? b=some o:=fun b hb=>by
  obtain⟨o,ho,_⟩:=T.obj _ _ Oq b hb;exact⟨o,Xo b o ho⟩
 have J0:=Jk (s:={s2 with heap:=g3,toks:=s2.toks}) (h1:=iO) (t1:=s2.toks+([]:List (Str×Value)).length) I3 S f3 fo3 ES W2;have st4:tn 0 iO:=T.keep _ _ _ Oq fun b hb o e=>W2 b o (Xo b o e);obtain⟨hG,hT,hE⟩:=hb (oC X.env scope.names []) g3.objs.size {s2 with heap:=g3,toks:=s2.toks} (upd H2 p (.lst [])) fp
 generalize hY:kK X N scope (oC X.env scope.names []) g3.objs.size {s2 with heap:=g3,toks:=s2.toks} (upd H2 p (.lst [])) fp=Y at*
 have yp:Y.prog=X.prog:=by rw[←hY];rfl
 have yw:Y.w=X.w:=by rw[←hY];rfl
 have yK:Y.K=X.K:=by rw[←hY];rfl
 have yA:Y.A=X.A:=by rw[←hY];rfl
 have yc:Y.calm=true:=by rw[←hY];exact hc
 have yx:Y.xe=fun _ _=>False:=by rw[←hY];rfl
 have ye:Y.env=compEnvC scope (oC X.env scope.names []) g3.objs.size X.env:=by rw[←hY];rfl
 have ypn:Y.pn=[]:=by rw[←hY];rfl
 have yex:Y.ex=fp:=by rw[←hY];rfl
 have yfs:Y.fs=wd X.stack:=by rw[←hY];rfl
 have S6:∀{x:Str} {c:Addr},(oC X.env scope.names []).lookup x=some c→X.env.cells.lookup x=some c:=fun{x c} e=>by
  rcases va scope.names [] (S.cells I2.ok) e with q|q
  ·exact q
  ·cases q
 have EL:∀{H' :Hp},(∀b∈fp,H' b=none)→∀b∈fp,uH Y [] H' b:=fun hn b hb=>by
  refine⟨hn b hb,?_,?_,?_,fun x c e=> ?_,fun q hq=> ?_⟩
  ·rw[ye];obtain⟨o,ho⟩:=fo3 b hb;exact Nat.ne_of_lt (Heap.lt_size ho)
  ·rw[yfs];intro z;rcases List.mem_cons.mp (I2.A7 b z) with q|q
   ·exact(f2 b hb).2.1 q
   ·exact(f2 b hb).2.2.1 q
  ·rw[yex];exact .inl hb
  ·rw[ye] at e;exact(f2 b hb).2.2.2.2.1 x c (S6 e)
  ·rw[ypn] at hq;cases hq
 have ahE:∀{cI :St} {H' :Hp} {s' :Shared},Inv Y [] cI H' s'→Q (.ref p) H'→RR (.ref p) g3.objs.size (.ok .next) s' :=fun{cI H' s'} I' q=>by
  have u:=I'.base;have ho:=I'.os;rw[yfs,yex] at u;subst hY;have IX:Inv X pins σ H' s' :=I3.RB (ch:=fp) ho u I'.bC I'.bare fun b hb=>⟨(f2 b hb).2.2.2.1,(f2 b hb).2.1,(f2 b hb).2.2.2.2.1,(f2 b hb).2.2.2.2.2⟩;obtain⟨m,hn,_⟩:=I'.loc;refine hR p g3.objs.size s' H' m IX q hn I'.free (fun z=> ?_) (Nat.le_trans I3.sz (Nat.le_refl _)) (fun x c e z=> ?_) fun r hr z=> ?_
  ·exact absurd (z▸I3.lt) (Nat.lt_irrefl _)
  ·obtain⟨v,o,ho,_⟩:=I3.cell x c e;exact absurd (z▸Heap.lt_size ho) (Nat.lt_irrefl _)
  ·obtain⟨ho,_⟩:=I3.pin r hr;exact absurd (z▸Heap.lt_size ho) (Nat.lt_irrefl _)
 have loop:codeAny (model X.prog X.w) X.A (.compLoop (.ListComp elt [⟨tg,iter,ifs,0⟩] scope pos) 0 (.ref it) (.ref p) (compEnvC scope (oC X.env scope.names []) g3.objs.size X.env)) (RR (.ref p) g3.objs.size) {s2 with heap:=iO,toks:=s2.toks+([]:List (Str×Value)).length}:=by
  refine Be (fun n s' =>∃i ys H',Inv Y [] (vN k js σ) H' s'∧tn i s'.heap∧(∀b∈fp,H' b=none)∧W i n ys H') ?_ m0 ⟨0,[],_,J0,st4,fun b hb=>(f3 b hb).1,w0⟩
  rintro n s5 ⟨i,ys,H5,I5,WO,WX,w5⟩
  obtain⟨hys,w5⟩:=turn i n ys H5 w5;rw[←yp,←yw,←yA,←ye];have T' :Turn Y.prog Y.w Y.K tg J fp it tn:=by rw[yp,yw,yK];exact T
  rcases w5 with⟨stop,q⟩|⟨go,hz,step⟩
  ·refine ck (T'.done Y rfl rfl rfl yc i [] s5 _ H5 _ I5 (EL WX) WO stop) fun r s6 ⟨hr,I6⟩=> ?_;subst hr;exact ahE I6 q
  ·refine ck (T'.item Y rfl rfl rfl yc i [] s5 _ H5 _ I5 (EL WX) WO go) fun r s6 ⟨u,hr,h6⟩=> ?_;subst hr;refine ck h6 fun _ s7 ⟨x,H7,I7,r7,y7,st7,fr7⟩=> ?_;have I7' :=I7.pinned (EL fr7) (T.obj _ _ st7)
   have fin:∀{V6:St} {H8:Hp} {s8:Shared},gw (vN k js σ) V6→Inv Y ([]++wZ fp s7.heap) V6 H8 s8→Inv Y [] (vN k js σ) H8 s8∧tn (i+1) s8.heap∧∀b∈fp,H8 b=none:=fun{V6 H8 s8} sb I8=>by
    refine⟨?_,T.keep _ _ _ st7 fun b hb o e=>(I8.pin (b,o) (List.mem_append_right _ (List.mem_append_right _ (o8 hb e)))).1,fun b hb=> ?_⟩
    ·exact(I8.tu (pins:=[])).weak (by rw[I5.len,I8.len]) sb
    ·obtain⟨o,e,d⟩:=T.obj _ _ st7 b hb;exact(I8.pin (b,o) (List.mem_append_right _ (List.mem_append_right _ (o8 hb e)))).2.1
   have wE:∀{α:Type} {t:Sem α} {P:α→Shared→Prop} {s' :Shared},wpAny (model Y.prog Y.w) Y.A t P Y.xe s'→wpAny (model Y.prog Y.w) Y.A t P (fun _ _=>False) s' :=fun{α t P s'} h=>by rw[yx] at h;exact h
   refine ck (wE (hG _ s7 _ H7 x u _ I7' r7 (step x H7 y7))) fun _ s8 ⟨V6,H8,I8,sb,q8⟩=> ?_;refine ck (wE (hT _ s8 V6 H8 _ I8 q8)) fun b s9 ⟨H9,I9,q9⟩=> ?_
   cases b with
   |false=>
    have q9:∃m',m' <n∧W (i+1) m' ys H9:=q9;obtain⟨m',hm,w9⟩:=q9;obtain⟨a1,a2,a3⟩:=fin sb I9;exact⟨m',hm,i+1,ys,H9,a1,a2,a3,w9⟩
   |true=>
    refine ck (wE (hE _ s9 V6 H9 _ I9 q9)) fun y En ⟨v,Fx,I10,r10,Qi,m',hm,w10⟩=> ?_;refine ck (wE (eW _ En V6 Fx (.ref p) [v] (.ref p) [y] (fun _ NQ=>∃m',m' <n∧W (i+1) m' (ys++[v]) NQ) I10 rfl (.cons r10 .nil) ⟨p,ys,v,rfl,rfl,Qi,hz,m',hm,w10⟩)) fun z NK ⟨_,NQ,I11,_,m2,hm2,w11⟩=> ?_;obtain⟨a1,a2,a3⟩:=fin sb I11;exact⟨m2,hm2,i+1,ys++[v],NQ,a1,a2,a3,w11⟩
 refine codeAny_compStart_list loop ?_;exact T.self _ _ _ _ _ st4 loop
theorem dA(hc:X.calm=true)(S:sJ X N scope k js)(hi:PI X tg iter wi)
 (hb:∀(cl:List (Str×Addr)) (C:Addr) (s:Shared) (H:Hp) (fp:aY),PG (kK X N scope cl C s H fp) tg g∧JM (kK X N scope cl C s H fp) ifs tt∧PE (kK X N scope cl C s H fp) elt te)
 (hs:∀x,foldedSetIterable iter X.env x=pure x:=by intro _;rfl):PE X (.ListComp elt [⟨tg,iter,ifs,0⟩] scope pos) (T9 wi k js g tt te):=by
 intro pins s σ H Q I h;rw[eval_ListComp];refine wpAny_comprehension_free (use:=none) rfl hs (xx (S.cells I.ok)) S.kind S.loc (ck (hi pins s σ H _ I h) fun v s1 h1=>ck h1 fun itv s2 h2=> ?_);obtain⟨it,fp,tn,J,H2,e,I2,T,Oq,f2,q⟩:=h2;subst e;refine zG (RR:=fun acc C=>compPost (model X.prog X.w) X.A X.xe none (EP X pins σ Q) acc C) hc S hb I2 T Oq f2 q ?_;intro p C s' H' m IX q' hn hC hL h0 vB JL;refine⟨m,hn,fun h' sb=>⟨.ref p,H',?_,rfl,q'⟩⟩;exact IX.turned (t' :=s'.toks) (fun b o hb e=>(sb.2 b hb).trans e) hC (Ne.symm hL).symm (.inr h0) vB JL
theorem FY{i:Nat}{x:Str}{pos' fk:Pos}(hN:X.N.Nodup)(yk :X.N[i]? =some x)(hx:Loc X.env.scope x)(hc:X.calm=true)(S:sJ X N scope k js)(hi:PI X tg iter wi)
 (hb:∀(cl:List (Str×Addr)) (C:Addr) (s:Shared) (H:Hp) (fp:aY),PG (kK X N scope cl C s H fp) tg g∧JM (kK X N scope cl C s H fp) ifs tt∧PE (kK X N scope cl C s H fp) elt te)
 (hsw:swapsWith (.ListComp elt [⟨tg,iter,ifs,0⟩] scope fk) (some (.Name x pos')) pos.line X.env=pure true:=by rfl)
 (hs:∀x,foldedSetIterable iter X.env x=pure x:=by intro _;rfl) (hf:X.fn x=true∨X.env.scope.names.lookup x=some .local:=by first|exact .inl rfl|exact .inr rfl|assumption):
 PS X (.Assign [.Name x pos'] (.ListComp elt [⟨tg,iter,ifs,0⟩] scope fk) pos) (Vs (T9 wi k js g tt te) (K1 i)):=by
 intro pins s σ H D I h;rw[exec_Assign_Name_used _ _ _ _ hsw];refine wpAny_bind (wpAny_standAt (wpAny_bind ?_));show wpAny _ X.A (do let _←comprehension (.ListComp elt [⟨tg,iter,ifs,0⟩] scope fk) scope X.env _ (newList []) false (eval iter X.env) (some (assign (.Name x pos') X.env))) _ _ s
 refine wpAny_bind (wpAny_mono (wpAny_comprehension_free (use:=some (assign (.Name x pos') X.env)) (Q:=fun _ s' =>SP X pins D .next s') rfl hs (xx (S.cells I.ok)) S.kind S.loc (ck (hi pins s σ H _ I h) fun v s1 h1=>ck h1 fun itv s2 h2=> ?_))
  (fun _ s' hq=>wpAny_pure (wpAny_pure hq)) fun _ _ e=>e)
 obtain⟨it,fp,tn,J,H2,e,I2,T,Oq,f2,q⟩:=h2;subst e;refine zG (Q:=fun v H' =>D.nx (σ.set i (some v)) H') (RR:=fun acc C=>compPost (model X.prog X.w) X.A X.xe (some (assign (.Name x pos') X.env)) (fun _ s' =>SP X pins D .next s') acc C) hc S hb I2 T Oq f2 q ?_;intro p C s' H' m IX q' hn hC hL h0 vB JL;show wpAny _ X.A (assign (.Name x pos') X.env (.ref p)) _ _ s';refine wpAny_assign_Name (z6 (v:= .ref p) IX hN yk hx rfl (fun Lu I'' ⟨a,sb,ha⟩=> ?_) hf)
 have hCa:C≠a:=by
  rcases ha with z|z
  ·rw[z];exact hL
  ·exact fun e=>vB x a z e.symm
 refine⟨m,hn.sameBut sb hCa,fun h' sb' =>⟨σ.set i (some (.ref p)),H',?_,q'⟩⟩;exact I''.turned (t' :=Lu.toks) (fun b o hb e=>(sb'.2 b hb).trans e) hC hL (.inr h0) vB JL
end
def cOk(osc:Scope)(ON N:aX)(scope:Scope)(k:Nat)(js:List Nat):Bool:=
 (scope.kind== .function)&&scope.names.all (fun y=> !(y.2== .cell))&&scope.names.all (fun y=> !(y.2== .local)||scope.names.lookup y.1==some .local)&&
 scope.names.all (fun y=> !(y.2== .free)||(osc.names.lookup y.1==some .cell||osc.names.lookup y.1==some .free))&&(N.length==k+js.length)&&
 (List.range js.length).all (fun i=>ON[js.getD i 0]? ==N[k+i]?)&&(N.drop k).all fun x=>scope.names.lookup x==some .free
theorem bP{X:Cx}{N:aX}{scope:Scope}{k:Nat}{js:List Nat}(h:cOk X.env.scope X.N N scope k js=true):sJ X N scope k js:=by
 unfold cOk at h;simp only[Bool.and_eq_true] at h;obtain⟨⟨⟨⟨⟨⟨h1,h2⟩,h3⟩,h4⟩,h5⟩,h6⟩,h7⟩:=h;have h5:=eq_of_beq h5;rw[List.all_eq_true] at h2 h3 h4 h6 h7;refine⟨eq_of_beq h1,fun y hy e=> ?_,fun y hy e=> ?_,fun y hy e=> ?_,h5,fun i j e=> ?_,fun i x e=> ?_⟩
 ·have q:=h2 y hy;rw[e] at q;exact absurd q (by decide)
 ·have q:=h3 y hy;rw[e] at q;exact eq_of_beq (by simpa using q)
 ·have q:=h4 y hy;rw[e] at q;have q:(X.env.scope.names.lookup y.1==some .cell||X.env.scope.names.lookup y.1==some .free)=true:=by simpa using q
  rw[Bool.or_eq_true] at q;rcases q with q|q
  ·exact .inl (eq_of_beq q)
  ·exact .inr (eq_of_beq q)
 ·have hi:i<js.length:=(List.getElem?_eq_some_iff.mp e).1;have q:=eq_of_beq (h6 i (List.mem_range.mpr hi));rw[List.getD_eq_getElem?_getD,e] at q;exact q
 ·refine eq_of_beq (h7 x ?_);rw[List.mem_iff_getElem?];exact⟨i,by rw[List.getElem?_drop];exact e⟩
section
variable{X:Cx}
theorem je:f_ X (.builtin "isinstance") (fun xs H Q=>∃x T t b,xs=[x,.ty T]∧sF X.K H x t∧kitOne X.K t (.type T)=some b∧Q (.bl b) H):=by
 intro pins s σ H xs us Q I r h;obtain⟨x,T,t,b,rfl,ty,e,q⟩:=h;obtain⟨u,c,rfl,ru,rc⟩:=XV r;cases rc;exact zM I ru ty e fun tk=>⟨.bl b,H,I.tok tk,rfl,q⟩
end
section
variable{X:Cx}{tg:Expr}
end
section
variable{X:Cx}
def Ed:az→az→Bool
 |[],[]=>true
 |x::xs,y::ys=>G3 x y&&Ed xs ys
 |_,_=>false
theorem xK:∀(xs ys:az),xs.length=ys.length→(List.range xs.length).all (fun j=>G3 (xs.getD j .bH) (ys.getD j .bH))=Ed xs ys
 |[],[],_=>rfl
 |x::xs,y::ys,h=>by
  rw[List.length_cons,List.range_succ_eq_map,List.all_cons,List.all_map];have h' :xs.length=ys.length:=by simpa using h
  rw[←(show(G3 x y&&Ed xs ys)=Ed (x::xs) (y::ys) from rfl),←xK xs ys h'];rfl
 |[],_::_,h=>by simp at h
 |_::_,[],h=>by simp at h
def aeM(neg:Bool):R2:=fun x y H Q=>∃a b xs ys,x= .ref a∧y= .ref b∧H a=some (.lst xs)∧H b=some (.lst ys)∧
 ((xs.length≠ys.length∧Q (.bl neg) H)∨(xs.length=ys.length∧xs.all mV=true∧ys.all mV=true∧Q (.bl (if neg then !Ed xs ys else Ed xs ys)) H))
theorem B_{xs:az}{us:aA}{j:Nat}(r:Vals xs us)(f:xs.all mV=true)(hj:j<us.length):∃x,xs[j]? =some x∧RelV x us[j]∧mV x=true:=by
 have hl:=r.length;have hx:xs[j]? =some xs[j]:=by simp[hl,hj]
 obtain⟨u,hu,ru⟩:=r.get hx;have e:us[j]? =some us[j]:=by simp[hj]
 rw[e] at hu;cases hu;exact⟨_,hx,ru,List.all_eq_true.mp f _ (List.getElem_mem _)⟩
theorem xF(hu:X.A.units<cLine):qD X (compareOp .Eq) (aeM false):=by
 intro pins s σ H x y v u Q I rx ry h;obtain⟨a,b,xs,ys,rfl,rfl,ha,hb,h⟩:=h;cases rx;cases ry;obtain⟨its,r,pl,hz⟩:=I.list (bA.of ha);obtain⟨xE,r2,pl2,hz2⟩:=I.list (bA.of hb);have hl:=r.length;have mW:=r2.length;rcases h with⟨jA,q⟩|⟨he,f1,f2,q⟩
 ·exact SeqAt.eq_list_lengthsAt pl.isList pl2.isList (by simp;lia) hu ⟨.bl false,H,I,rfl,q⟩
 ·refine SeqAt.eq_listAt (e:=fun j=>G3 (xs.getD j .bH) (ys.getD j .bH)) pl.isList pl2.isList (by simp;lia) hu (fun j h1 h2=> ?_) ⟨.bl (Ed xs ys),H,I,?_,q⟩
  ·have h1:j<its.length:=by simpa using h1
   have h2:j<xE.length:=by simpa using h2
   obtain⟨x,e1,rx,fx⟩:=B_ r f1 h1;obtain⟨y,e2,ry,fy⟩:=B_ r2 f2 h2;have g1:xs.getD j .bH=x:=by rw[List.getD_eq_getElem?_getD,e1];rfl
   have g2:ys.getD j .bH=y:=by rw[List.getD_eq_getElem?_getD,e2];rfl
   show SeqAt.EqAt _ _ its.toArray[j] xE.toArray[j] (G3 (xs.getD j .bH) (ys.getD j .bH));rw[g1,g2];exact Ll rx ry fx fy
  ·show Value.bool _=Value.bool _;rw[←xK xs ys he,List.size_toArray,hl]
end
theorem au.upd{H:Hp}{p:Addr}{o:HO}(h:H p=none):au H (upd H p o):=fun b u e=>by
 rw[af (ag e h)];exact e
structure zA(J:It)(H:Hp)(xs:az):Prop where
 go:∀i H',au H H'→i<xs.length→J.go i H'
 wy:∀i H' x lC,au H H'→J.wy i H' x lC→lC =H'∧(i<xs.length→xs[i]? =some x)
 stop:∀i H',au H H'→xs.length≤i→J.stop i H'
theorem dg{K:Frag}{a:Addr}{xs:az}{H:Hp}(h:bA K H a xs):zA (W8 K a) H xs where
 go:=fun i H' s hi=>⟨xs,xs[i],s.seq h,by simp[hi]⟩
 wy:=fun i H' x lC s q=>⟨q.1,fun _=>q.2 xs (s.seq h)⟩
 stop:=fun i H' s hi=>⟨xs,s.seq h,hi⟩
theorem vf(lo:Int)(n:Nat)(H:Hp):zA (Tw lo n) H ((List.range n).map fun(i:Nat)=>V.int (lo+(i:Int))) where
 go:=fun i H' _ h=>by
  show i<n;simpa using h
 wy:=fun i H' x lC _ q=>by
  obtain⟨e,rfl⟩:=q;refine⟨e,fun h=> ?_⟩;have h:i<n:=by simpa using h
  simp[List.getElem?_map,List.getElem?_range h]
 stop:=fun i H' _ h=>by
  show n≤i;simpa using h
theorem zY{J:It}{xs:az}{k:Nat}{js:List Nat}{g:TG}{tt:TT}{te:TE}{σ:St}{H:Hp}{Q:VK}(pb:V→Bool)(fe:V→V)(F:zA J H xs)(hlen:xs.length≤sizeLine)
 (kU:∀(i:Nat) (x:V) (H' :Hp) (C1:V→Hp→Prop) (C0:Hp→Prop),xs[i]? =some x→au H H'→(pb x=true→C1 (fe x) H')→(pb x=false→C0 H')→
  g x (vN k js σ) H' fun oB H2=>gw (vN k js σ) oB∧tt oB H2 fun b H3=>if b=true then te oB H3 C1 else C0 H3)
 (hq:∀p,H p=none→Q (.ref p) (upd H p (.lst ((xs.filter pb).map fe)))):
 mU J k js g tt te σ H Q:=by
 intro p hp;refine⟨fun i m ys H' =>m=xs.length - i∧i≤xs.length∧ys=((xs.take i).filter pb).map fe∧H' =upd H p (.lst ys),⟨xs.length,rfl,Nat.zero_le _,rfl,rfl⟩,?_⟩
 rintro i m ys H' ⟨rfl,hi,rfl,rfl⟩
 refine⟨ae,?_⟩;have hs:au H (upd H p (.lst (((xs.take i).filter pb).map fe))):=au.upd hp;by_cases eO:i<xs.length
 ·refine .inr ⟨F.go i _ hs eO,?_,fun x lC hy=> ?_⟩
  ·rw[List.length_map];have h1:((xs.take i).filter pb).length≤(xs.take i).length:=List.length_filter_le _ _;rw[List.length_take] at h1
   lia
  ·obtain⟨rfl,hx⟩:=F.wy i _ x lC hs hy;have hx:=hx eO;have et:(xs.take (i+1)).filter pb=(xs.take i).filter pb++(if pb x=true then[x] else[]):=PySem.take_succ_filter pb xs i x hx;refine kU i x _ _ _ hx hs (fun hb=>⟨ae,xs.length - (i+1),by lia,rfl,eO,?_,?_⟩) (fun hb=>⟨xs.length - (i+1),by lia,rfl,eO,?_,rfl⟩)
   ·rw[et,if_pos hb,List.map_append];rfl
   ·rw[wc]
   ·rw[et,hb];simp
 ·have e:i=xs.length:=by lia
  subst e;refine .inl ⟨F.stop _ _ hs (Nat.le_refl _),?_⟩;rw[List.take_length];exact hq p hp
theorem qA{X:Cx}{Vg:List Stmt}{t:TS}(R:TS)(h:zr X Vg t)(hR:∀D σ H,R D σ H→t D σ H):zr X Vg R:=fun pins s σ H D I hq=>h pins s σ H D I (hR D σ H hq)
def Itv(K:Frag)(a:Addr)(n:Nat):It:=
 ⟨fun i H=>i<n∧∃xs,bA K H a xs∧xs.length=n,fun i H x H' =>H' =H∧∀xs,bA K H a xs→xs[n - 1 - i]? =some x,fun i _=>n≤i⟩
theorem LY{P:Program}{w:World}{K:Frag}{tg:Expr}(a it:Addr)(n:Nat):Turn P w K tg (Itv K a n) [it] it (fun i h=>i≤n∧h.IsRevIter it a ((n:Int) - 1 - (i:Int))) where
 mem:=by simp
 obj:=fun i h st b hb=>by
  have e:b=it:=by simpa using hb
  subst e;obtain⟨_,o,e,c,d⟩:=st;exact⟨o,e,fun v z=>by rw[d] at z;cases z⟩
 keep:=fun i h h' st k=>⟨st.1,st.2.at fun o e=>k it (by simp) o e⟩
 item:=by
  intro X hP hw hK hc i pins s σ H E I hf st hg;subst hP hw hK;obtain⟨hi,xs,hq,hlen⟩:=hg;obtain⟨its,rv,p,hz⟩:=I.list hq;have hl:=rv.length;have hx:xs[n - 1 - i]? =some xs[n - 1 - i]:=by simp[show n - 1 - i<xs.length by omega]
  obtain⟨u,hu,ru⟩:=rv.get hx;obtain⟨f0,f1,f2,f3,f4,f5⟩:=hf it (by simp);have e:(n:Int) - 1 - (i:Int)=((n - 1 - i:Nat):Int):=by omega
  have hit:=st.2;rw[e] at hit;refine wpAny_pyNext_rev_item hit p.isList (x:=u) (by simpa using hu) fun h' Px sb=> ?_;have I1:Inv X pins σ H {s with heap:=h'}:=I.turned (t' :=s.toks) (fun b o hb e=>(sb.2 b hb).trans e) f0 f1 f3 f4 f5;have e2:((n - 1 - i:Nat):Int) - 1=(n:Int) - 1 - ((i+1:Nat):Int):=by omega
  rw[e2] at Px;obtain⟨o,eo,c,d⟩:=id Px;exact⟨u,rfl,Fm (s:={s with heap:=h'}) eo c d (by decide) ⟨_,H,I1,ru,⟨rfl,fun ys hy=>by rw[I.wD hy hq];exact hx⟩,⟨hi,Px⟩,fun b hb=>(hf b hb).1⟩⟩
 done:=by
  intro X hP hw hK hc i pins s σ H E I hf st hg;subst hP hw hK;obtain⟨f0,f1,f2,f3,f4,f5⟩:=hf it (by simp);have ei:i=n:=Nat.le_antisymm st.1 hg;subst ei;have hit:=st.2;have e:(i:Int) - 1 - (i:Int)= -1:=by omega
  rw[e] at hit;exact wpAny_pyNext_rev_end (I.ok.hd hc) hit fun h' eb=>⟨rfl,I.turned (t' :=s.toks) (fun b o hb e=>eb b o hb e) f0 f1 f3 f4 f5⟩
 self:=fun _ _ _ _ _ st h=>wpAny_pyIter_revIter st.2 h
def Ite(K:Frag)(a:Addr):It:=
 ⟨fun i H=>∃xs x,bA K H a xs∧xs[i]? =some x,fun i H v H' =>∃T x,v= .ref T∧H T=none∧H' =upd H T (.tup [.int i,x])∧∀xs,bA K H a xs→xs[i]? =some x,fun i H=>∃xs,bA K H a xs∧xs.length≤i⟩
theorem HB{P:Program}{w:World}{K:Frag}{elts:cQ}{kt:Nat}{pt:Pos}(a e it:Addr)(hei:e≠it):Turn P w K (.Tuple elts kt pt) (Ite K a) [e,it] e (fun i h=>(∃old,IsEnum h e it i old)∧h.IsListIter it a i) where
 mem:=by simp
 obj:=fun i h st b hb=>by
  obtain⟨⟨old,he⟩,o,ho,c,d⟩:=st;have hb:b=e∨b=it:=by simpa using hb
  rcases hb with rfl|rfl
  ·exact⟨_,he,fun v z=>by cases z⟩
  ·exact⟨o,ho,fun v z=>by rw[d] at z;cases z⟩
 keep:=fun i h h' st k=>by
  obtain⟨⟨old,he⟩,hit⟩:=st;exact⟨⟨old,k e (by simp) _ he⟩,hit.at fun o x=>k it (by simp) o x⟩
 item:=by
  intro X hP hw hK hc i pins s σ H E I hf st hg;subst hP hw hK;obtain⟨xs,x,hq,hx⟩:=hg;obtain⟨its,rv,p,hz⟩:=I.list hq;obtain⟨u,hu,ru⟩:=rv.get hx;obtain⟨⟨old,he⟩,hit⟩:=st;obtain⟨f0,f1,f2,f3,f4,f5⟩:=hf e (by simp);obtain⟨g0,g1,g2,g3,g4,g5⟩:=hf it (by simp);have anO:e<s.heap.objs.size:=Heap.lt_size he;have JC:it<s.heap.objs.size:=by obtain⟨_,x,_⟩:=hit;exact Heap.lt_size x
  refine wpAny_pyNext_enum_item he hit p.isList (x:=u) (by simpa using hu) hei fun h' ho KL hT hsz hk=> ?_;refine⟨.ref s.heap.objs.size,rfl,?_⟩;refine wpAny_letOwnedTupleGo_enum ho fun GI Li Ax => ?_;have zE:H s.heap.objs.size=none:=I.bC.fresh (Nat.le_refl _);have DV:s.heap.objs.size≠e:=Nat.ne_of_gt anO;have kk:∀b o,b≠e→b≠it→s.heap.get? b=some o→GI.get? b=some o:=fun b o ym hbi q=>(Ax.2 b ym).trans (hk b o ym hbi q);have Kg :GI.get? s.heap.objs.size=some {cls:= .type "tuple",data:= .seq #[.int i s.toks,u]}:=(Ax.2 _ DV).trans hT;have jA:∀b u,H b=some u→b≠e∧b≠it:=fun b u q=>⟨(fun z=>by rw[z,f0] at q;cases q),(fun z=>by rw[z,g0] at q;cases q)⟩
  have I2:Inv X pins σ (upd H s.heap.objs.size (.tup [.int i,x])) {s with heap:=GI,toks:=s.toks+1}:=by
   have new:bq X.prog X.w (upd H s.heap.objs.size (.tup [.int i,x])) GI s.heap.objs.size (.tup [.int i,x]):=⟨(show 2≤sizeLine by decide),[.int i s.toks,u],.cons ⟨_,rfl⟩ (.cons ru .nil),⟨_,Kg,rfl,_,rfl⟩⟩
   refine I.step (g' :=s.gens) (d' :=s.drawn) (ch:=[e,it]) (fun b hb=> ?_) (fun b o _ _ hc q _=>kk b o (fun z=>hc (by simp[z])) (fun z=>hc (by simp[z])) q) (fun b o _ _ hc q _=>⟨o.slots,kk b o (fun z=>hc (by simp[z])) (fun z=>hc (by simp[z])) q⟩)
    (fun b o _ q n=> ?_) (fun b o hc q=>⟨o,kk b o (fun z=>hc (by simp[z])) (fun z=>hc (by simp[z])) q⟩) (fun b ys q=> ?_) (fun b o ys q=> ?_) (fun b ps q=>⟨#[],?_⟩) (fun m hm=> ?_) (fun b u q=> ?_) I.bare
   ·have hb:b=e∨b=it:=by simpa using hb
    rcases hb with rfl|rfl
    ·exact⟨f3,f1,f4,f5⟩
    ·exact⟨g3,g1,g4,g5⟩
   ·rw[af (Nat.ne_of_lt (Heap.lt_size q))];exact n
   ·rw[af (ag q zE)];exact q
   ·rw[af (ag q zE)];exact q
   ·rw[af (ag q zE),q];simp
   ·obtain⟨o,es,ep,q,r⟩:=hm;exact⟨o,es,ep,kk _ o (Ne.symm f1) (Ne.symm g1) q,r⟩
   ·by_cases hb:b=s.heap.objs.size
    ·subst hb;rw[ae] at q;cases q;exact new
    ·rw[af hb] at q;refine(I.bC b u q).qQ (fun c v hc q' =>kk c v ?_ ?_ q') (fun c q' => ?_) fun c ys q' => ?_
     ·rcases hc with z|z
      ·rw[z];exact(jA b u q).1
      ·exact(jA c _ z).1
     ·rcases hc with z|z
      ·rw[z];exact(jA b u q).2
      ·exact(jA c _ z).2
     ·rw[af (ag q' zE)];exact q'
     ·rw[af (ag q' zE)];exact q'
  refine⟨.ref s.heap.objs.size,_,I2,rfl,⟨_,x,rfl,zE,rfl,fun ys hy=>by rw[I.wD hy hq];exact hx⟩,⟨⟨_,by simpa using Li⟩,KL.at fun o q=>(Ax.2 it hei.symm).trans q⟩,fun b hb=> ?_⟩;have hb:b=e∨b=it:=by simpa using hb
  rcases hb with rfl|rfl
  ·rw[af (Ne.symm DV)];exact f0
  ·rw[af (Nat.ne_of_lt JC)];exact g0
 done:=by
  intro X hP hw hK hc i pins s σ H E I hf st hg;subst hP hw hK;obtain⟨xs,hq,hx⟩:=hg;obtain⟨its,rv,p,hz⟩:=I.list hq;obtain⟨⟨old,he⟩,hit⟩:=st;obtain⟨g0,g1,g2,g3,g4,g5⟩:=hf it (by simp);have hl:=rv.length;exact wpAny_pyNext_enum_end (I.ok.hd hc) he hit p.isList (by simp;omega) fun h' eb=>⟨rfl,I.turned (t' :=s.toks) (fun b o hb e=>eb b o hb e) g0 g1 g3 g4 g5⟩
 self:=fun _ _ _ _ _ st h=>by
  obtain⟨⟨old,he⟩,_⟩:=st;exact wpAny_pyIter_enum he h
section
variable{X:Cx}{tg:Expr}
def ahZ(K:Frag)(ta:TA):TI:=fun σ H R=>ta σ H fun vs H1=>∃a xs,vs=[.ref a]∧bA K H1 a xs∧R (Itv K a xs.length) H1
theorem Cy{a:Expr}{ta:TA}{p pos:Pos}(hg:Gl X "reversed")(hm:X.mg "reversed"=none)(ha:PA X [a] ta)(hs:starEach [a] X.env=[(false,eval a X.env)]:=by rfl):PI X tg (.Call (.Name "reversed" p) [a] [] pos) (ahZ X.K ta):=by
 intro pins s σ H R I h;refine Call_ (oS I hg hm Boot.«reversed» (PyProof.Rows.callWith_type1 (ck (ha pos pins s σ H _ I h) fun us s1 ⟨vs,H1,I1,r1,q1⟩=> ?_) hs rfl));obtain⟨l,xs,e,hq,q⟩:=q1;subst e;obtain⟨u,rfl,ru⟩:=xL r1;cases ru;obtain⟨its,rv,pl,hz⟩:=I1.list hq;have hl:=rv.length;refine call_reversed_list pl.isList ?_;have I2:Inv X pins σ H1 {s1 with heap:=s1.heap.push (revObj l ((its.toArray.size:Int) - 1))}:=I1.kept (t' :=s1.toks) fun b o e=>Heap.get?_push_of_some _ e
 have hit:(s1.heap.push (revObj l ((its.toArray.size:Int) - 1))).IsRevIter s1.heap.objs.size l ((xs.length:Int) - 1 - ((0:Nat):Int)):=by
  have e:((xs.length:Int) - 1 - ((0:Nat):Int))=((its.toArray.size:Int) - 1):=by rw[List.size_toArray,hl];simp
  rw[e];exact⟨_,Heap.get?_push_size _ rfl,rfl,rfl⟩
 refine wpAny_pyIter_revIter (s:={s1 with heap:=s1.heap.push (revObj l ((its.toArray.size:Int) - 1))}) hit ?_;refine⟨s1.heap.objs.size,[s1.heap.objs.size],_,_,H1,rfl,I2,LY l _ xs.length,⟨Nat.zero_le _,hit⟩,fun b hb=> ?_,q⟩;have e:b=s1.heap.objs.size:=by simpa using hb
 subst e;exact I1.BP (Nat.le_refl _) (I1.bC.fresh (Nat.le_refl _))
def aaK(K:Frag)(ta:TA):TI:=fun σ H R=>ta σ H fun vs H1=>∃a xs,vs=[.ref a]∧H1 a=some (.lst xs)∧R (Ite K a) H1
theorem Bv{a:Expr}{ta:TA}{p pos:Pos}{elts:cQ}{kt:Nat}{pt:Pos}(hg:Gl X "enumerate")(hm:X.mg "enumerate"=none)(ha:PA X [a] ta)(hs:starEach [a] X.env=[(false,eval a X.env)]:=by rfl):
 PI X (.Tuple elts kt pt) (.Call (.Name "enumerate" p) [a] [] pos) (aaK X.K ta):=by
 intro pins s σ H R I h;refine Call_ (oS I hg hm Boot.«enumerate» (PyProof.Rows.callWith_type1 (ck (ha pos pins s σ H _ I h) fun us s1 ⟨vs,H1,I1,r1,q1⟩=> ?_) hs rfl));obtain⟨l,xs,e,hq,q⟩:=q1;subst e;obtain⟨u,rfl,ru⟩:=xL r1;cases ru;obtain⟨its,n,rv,ho,hz⟩:=I1.lst hq;refine call_enumerate_1 ho fun h' he hit hsz hk=> ?_;have I2:Inv X pins σ H1 {s1 with heap:=h'}:=I1.kept (t' :=s1.toks) hk;refine wpAny_pyIter_enum (s:={s1 with heap:=h'}) he ?_;refine⟨s1.heap.objs.size+1,[s1.heap.objs.size+1,s1.heap.objs.size],_,_,H1,rfl,I2,HB l _ _ (Nat.succ_ne_self _),⟨⟨_,he⟩,hit⟩,fun b hb=> ?_,q⟩;have hb:b=s1.heap.objs.size+1∨b=s1.heap.objs.size:=by simpa using hb
 rcases hb with rfl|rfl
 ·exact I1.BP (Nat.le_succ _) (I1.bC.fresh (Nat.le_succ _))
 ·exact I1.BP (Nat.le_refl _) (I1.bC.fresh (Nat.le_refl _))
end
structure qd(J:It)(H:Hp)(n:Nat)(Y:Nat→V→Hp→Prop):Prop where
 go:∀i H',au H H'→i<n→J.go i H'
 wy:∀i H' x lC,au H H'→i<n→J.wy i H' x lC→au H' lC∧Y i x lC
 stop:∀i H',au H H'→n≤i→J.stop i H'
theorem zA.g{J:It}{H:Hp}{xs:az}(F:zA J H xs):qd J H xs.length (fun i x _=>xs[i]? =some x) where
 go:=F.go
 wy:=fun i H' x lC s hi h=>by
  obtain⟨e,q⟩:=F.wy i H' x lC s h;exact⟨e▸au.refl H',q hi⟩
 stop:=F.stop
theorem Ia{K:Frag}{a:Addr}{xs:az}{H:Hp}(h:bA K H a xs):zA (Itv K a xs.length) H xs.reverse where
 go:=fun i H' s hi=>⟨by simpa using hi,xs,s.seq h,rfl⟩
 wy:=fun i H' x lC s q=>⟨q.1,fun hi=>by
  have hi:i<xs.length:=by simpa using hi
  rw[List.getElem?_reverse hi];exact q.2 xs (s.seq h)⟩
 stop:=fun i H' s hi=>by
  show xs.length≤i;simpa using hi
theorem EG{K:Frag}{a:Addr}{xs:az}{H:Hp}(h:bA K H a xs):qd (Ite K a) H xs.length (fun i x H' =>∃T y,x= .ref T∧H' T=some (.tup [.int i,y])∧xs[i]? =some y) where
 go:=fun i H' s hi=>⟨xs,xs[i],s.seq h,by simp[hi]⟩
 wy:=fun i H' x lC s hi q=>by
  obtain⟨T,y,rfl,hT,rfl,hy⟩:=q;exact⟨au.upd hT,T,y,rfl,ae,hy xs (s.seq h)⟩
 stop:=fun i H' s hi=>⟨xs,s.seq h,hi⟩
theorem eX{J:It}{n k:Nat}{js:List Nat}{Y:Nat→V→Hp→Prop}{g:TG}{tt:TT}{te:TE}{σ:St}{H:Hp}{Q:VK}(pb:Nat→Bool)(fe:Nat→V)(F:qd J H n Y)(hlen:n≤sizeLine)
 (kU:∀(i:Nat) (x:V) (H' :Hp) (C1:V→Hp→Prop) (C0:Hp→Prop),i<n→au H H'→Y i x H'→(pb i=true→∀lC,au H' lC→C1 (fe i) lC)→(pb i=false→∀lC,au H' lC→C0 lC)→
  g x (vN k js σ) H' fun oB H2=>gw (vN k js σ) oB∧tt oB H2 fun b H3=>if b=true then te oB H3 C1 else C0 H3)
 (hq:∀p H',H p=none→au H H'→H' p=some (.lst (((List.range n).filter pb).map fe))→Q (.ref p) H'):
 mU J k js g tt te σ H Q:=by
 intro p hp;refine⟨fun i m ys H' =>m=n - i∧i≤n∧ys=((List.range i).filter pb).map fe∧H' p=some (.lst ys)∧au H H',⟨n,rfl,Nat.zero_le _,rfl,ae,au.upd hp⟩,?_⟩
 rintro i m ys H' ⟨rfl,hi,rfl,hl,hs⟩
 refine⟨hl,?_⟩;by_cases eO:i<n
 ·refine .inr ⟨F.go i _ hs eO,?_,fun x lC hy=> ?_⟩
  ·rw[List.length_map];have h1:((List.range i).filter pb).length≤(List.range i).length:=List.length_filter_le _ _;rw[List.length_range] at h1;omega
  ·obtain⟨s1,y1⟩:=F.wy i _ x lC hs eO hy
   have et:(List.range (i+1)).filter pb=(List.range i).filter pb++(if pb i=true then[i] else[]):=by
    rw[List.range_succ,List.filter_append];cases hb:pb i<;>simp[hb]
   refine kU i x lC _ _ eO (hs.trans s1) y1 (fun hb H3 s3=>⟨s3 _ _ (s1 _ _ hl),n - (i+1),by omega,rfl,eO,?_,ae,?_⟩) (fun hb H3 s3=>⟨n - (i+1),by omega,rfl,eO,?_,s3 _ _ (s1 _ _ hl),(hs.trans s1).trans s3⟩)
   ·rw[et,if_pos hb,List.map_append];rfl
   ·intro c o e;rw[af (ag e hp)];exact s3 _ _ (s1 _ _ (hs _ _ e))
   ·rw[et,hb];simp
 ·have e:i=n:=by omega
  subst e;exact .inl ⟨F.stop _ _ hs (Nat.le_refl _),hq p H' hp hs hl⟩
mutual
inductive Dat (H:Hp):V→PyData→Prop
 |bH:Dat H .bH .none
 |bl (b:Bool):Dat H (.bl b) (.bool b)
 |int (i:Int):Dat H (.int i) (.int i)
 |str (x:Str):Dat H (.str x) (.str x)
 |lst {a:Addr} {xs:az} {ds:List PyData} (e:H a=some (.lst xs)) (h:DatAll H xs ds):Dat H (.ref a) (.list ds)
 |tup {a:Addr} {xs:az} {ds:List PyData} (e:H a=some (.tup xs)) (h:DatAll H xs ds):Dat H (.ref a) (.tuple ds)
inductive DatAll (H:Hp):az→List PyData→Prop
 |nil:DatAll H [] []
 |cons {x:V} {xs:az} {d:PyData} {ds:List PyData} (h:Dat H x d) (t:DatAll H xs ds):DatAll H (x::xs) (d::ds)
end
mutual
theorem Dat.reads{P:Program}{w:World}{H:Hp}{h:Heap}(ok:qI P w H h):∀{v:V} {d:PyData} {u:Value},Dat H v d→RelV v u→(∃as,Reads h u d as)∧d.hasDict=false
 |_,_,_,.bH,r=>by cases r;exact⟨⟨_,.none⟩,by simp only[PyData.hasDict]⟩
 |_,_,_,.bl b,r=>by cases r;exact⟨⟨_,.bool b⟩,by simp only[PyData.hasDict]⟩
 |_,_,_,.int i,r=>by obtain⟨t,rfl⟩:=r;exact⟨⟨_,.int i t⟩,by simp only[PyData.hasDict]⟩
 |_,_,_,.str x,r=>by obtain⟨t,rfl⟩:=r;exact⟨⟨_,.str x t⟩,by simp only[PyData.hasDict]⟩
 |_,_,_,.lst e hd,r=>by
  cases r;obtain⟨z,its,n,rv,ho⟩:=(show bq P w H h _ (.lst _) from ok _ _ e);obtain⟨⟨as,q⟩,hh⟩:=DatAll.reads ok hd rv;exact⟨⟨_,.list ho rfl rfl (by simpa using q)⟩,by simp only[PyData.hasDict];exact hh⟩
 |_,_,_,.tup e hd,r=>by
  cases r;obtain⟨z,its,rv,o,ho,hc,n,hdt⟩:=(show bq P w H h _ (.tup _) from ok _ _ e);obtain⟨⟨as,q⟩,hh⟩:=DatAll.reads ok hd rv;exact⟨⟨_,.tuple ho hc hdt (by simpa using q)⟩,by simp only[PyData.hasDict];exact hh⟩
theorem DatAll.reads{P:Program}{w:World}{H:Hp}{h:Heap}(ok:qI P w H h):∀{xs:az} {ds:List PyData} {us:aA},DatAll H xs ds→Vals xs us→(∃as,ReadsAll h us ds as)∧PyData.hasDictAll ds=false
 |_,_,_,.nil,.nil=>⟨⟨_,.nil⟩,by simp only[PyData.hasDictAll]⟩
 |_,_,_,.cons hd t,.cons r rr=>by
  obtain⟨⟨as,q⟩,h1⟩:=Dat.reads ok hd r;obtain⟨⟨bs,q'⟩,h2⟩:=DatAll.reads ok t rr;exact⟨⟨_,.cons q q'⟩,by simp only[PyData.hasDictAll,h1,h2,Bool.or_self]⟩
end
mutual
theorem Dat.same{H H' :Hp}(s:au H H'):∀{v:V} {d:PyData},Dat H v d→Dat H' v d
 |_,_,.bH=> .bH
 |_,_,.bl b=> .bl b
 |_,_,.int i=> .int i
 |_,_,.str x=> .str x
 |_,_,.lst e h=> .lst (s _ _ e) (DatAll.same s h)
 |_,_,.tup e h=> .tup (s _ _ e) (DatAll.same s h)
theorem DatAll.same{H H' :Hp}(s:au H H'):∀{xs:az} {ds:List PyData},DatAll H xs ds→DatAll H' xs ds
 |_,_,.nil=> .nil
 |_,_,.cons h t=> .cons (Dat.same s h) (DatAll.same s t)
end
section
variable{X:Cx}
theorem cH(hg:X.A.guards=some [])(hu:X.A.units+100<cLine):f_ X (.builtin "repr") (fun xs H Q=>∃v d,xs=[v]∧Dat H v d∧d.showable=true∧d.depth≤90∧d.shown.length≤sizeLine∧Q (.str d.shown) H):=by
 intro pins s σ H xs us Q I r h;obtain⟨v,d,rfl,hd,hs,hdp,hz,q⟩:=h;obtain⟨u,rfl,ru⟩:=xL r;have flat:∀{h' :Heap} {tk:Nat} (t:Tok),(∀b o,s.heap.get? b=some o→h'.get? b=some o)→EP X pins σ Q (.str d.shown t) {s with heap:=h',toks:=tk}:=fun{h' tk} t k=>⟨.str d.shown,H,I.kept k,⟨t,rfl⟩,q⟩;obtain⟨⟨as,rd⟩,nd⟩:=hd.reads I.bC ru
 cases hd with
 |bH=>cases ru;exact PySem.P.repr_of_none (flat _ fun _ _ e=>e)
 |bl b=>cases ru;exact PySem.P.repr_of_bool (by have:=flat (h' :=s.heap) (tk:=s.toks+1) s.toks fun _ _ e=>e;simpa only[PyData.shown] using this)
 |int i=>
  obtain⟨t,rfl⟩:=ru;have ID :i.natAbs.log2<1920:=by simpa[PyData.showable] using hs
  exact PySem.P.repr_of_int ID (by have:=flat (h' :=s.heap) (tk:=s.toks+1) s.toks fun _ _ e=>e;simpa only[PyData.shown] using this)
 |str x=>
  obtain⟨t,rfl⟩:=ru;refine PySem.P.repr_of_str (by have:=flat (h' :=s.heap) (tk:=s.toks+1) s.toks fun _ _ e=>e;simpa only[PyData.shown] using this) (by simpa only[PyData.shown] using hz)
 |lst e hx=>
  cases ru;exact repr_of_reads' rd hs (PyData.noDict_hsm nd) hg (by lia) (fun _ _ e=>e) (fun h' t tk k=>flat t k) hz
 |tup e hx=>
  cases ru;exact repr_of_reads' rd hs (PyData.noDict_hsm nd) hg (by lia) (fun _ _ e=>e) (fun h' t tk k=>flat t k) hz
end
section
variable{X:Cx}{e Zz:Expr}{te ts:TE}{pos p2:Pos}
def V7(K:Frag)(te ts:TE):TE:=fun σ H Q=>te σ H fun x H1=>QL ts σ H1 fun o H2=>∃a xs,x= .ref a∧o=some (-1)∧bA K H2 a xs∧∀p,H2 p=none→Q (.ref p) (upd H2 p (.lst xs.reverse))
theorem Mu(he:PE X e te)(fE:PE X Zz ts):PE X (.Subscript e (.Slice none none (some Zz) p2) pos) (V7 X.K te ts):=by
 intro pins s σ H Q I h;refine Subscript_ (ck (he pins s σ H _ I h) fun v s1 ⟨x,H1,I1,r1,q1⟩=> ?_);refine wpAny_Slice ?_;rw[evalPart_none];refine wpAny_pure ?_;refine wpAny_pure ?_;refine ck (GF fE pins s1 σ H1 _ I1 q1) fun vs s2 ⟨o,H2,I2,ps,a,xs,hx,ho,hq,q⟩=> ?_;subst ho hx;cases r1;have I4:Inv X pins σ H2 {s2 with heap:=s2.heap.push {cls:= .type "slice",data:= .fields #[.none,.none,vs]}}:=I2.kept (t' :=s2.toks) fun b ob q=>Heap.get?_push_of_some _ q;obtain⟨its,r,ht,hz⟩:=I4.list hq;have hlen:=r.length;show wpAny (model X.prog X.w) X.A (subscriptTail e (.Slice none none (some Zz) p2) (.ref a) (.ref s2.heap.objs.size)) (EP X pins σ Q) X.xe {s2 with heap:=s2.heap.push {cls:= .type "slice",data:= .fields #[.none,.none,vs]}};refine tail_any (ops:=[.ref a,.ref s2.heap.objs.size]) ht.isList.typeIs slot_list_getitem.lookup ?_ (by with_unfolding_all rfl);refine wpAny_getItem_list_slice ht.isList (Heap.IsSliceOf.new ..) .none .none ps (by simp) ?_ (by rw[List.size_toArray]<;>lia);rw[PySem.W.krv_pick];refine⟨.ref _,_,I4.laid (t' :=s2.toks) (o:= .lst xs.reverse) (fun b ob q=>Heap.get?_push_of_some _ q) (Nat.le_refl _) ?_,rfl,q _ ?_⟩
 ·exact⟨by rw[List.length_reverse];exact hz,_,0,(by simpa using r.reverse),Heap.get?_push_size _ rfl⟩
 ·exact I4.bC.fresh (Nat.le_refl _)
end
theorem Hq:typeLookup (.type "list_reverseiterator") "__len__"=pure none:=by rw[typeLookup_type,builtinLookup_eq_fast];kernel_rfl
theorem LJ:typeLookup (.type "list_reverseiterator") "__length_hint__"=pure (some (.builtin "list_reverseiterator.__length_hint__")):=by rw[typeLookup_type,builtinLookup_eq_fast];kernel_rfl
section
variable{prog:Program}{w:World}{A:Around}{E:Value→Shared→Prop}{s:Shared}
theorem Eg{R:Result→Shared→Prop}(hh:A.handled=none){l J S:Addr}{items:Array Value}(hlJ:l≠J)(hSJ:S≠J)(VL:S≠l)(res:Value)(c₀:Nat)(hS:s.heap.get? S=some {cls:= .type "list",data:= .seq #[] c₀})
 (hit:s.heap.IsRevIter J l ((items.size:Int) - 1)) (hl:s.heap.IsList l items)
 (hR:∀h' tk xg c',(∀b o,b≠S→b≠J→s.heap.get? b=some o→h'.get? b=some o)→h'.get? S=some {cls:= .type "list",dict:=none,data:= .seq xg c',slots:= #[]}→
  ItemsOf (fun i v=>items[items.size - 1 - i]? =some v) xg items.size→R (.ok (.ret res)) {s with heap:=h',toks:=tk}) (hn:items.size≤sizeLine):
 wpAny (model prog w) A.in1 (Builtin.List.listExtendWith (.ref S) (.ref J) res)
  (fun fin s' =>match fin with| .done f=>R (.ok f) s' | .again c' =>c'.quiet=true∧codeAny (model prog w) A c' R s') (fun e s' =>R (.error e) s') s:=by
 have W:=(Walks.listRev (prog:=prog) (w:=w) (A:=A.in1) hh J l hlJ items).toS;have fE:(0:Nat)≤items.size∧s.heap.IsRevIter J l ((items.size:Int) - 1 - ((0:Nat):Int))∧s.heap.IsList l items:=⟨Nat.zero_le _,by simpa using hit,hl⟩
 have hSf:S∉[J,l]:=fun hm=>by
  have hm:S=J∨S=l:=by simpa using hm
  rcases hm with h|h
  ·exact hSJ h
  ·exact VL h
 unfold Builtin.List.listExtendWith;refine wpAny_bind (wpAny_typeOf (T:="list_reverseiterator") hit.typeIs ?_);have h1:Builtin.List.listSameRef (.ref S) (.ref J)=false:=by simp[Builtin.List.listSameRef,hSJ]
 rw[if_neg (by rw[h1];decide)];refine wpAny_bind (wpAny_pyIter_revIter hit ?_);refine wpAny_bind (wpAny_holding ?_);unfold Builtin.List.listLengthHint;refine wpAny_bind (wpAny_specialOf hit.typeIs Hq ?_);show wpAny _ A.in1 (specialOf (Value.ref J) (Str.ofString "__length_hint__")>>= _) _ _ _;refine wpAny_bind (wpAny_specialOf hit.typeIs LJ ?_)
 (generalize hid:("list_reverseiterator.__length_hint__" :String)=id0;(fail_if_success (clear hid id0));wp_delta;rw[show splitId id0=some ("list_reverseiterator","__length_hint__") from by subst hid;decide+kernel];subst hid)
 refine wpAny_bind (wpAny_isInstance (b:=true) hit.typeIs (by rw[isSubtype_type];kernel_rfl) ?_);refine wpAny_pure ?_;rw[if_neg (by decide)];refine wpAny_pure ⟨plainId_quiet F.plain_extend_loop _,codeAny_extend_loopS W hn _ hSf _ items.size 0 _ _ _ rfl (Nat.zero_le _) fE hS (ItemsOf.nil _) fun s' xg c' hm O5 Dy=> ?_⟩;rw[Moved.eq_with hm];refine hR s'.heap s'.toks xg c' (fun b ob hb hbJ e=>hm.heap b ob (fun Kv=> ?_) e) O5 Dy;rcases List.mem_cons.mp Kv with e' |Kv
 ·exact hb e'
 ·exact hbJ (List.mem_singleton.mp Kv)
theorem yr{Q:Value→Shared→Prop}(hh:A.handled=none){l J:Addr}{items:Array Value}(hlJ:l≠J)(hit:s.heap.IsRevIter J l ((items.size:Int) - 1))(hl:s.heap.IsList l items)
 (hQ:∀h' tk xg c',(∀b o,b≠J→s.heap.get? b=some o→h'.get? b=some o)→h'.get? s.heap.objs.size=some {cls:= .type "list",dict:=none,data:= .seq xg c',slots:= #[]}→
  ItemsOf (fun i v=>items[items.size - 1 - i]? =some v) xg items.size→Q (.ref s.heap.objs.size) {s with heap:=h',toks:=tk}) (hn:items.size≤sizeLine):
 wpAny (model prog w) A (call (.type "list") [.ref J]) Q E s:=by
 have hJ:J<s.heap.objs.size:=by obtain⟨o,e,_⟩:=hit;exact Heap.lt_size e
 have hL:l<s.heap.objs.size:=by obtain⟨o,e,_⟩:=hl;exact Heap.lt_size e
 refine callType_codes (Q₁:=fun obj bE=>obj= .ref s.heap.objs.size∧bE={s with heap:=s.heap.push {cls:= .type "list",data:= .seq #[]}}) F.called_list (F.typeCall_list_1 _) F.entry_list_init
  (code_list_new _ ⟨rfl,rfl⟩) fun obj bE iO=> ?_
 obtain⟨rfl,rfl⟩:=iO;have hS:(s.heap.push {cls:= .type "list",data:= .seq #[]}).get? s.heap.objs.size=some {cls:= .type "list",data:= .seq #[]}:=Heap.get?_push_size _ rfl;refine⟨⟨_,hS,rfl⟩,F.args_list_init_2 _ _,?_⟩;show wpAny _ _ (do let old←Builtin.List.listItems (.ref s.heap.objs.size);Builtin.List.listUpdate (.ref s.heap.objs.size) (fun _=> #[]);letGo old.toList.reverse;Builtin.List.listExtendWith (.ref s.heap.objs.size) (.ref J) .none) _ _ _;refine wpAny_bind ?_;unfold Builtin.List.listItems;refine wpAny_bind (wpAny_seqItems hS rfl (wpAny_pure ?_));show wpAny _ _ (updateSeq s.heap.objs.size (fun _=> #[])>>= fun _=>letGo (#[]:Array Value).toList.reverse>>= fun _=>Builtin.List.listExtendWith (.ref s.heap.objs.size) (.ref J) .none) _ _ _;refine wpAny_bind (wpAny_updateSeq hS rfl ?_);have aak:=Heap.get?_update_self (Obj.mapSeq (fun _=>(#[]:Array Value))) hS rfl
 have oth:∀b o,b≠s.heap.objs.size→s.heap.get? b=some o→((s.heap.push {cls:= .type "list",data:= .seq #[]}).update s.heap.objs.size (Obj.mapSeq (fun _=>(#[]:Array Value)))).get? b=some o:=
  fun b o hb e=>(Heap.get?_update_other _ _ (Ne.symm hb)).trans (Heap.get?_push_of_some _ e)
 refine wpAny_bind (wpAny_letGo ?_);refine Eg (A:=A.in1) hh hlJ (Nat.ne_of_gt hJ) (Nat.ne_of_gt hL) .none _ aak (hit.at fun o e=>oth _ o (Nat.ne_of_lt hJ) e) (hl.at fun o e=>oth _ o (Nat.ne_of_lt hL) e) (fun h' tk xg c' hk O5 Dy=> ?_) hn;exact⟨rfl,hQ h' tk xg c' (fun b o hbJ e=>hk b o (Nat.ne_of_lt (Heap.lt_size e)) hbJ (oth b o (Nat.ne_of_lt (Heap.lt_size e)) e)) O5 Dy⟩
end
section
variable{X:Cx}{e:Expr}{ta:TA}{p p' pos pos' :Pos}
def IL(K:Frag)(ta:TA):TE:=fun σ H Q=>ta σ H fun vs H1=>∃a xs,vs=[.ref a]∧bA K H1 a xs∧∀l,H1 l=none→Q (.ref l) (upd H1 l (.lst xs.reverse))
theorem HG{items:aA}{acc:Array Value}(h:ItemsOf (fun i v=>items.toArray[items.toArray.size - 1 - i]? =some v) acc items.toArray.size):acc.toList=items.reverse:=by
 obtain⟨h1,h2⟩:=h;have hs:items.toArray.size=items.length:=List.size_toArray;apply List.ext_getElem?;intro i;by_cases hi:i<items.length
 ·rw[List.getElem?_reverse hi];have yk :i<acc.size:=by lia
  have e:acc[i]? =some acc[i]:=by simp[yk]
  have q:=h2 i acc[i] e;rw[hs] at q;rw[Array.getElem?_toList,e,←q];simp
 ·have e1:acc.toList[i]? =none:=List.getElem?_eq_none (by rw[Array.length_toList];lia);have e2:items.reverse[i]? =none:=List.getElem?_eq_none (by rw[List.length_reverse];lia);rw[e1,e2]
theorem Ej(hc:X.calm=true)(hg:Gl X "list")(hm:X.mg "list"=none)(hg' :Gl X "reversed")(II :X.mg "reversed"=none)(ha:PA X [e] ta)(hs:starEach [e] X.env=[(false,eval e X.env)]:=by rfl)
 (ID :starEach [Expr.Call (.Name "reversed" p') [e] [] pos'] X.env=[(false,eval (.Call (.Name "reversed" p') [e] [] pos') X.env)]:=by rfl):
 PE X (.Call (.Name "list" p) [.Call (.Name "reversed" p') [e] [] pos'] [] pos) (IL X.K ta):=by
 intro pins s σ H Q I h;refine wpAny_Call_Name_kw (oS I hg hm Boot.«list» ?_);refine PyProof.Rows.callWith_type1 ?_ ID rfl;rw[ID];show wpAny _ _ (spliced ((false,eval (.Call (.Name "reversed" p') [e] [] pos') X.env)::backTo pos [])) _ _ s;refine Calls.spliced_cons (Call_ (oS I hg' II Boot.«reversed» (PyProof.Rows.callWith_type1 (ck (ha pos' pins s σ H _ I h) fun us s1 ⟨vs,H1,I1,r1,q1⟩=> ?_) hs rfl)));obtain⟨l,xs,ev,hq,q⟩:=q1;subst ev;obtain⟨u,rfl,ru⟩:=xL r1;cases ru;obtain⟨its,rv,pl,hz⟩:=I1.list hq;have hl:=rv.length;refine call_reversed_list pl.isList ?_;refine Calls.spliced_nil ?_;have hll:l<s1.heap.objs.size:=by obtain⟨o,e,_⟩:=pl.isList;exact Heap.lt_size e
 have I2:Inv X pins σ H1 {s1 with heap:=s1.heap.push (revObj l ((its.toArray.size:Int) - 1))}:=I1.kept (t' :=s1.toks) fun b o e=>Heap.get?_push_of_some _ e;refine yr (s:={s1 with heap:=s1.heap.push (revObj l ((its.toArray.size:Int) - 1))}) (I1.ok.hd hc) (l:=l) (J:=s1.heap.objs.size) (items:=its.toArray) (Nat.ne_of_lt hll) ⟨_,Heap.get?_push_size _ rfl,rfl,rfl⟩ (pl.isList.push _) (fun h' tk xg c' hk O5 Dy=> ?_) (by rw[List.size_toArray];lia);have f1:=I1.BP (H' :=H1) (Nat.le_refl s1.heap.objs.size) (I1.bC.fresh (Nat.le_refl _));have er:=HG Dy;have hsz:(s1.heap.push (revObj l ((its.toArray.size:Int) - 1))).objs.size=s1.heap.objs.size+1:=Heap.size_push ..;have Xp:H1 (s1.heap.objs.size+1)=none:=I1.bC.fresh (Nat.le_succ _);have hS2:h'.get? (s1.heap.objs.size+1)=some {cls:= .type "list",dict:=none,data:= .seq xg c',slots:= #[]}:=by rw[←hsz];exact O5
 have jA:∀b u,H1 b=some u→b≠s1.heap.objs.size:=fun b u q z=>by rw[z,f1.1] at q;cases q
 have I3:Inv X pins σ (upd H1 (s1.heap.objs.size+1) (.lst xs.reverse)) {s1 with heap:=h',toks:=tk}:=by
  refine Inv.step (s:={s1 with heap:=s1.heap.push (revObj l ((its.toArray.size:Int) - 1))}) I2 (g' :=s1.gens) (d' :=s1.drawn) (ch:=[s1.heap.objs.size]) (fun b hb=> ?_) (fun b o _ _ hc q _=>hk b o (fun z=>hc (by simp[z])) q) (fun b o _ _ hc q _=>⟨o.slots,hk b o (fun z=>hc (by simp[z])) q⟩)
   (fun b o _ q n=> ?_) (fun b o hc q=>⟨o,hk b o (fun z=>hc (by simp[z])) q⟩) (fun b ys q=> ?_) (fun b o ys q=> ?_) (fun b ps q=>⟨#[],?_⟩) (fun m hm=> ?_) (fun b u q=> ?_) I1.bare
  ·have hb:b=s1.heap.objs.size:=by simpa using hb
   subst hb;exact⟨f1.2.2.2.1,f1.2.1,f1.2.2.2.2.1,f1.2.2.2.2.2⟩
  ·have hb:=Heap.lt_size q;have hb:b<s1.heap.objs.size+1:=by rw[←hsz];exact hb
   rw[af (Nat.ne_of_lt hb)];exact n
  ·rw[af (ag q Xp)];exact q
  ·rw[af (ag q Xp)];exact q
  ·rw[af (ag q Xp),q];simp
  ·obtain⟨o,es,ep,q,r⟩:=hm;exact⟨o,es,ep,hk _ o (Ne.symm f1.2.1) q,r⟩
  ·by_cases hb:b=s1.heap.objs.size+1
   ·subst hb;rw[ae] at q;cases q;refine⟨by rw[List.length_reverse];exact hz,its.reverse,c',rv.reverse,?_⟩;rw[hS2,←er]
   ·rw[af hb] at q;refine(I2.bC b u q).qQ (fun c v hc q' =>hk c v ?_ q') (fun c q' => ?_) fun c ys q' => ?_
    ·rcases hc with z|z
     ·rw[z];exact jA b u q
     ·exact jA c _ z
    ·rw[af (ag q' Xp)];exact q'
    ·rw[af (ag q' Xp)];exact q'
 rw[hsz];exact⟨.ref (s1.heap.objs.size+1),_,I3,rfl,q _ Xp⟩
end
section
variable{X:Cx}{K:Frag}
theorem qu(hK:X.K=K):Ph X (Pn K):=hK▸bj
theorem AY(hK:X.K=K):Ph X (XA K):=hK▸iG
theorem wO(hK:X.K=K):qD X (compareOp .In) (rIn K false):=hK▸Hf
theorem rf(hK:X.K=K):f_ X (.builtin "len") (fun xs H Q=>∃p ys,xs=[.ref p]∧(bA K H p ys∨qS K H p ys)∧Q (.int ys.length) H):=hK▸aU
theorem NZ{e:Expr}{f:Str}{pos:Pos}{ta:TE}(hK:X.K=K)(he:PE X e ta)(hb:attributeBase e f X.env (eval e X.env)=eval e X.env):PE X (.Attribute e f pos) (YS K ta f):=hK▸b8 he hb
theorem Bx{es:cQ}{k:Nat}{t:Rc}{n:Nat}{pos:Pos}(hK:X.K=K)(hc:X.calm=true)(h:ZN X es t)(hn:(assignEach es X.env).length=n)(fE:(assignEach es X.env).findIdx? (·.1)=none):PG X (.Tuple es k pos) (abt K n t):=hK▸Jp hc h hn fE
end
theorem uD:∀{ns:List Int} {us:aA},Vals (ns.map V.int) us→IntsAre us ns
 |[],_,.nil=> .nil
 |n::r,_,.cons ⟨t,e⟩ q=>by
  subst e;exact .cons n t (uD q)
section
variable{X:Cx}{tg:Expr}
def afE:R2:=fun x y H Q=>∃(a b:Addr) (ns ms:List Int),x= .ref a∧y= .ref b∧H a=some (.lst (ns.map V.int))∧H b=some (.lst (ms.map V.int))∧Q (.bl (!decide (ns=ms))) H
theorem Ea(hu:X.A.units+100<cLine):qD X (compareOp .NotEq) afE:=by
 intro pins s σ H x y v u Q I rx ry h;obtain⟨a,b,ns,ms,rfl,rfl,ha,hb,q⟩:=h;cases rx;cases ry;obtain⟨its,r,pl,hz⟩:=I.list (bA.of ha);obtain⟨xE,r2,pl2,hz2⟩:=I.list (bA.of hb);exact PySem.W.ne_intsK pl.isList (uD r) pl2.isList (uD r2) (by lia) ⟨.bl _,H,I,rfl,q⟩
end
section
variable{X:Cx}{tg:Expr}
end
section
variable{X:Cx}{pins:aL}{σ:St}{H:Hp}{s:Shared}{h' :Heap}
end
section
variable{X:Cx}{tg:Expr}
end
structure yh(K:Frag)(C:Addr)(m:Str)(f:Addr):Prop where
 sp:PySem.W.specialIn K (.ref C) "__getattribute__"=some (some (.builtin "type.__getattribute__"))
 rd:PySem.W.readsIn K C (.type "type")=true
 at_:PySem.W.findCls K (.ref C) (.type "type") m=some (.val (.ref f))
 kp:PySem.W.keepIn K (.ref f)=true
section
variable{X:Cx}{CX:AS}{k:Nat}{f C:Addr}{fd:FuncData}{ps:aX}{sp:Sp}{qW:az}{ds:aA}{E:XK}{x m:Str}{p pos apos:Pos}{e:Expr}{es:cQ}{t:TA}
theorem qx{pl:Sem Bool}(c:yh X.K C m f)(hg:Gl X x)(hm:X.mg x=some (.ref C))(F:aV X.prog X.w X.K X.mg X.base CX k f fd ps sp)(hr:eQ k X.A)(hb:Binds X.K fd ps ds)(hd:Vals qW ds)(hx:wT CX X E)(ha:PA X (e::es) t)
 (BU:(x==("__debug__" :Str))=false:=by decide) (fE:starEach (e::es) X.env=(false,eval e X.env)::starEach es X.env:=by rfl) (rR:(backTo pos (starEach es X.env)).any (·.1)=false:=by rfl)
 (ht:eval (.Call (.Attribute (.Name x p) m apos) (e::es) [] pos) X.env=(do
  let ov←eval (.Name x p) X.env
  standAt apos.atName
  let(f,first)←holding [ov] (getMethod ov m pl)
  callWith pos f first (backTo pos (starEach (e::es) X.env)) (backToKw pos (keywordEach [] X.env))):=by rfl):
 PE X (.Call (.Attribute (.Name x p) m apos) (e::es) [] pos) (QP sp qW E t):=by
 intro pins s σ H Q I h;refine methodCall_KW (pl:=pl) (nE I hg hm ?_ BU) ht;refine PySem.W.method_cls I.lA c.sp (PySem.W.cls_value I.lA c.rd c.at_ rfl ?_);refine callWith_K (first:=[]) (h₀:=X.base) I.ok.mod.NV c.kp (ck (ha pos pins _ σ H _ (I.tok _) h) fun us s2 ⟨vs,H2,I2,r,q2⟩=>⟨I2.lA,?_⟩) fE rR;exact AU F hr hb hd hx I2 r q2
end
section
variable{X:Cx}{o e f:Expr}{apos fk:Pos}{td ty tx:TE}
def Ve(td ty tx:TE):TE:=fun σ H Q=>td σ H fun x H1=>∃a,x= .ref a∧IsD H1 a∧ty σ H1 fun y H2=>tx σ H2 fun z H3=>∃kvs k,H3 a=some (.dK kvs)∧y=kV k∧kvs.length<sizeLine∧
 (∀v,bz kvs k=some v→Q v H3)∧(bz kvs k=none→Q z (upd H3 a (.dK (v4 kvs k z))))
theorem A9{pins:aL}{σ:St}{H:Hp}{s:Shared}{a:Addr}{kvs:bJ}{k:wp}{z:V}{u r:Value}{A:Around}{E:Value→Shared→Prop}{Q:Value→Shared→Prop}(I:Inv X pins σ H s)(ea:H a=some (.dK kvs))(ry:RelV (kV k) u)(rz:RelV z r)(hl:kvs.length<sizeLine)
 (h1:∀v,bz kvs k=some v→∀w' s',Inv X pins σ H s'→RelV v w'→Q w' s') (h2:bz kvs k=none→∀s',Inv X pins σ (upd H a (.dK (v4 kvs k z))) s'→Q r s'):
 wpAny (model X.prog X.w) A (call (.builtin "dict.setdefault") [.ref a,u,r]) Q E s:=by
 obtain⟨hz,hd,vs,rel,dd⟩:=xl I.bC ea
 refine call_meetsIn slot_dict_setdefault dd.typeIs PySem.F.entry_dict_setdefault (PySem.F.args_dict_setdefault_3 _ _ _) (kt_meets_setdefault (bI X.prog X.w) a (vi ry) hd r)
  ⟨vs,dd,by rw[←rel.length];exact hz,fun v hv=> ?_,fun hn h' Ek hs=> ?_⟩
 ·have q:=rel.val k;rw[hv] at q
  cases e:bz kvs k with
  |none=>rw[e] at q;cases q
  |some v' =>
   rw[e] at q;exact h1 v' e v _ (I.tok _) q
 ·have q:=rel.val k;rw[hn] at q
  have e:bz kvs k=none:=by
   cases e:bz kvs k with
   |none=>rfl
   |some v' =>rw[e] at q;cases q
  have he:∃q,h'.get? a=some q:=let⟨q,_,_,hq,_⟩:=Ek;⟨q,hq⟩
  refine h2 e _ (wx I (by rw[ea];exact True.intro) hs he (wK (by have:=dI kvs k z;lia) hd (rel.put k rz) Ek))
theorem Kq(ho:PE X o td)(he:PE X e ty)(hf:PE X f tx)(m:M2 X o "setdefault" apos e f fk):PE X (.Call (.Attribute o "setdefault" apos) [e,f] [] fk) (Ve td ty tx):=by
 intro pins s σ H Q I h;refine wpAny_Call_method m.base m.few m.line plainAttrs_dict slot_dict_setdefault PySem.F.type_dict_setdefault (ck (ho pins s σ H _ I h) fun u s1 ⟨x,H1,I1,rx,a,ex,d,q1⟩=> ?_);subst ex;obtain rfl:u=Value.ref a:=rx;obtain⟨t1,t2,_⟩:=Lr I1 d;refine⟨t1,t2,?_⟩;rw[m.trees]
 refine Calls.callWith_builtin rfl (Calls.evalArgs_plain (Calls.spliced_cons (ck (he pins s1 σ H1 _ I1 q1) fun iv s2 ⟨y,H2,I2,ry,q2⟩=>
  Calls.spliced_cons (ck (hf pins s2 σ H2 _ I2 q2) fun fv s3 ⟨z,H3,I3,rz,kvs,k,ea,ey,hl,q3,q4⟩=>Calls.spliced_nil ?_))))
 subst ey;exact A9 I3 ea ry rz hl (fun v hv w' s4 I4 D4 =>⟨v,H3,I4,D4,q3 v hv⟩) fun hn s4 I4=>⟨z,_,I4,rz,q4 hn⟩
end
section
variable{X:Cx}
theorem FL:∀(ns:List Int) (i:Nat),PySem.preSum (fun j=>ns.getD j 0) i=(ns.take i).sum
 |ns,0=>by simp[PySem.preSum]
 |ns,i+1=>by
  show PySem.preSum (fun j=>ns.getD j 0) i+ns.getD i 0=_;rw[FL ns i,List.take_add_one,List.sum_append]
  cases e:ns[i]? with
  |none=>simp[List.getD_eq_getElem?_getD,e]
  |some v=>simp[List.getD_eq_getElem?_getD,e]
theorem xV(hc:X.calm=true):f_ X (.builtin "sum") (fun xs H Q=>∃(a:Addr) (ns:List Int),xs=[.ref a]∧H a=some (.lst (ns.map V.int))∧ns.length≤2000∧(∀n∈ns,0≤n∧n≤1000000)∧Q (.int ns.sum) H):=by
 intro pins s σ H xs us Q I r h;obtain⟨a,ns,rfl,ha,hl,hb,q⟩:=h;obtain⟨u,rfl,ru⟩:=xL r;cases ru;obtain⟨its,r,pl,hz⟩:=I.list (bA.of ha);have hlen:=r.length;rw[List.length_map] at hlen;have eO:=I.bC.lt ha;have I1:Inv X pins σ H {s with heap:=s.heap.push {cls:= .type "list_iterator",data:= .fields #[.ref a,.int 0 0]}}:=I.kept (t' :=s.toks) fun b u e=>Heap.get?_push_of_some _ e
 have Zr:∀j,0≤ns.getD j 0∧ns.getD j 0≤1000000:=fun j=>by
  rw[List.getD_eq_getElem?_getD]
  cases e:ns[j]? with
  |none=>simp
  |some v=>exact hb v (List.mem_of_getElem? e)
 have anH:∀j,0≤PySem.preSum (fun j=>ns.getD j 0) j∧PySem.preSum (fun j=>ns.getD j 0) j≤1000000*(j:Int):=by
  intro j
  induction j with
  |zero=>simp[PySem.preSum]
  |succ j ih=>
   have:=Zr j;show 0≤PySem.preSum (fun j=>ns.getD j 0) j+ns.getD j 0∧PySem.preSum (fun j=>ns.getD j 0) j+ns.getD j 0≤_
   push_cast
   lia
 refine call_sum_walk (wpAny_pyIter_list pl.isList ⟨_,_,_,_,_,_,fun i=>ns.getD i 0,rfl,Walks.list (A:=X.A.in1) (I.ok.hd hc) _ a (Nat.ne_of_lt eO) its.toArray,⟨⟨_,Heap.get?_push_size _ rfl,rfl,rfl⟩,pl.isList.push _⟩,?_,?_,?_,fun h' tk t' k=> ?_⟩)
 ·intro b yl;have yl :b=s.heap.objs.size∨b=a:=by simpa using yl
  show b<(s.heap.push _).objs.size;rw[Heap.size_push];rcases yl with rfl|rfl
  ·exact Nat.lt_succ_self _
  ·exact Nat.lt_succ_of_lt eO
 ·intro i v hv;have hv:its[i]? =some v:=by simpa using hv
  have hi:i<its.length:=(List.getElem?_eq_some_iff.mp hv).1;have hx:(ns.map V.int)[i]? =some (V.int ns[i]):=by simp[show i<ns.length by lia]
  obtain⟨u,hu,t,rfl⟩:=r.get hx;rw[hv] at hu;cases hu;refine⟨t,?_⟩;dsimp only;rw[List.getD_eq_getElem?_getD,List.getElem?_eq_getElem (by lia)];rfl
 ·intro j hj;have hj:j<its.length:=by simpa using hj
  have h1:=Zr j;have h2:=anH (j+1)
  push_cast at h2
  unfold PySem.InLong;dsimp only;refine⟨?_,?_⟩<;>(constructor<;>lia)
 ·refine⟨.int ns.sum,H,I1.turned (fun b o hb e=>k b o (by simpa using hb) e) (I.bC.fresh (Nat.le_refl _)) (fun z=> ?_) (.inr I.sz) (fun x c e z=> ?_) (fun p hp z=> ?_),⟨t',?_⟩,q⟩
  ·exact absurd (z▸I.lt) (Nat.lt_irrefl _)
  ·obtain⟨v,o,ho,_⟩:=I.cell x c e;exact absurd (z▸Heap.lt_size ho) (Nat.lt_irrefl _)
  ·obtain⟨ho,_⟩:=I.pin p hp;exact absurd (z▸Heap.lt_size ho) (Nat.lt_irrefl _)
  ·rw[FL,List.size_toArray,←hlen,List.take_length]
end
theorem tR{J:It}{n k:Nat}{js:List Nat}{Y:Nat→V→Hp→Prop}{g:TG}{te:TE}{σ:St}{H:Hp}{Q:VK}(E:Nat→V→Hp→Prop)(F:qd J H n Y)(hlen:n≤sizeLine)
 (fE:∀i v H1 H2,(∀c xs,H1 c=some (.tup xs)→H2 c=some (.tup xs))→E i v H1→E i v H2)
 (kU:∀(i:Nat) (x:V) (H' :Hp) (C1:V→Hp→Prop),i<n→au H H'→Y i x H'→(∀v lC,au H' lC→E i v lC→C1 v lC)→
  g x (vN k js σ) H' fun oB H2=>gw (vN k js σ) oB∧te oB H2 C1)
 (hq:∀p H' ys,H p=none→au H H'→H' p=some (.lst ys)→ys.length=n→(∀i v,ys[i]? =some v→E i v H')→Q (.ref p) H'):
 mU J k js g WG te σ H Q:=by
 intro p hp
 refine⟨fun i m ys H' =>m=n - i∧i≤n∧ys.length=i∧H' p=some (.lst ys)∧au H H'∧∀j v,ys[j]? =some v→E j v H',
  ⟨n,rfl,Nat.zero_le _,rfl,ae,au.upd hp,fun j v e=>by simp at e⟩,?_⟩
 rintro i m ys H' ⟨rfl,hi,rM,hl,hs,hE⟩
 refine⟨hl,?_⟩;by_cases eO:i<n
 ·refine .inr ⟨F.go i _ hs eO,by lia,fun x lC hy=> ?_⟩;obtain⟨s1,y1⟩:=F.wy i _ x lC hs eO hy;have hb:=kU i x lC (fun v H4=>H4 p=some (.lst ys)∧∃m',m' <n - i∧(m' =n - (i+1)∧i+1≤n∧(ys++[v]).length=i+1∧upd H4 p (.lst (ys++[v])) p=some (.lst (ys++[v]))∧au H (upd H4 p (.lst (ys++[v])))∧∀j v',(ys++[v])[j]? =some v'→E j v' (upd H4 p (.lst (ys++[v]))))) eO (hs.trans s1) y1 ?_
  ·exact hb
  ·intro v H4 s4 e4;have hp4:H4 p=some (.lst ys):=s4 _ _ (s1 _ _ hl)
   have tk:∀c xs,H4 c=some (.tup xs)→upd H4 p (.lst (ys++[v])) c=some (.tup xs):=fun c xs e=>by
    rw[af (aK e hp4 (by intro z;cases z))];exact e
   refine⟨hp4,n - (i+1),by lia,rfl,eO,by simp[rM],ae,fun c o e=> ?_,fun j v' e=> ?_⟩
   ·rw[af (ag e hp)];exact s4 _ _ (s1 _ _ (hs _ _ e))
   ·by_cases hj:j<ys.length
    ·rw[List.getElem?_append_left hj] at e;exact fE _ _ _ _ tk (fE _ _ _ _ (fun c xs q=>s4 _ _ (s1 _ _ q)) (hE j v' e))
    ·rw[List.getElem?_append_right (by lia)] at e
     have R9:j - ys.length=0:=by
      have:=(List.getElem?_eq_some_iff.mp e).1;simp at this
      lia
     rw[R9] at e;cases e;have:j=i:=by lia
     subst this;exact fE _ _ _ _ tk e4
 ·have e:i=n:=by lia
  subst e;exact .inl ⟨F.stop _ _ hs (Nat.le_refl _),hq p H' ys hp hs hl rM hE⟩
section
variable{X:Cx}{e:Expr}{ta:TA}{p pos p' pos' :Pos}
end
section
variable{X:Cx}{e lo Zz:Expr}{te tl ts:TE}{pos p2:Pos}
end
def Jw(X:Cx)(a:Addr):Prop:=∀o u,X.H₀ a≠some (.gE o u)
section
variable{X:Cx}{pins:aL}{σ:St}{H:Hp}{s:Shared}{d:Addr}{kvs:bJ}
theorem Inv.nfz(I:Inv X pins σ H s)(e:H d=some (.dK kvs)):Jw X d:=fun o u q=>by
 have:=I.base.pE d o u q;rw[e] at this;cases this
theorem Inv.swap{u:HO}{v:HO}(I:Inv X pins σ H s)(e:H d=some u)(nf:Jw X d)(h1:∀xs,u≠.tup xs)(h2:∀y,u≠.own y)(h3:∀ps,u≠.Qu ps)(ok:bq X.prog X.w (upd H d v) s.heap d v):Inv X pins σ (upd H d v) s:=by
 have ne:∀b,H b=none→b≠d:=fun b q z=>by rw[z,e] at q;cases q
 refine⟨I.ok,I.os,I.bare,⟨I.base.keep,I.base.slot,fun b o q n hx=> ?_,I.base.there,fun b xs q=> ?_,fun b o w q=> ?_,fun b ps q=> ?_⟩,I.loc,I.cell,?_,fun x c q=> ?_,fun p hp=> ?_,fun b w q=> ?_,I.len⟩
 ·have:=I.base.free b o q n hx;rw[af (ne b this)];exact this
 ·have:=I.base.rF b xs q;rw[af (fun z=>by rw[z,e] at this;exact h1 xs (Option.some.inj this))];exact this
 ·have:=I.base.pE b o w q;rw[af (fun z=>nf o w (by rw[←z];exact q))];exact this
 ·obtain⟨more,this⟩:=I.base.rY b ps q;refine⟨more,?_⟩;rw[af (fun z=>by rw[z,e] at this;exact h3 _ (Option.some.inj this))];exact this
 ·rw[af (ne _ I.free)];exact I.free
 ·have:=I.jk x c q;rw[af (ne _ this)];exact this
 ·obtain⟨a1,a2,a3⟩:=I.pin p hp;refine⟨a1,?_,a3⟩;rw[af (ne _ a2)];exact a2
 ·by_cases hb:b=d
  ·subst hb;rw[ae] at q;cases q;exact ok
  ·rw[af hb] at q;refine(I.bC b w q).qQ (fun c v hc q' =>q') (fun c q' => ?_) fun c ys q' => ?_
   ·rw[af (fun z=>by rw[z,e] at q';exact h2 _ (Option.some.inj q'))];exact q'
   ·rw[af (fun z=>by rw[z,e] at q';exact h1 _ (Option.some.inj q'))];exact q'
theorem Inv.freeze{o:Obj}(I:Inv X pins σ H s)(e:H d=some (.dK kvs))(ho:s.heap.get? d=some o):Inv X pins σ (upd H d (.gE o (.dK kvs))) s:=
 I.swap e (I.nfz e) (fun _ z=>nomatch z) (fun _ z=>nomatch z) (fun _ z=>nomatch z) ⟨ho,show bq X.prog X.w H s.heap d (.dK kvs) from I.bC d _ e⟩
theorem Inv.Zi{o:Obj}(I:Inv X pins σ H s)(e:H d=some (.gE o (.dK kvs)))(nf:Jw X d):Inv X pins σ (upd H d (.dK kvs)) s:=by
 have bC:=(show bq X.prog X.w H s.heap d (.gE o (.dK kvs)) from I.bC d _ e).2;exact I.swap e nf (fun _ z=>nomatch z) (fun _ z=>nomatch z) (fun _ z=>nomatch z) bC
end
theorem SY{P:Program}{w:World}{k:wp}{u:Value}(h:(bI P w).is k u=true):RelV (kV k) u:=by
 have h:pV k u=true:=h
 cases k with
 |inl i=>
  cases u with
  |int j t=>
   have:j=i:=by simpa[pV,Value.isInt] using h
   subst this;exact⟨t,rfl⟩
  |_=>simp[pV,Value.isInt] at h
 |inr x=>
  cases u with
  |str y t=>
   have:y=x:=by simpa[pV,Value.isStrOf] using h
   subst this;exact⟨t,rfl⟩
  |_=>simp[pV,Value.isStrOf] at h
theorem JD{kvs:bJ}{vs:List (wp×Value)}(r:KV kvs vs):∀{i:Nat} {p:wp×V} {k:wp} {x:Value},kvs[i]? =some p→vs[i]? =some (k,x)→p.1=k:=by
 unfold KV at r
 induction r with
 |nil=>intro i p k x h;simp at h
 | @cons a b as bs h t ih=>
  intro i p k x h1 h2
  cases i with
  |zero=>
   simp at h1 h2;subst h1 h2;exact h.1
  |succ i=>exact ih (by simpa using h1) (by simpa using h2)
def Itk(d:Addr)(o:Obj)(kvs:bJ):It:=
 ⟨fun i H=>i<kvs.length∧H d=some (.gE o (.dK kvs)),fun i H x H' =>H' =H∧∃k v,kvs[i]? =some (k,v)∧x=kV k,fun i H=>kvs.length≤i∧H d=some (.gE o (.dK kvs))⟩
theorem Hx{P:Program}{w:World}{K:Frag}{tg:Expr}(d it:Addr)(o:Obj)(kvs:bJ)(ep:Nat)(es:Array DictEntry)(hd:o.data= .dict es ep):
 Turn P w K tg (Itk d o kvs) [it] it (fun i h=>h.IsKeyIter it d i kvs.length ep) where
 mem:=by simp
 obj:=fun i h st b hb=>by
  have e:b=it:=by simpa using hb
  subst e;obtain⟨ob,e,c,dd⟩:=st;exact⟨ob,e,fun v z=>by rw[dd] at z;cases z⟩
 keep:=fun i h h' st k=>st.at fun ob e=>k it (by simp) ob e
 item:=by
  intro X hP hw hK hc i pins s σ H E I hf st hg;subst hP hw hK;obtain⟨hi,hq⟩:=hg;obtain⟨ho,z,hs,vs,rel,o',Pb,PR,g1,g2,g3,g4,g5,g6⟩:=(show bq X.prog X.w H s.heap d (.gE o (.dK kvs)) from I.bC d _ hq);rw[ho] at g1;cases g1;rw[hd] at g3;cases g3;have hl:=rel.length;obtain⟨⟨k,x⟩,hx⟩:∃p,vs[i]? =some p:=⟨vs[i],by simp[show i<vs.length by lia]⟩;obtain⟨f0,f1,f2,f3,f4,f5⟩:=hf it (by simp);rw[hl] at st;refine wpAny_pyNext_dict_item (knd:=bI X.prog X.w) st ⟨o,es,ho,g2,hd,g4,g5,g6⟩ hx fun key h' AI KL ID => ?_;have I1:Inv X pins σ H {s with heap:=h'}:=I.turned (t' :=s.toks) (fun b ob hb e=>(ID.2 b hb).trans e) f0 f1 f3 f4 f5;rw[←hl] at KL;obtain⟨ob,e,c,dd⟩:=id KL
  obtain⟨p,hp,Hj,w_⟩:∃p:wp×V,kvs[i]? =some p∧p.1=k∧True:=by
   have:kvs[i]? =some kvs[i]:=by simp[hi]
   exact⟨_,this,JD rel this hx,trivial⟩
  exact⟨key,rfl,Fm (s:={s with heap:=h'}) e c dd (by decide) ⟨kV k,H,I1,SY AI,⟨rfl,p.1,p.2,hp,by rw[Hj]⟩,KL,fun b hb=>(hf b hb).1⟩⟩
 done:=by
  intro X hP hw hK hc i pins s σ H E I hf st hg;subst hP hw hK;obtain⟨hi,hq⟩:=hg;obtain⟨ho,z,hs,vs,rel,o',Pb,PR,g1,g2,g3,g4,g5,g6⟩:=(show bq X.prog X.w H s.heap d (.gE o (.dK kvs)) from I.bC d _ hq);rw[ho] at g1;cases g1;rw[hd] at g3;cases g3;have hl:=rel.length;obtain⟨f0,f1,f2,f3,f4,f5⟩:=hf it (by simp);rw[hl] at st;exact wpAny_pyNext_dict_end (knd:=bI X.prog X.w) (I.ok.hd hc) st ⟨o,es,ho,g2,hd,g4,g5,g6⟩ (by simp;lia) fun h' eb=>⟨rfl,I.turned (t' :=s.toks) (fun b ob hb e=>eb b ob hb e) f0 f1 f3 f4 f5⟩
 self:=fun _ _ _ _ _ st h=>wpAny_pyIter_keyiter st h
section
variable{X:Cx}{tg e:Expr}{te:TE}
def acD(X:Cx)(te:TE):TI:=fun σ H R=>te σ H fun x H1=>∃a kvs,x= .ref a∧H1 a=some (.dK kvs)∧∀o,Jw X a→R (Itk a o kvs) (upd H1 a (.gE o (.dK kvs)))
theorem OO(he:PE X e te):PI X tg e (acD X te):=by
 intro pins s σ H R I h;refine ck (he pins s σ H _ I h) fun v s1 ⟨x,H1,I1,r1,a,kvs,ex,hq,q⟩=> ?_;subst ex;cases r1;obtain⟨z,hs,vs,rel,o,es,ep,g1,g2,g3,g4,g5,g6⟩:=xl I1.bC hq;have hl:=rel.length;refine wpAny_pyIter_dict (knd:=bI X.prog X.w) (kvs:=vs) (ep:=ep) hs ⟨o,es,g1,g2,g3,g4,g5,g6⟩ ?_;have I2:=I1.freeze hq g1;have hn:H1 s1.heap.objs.size=none:=I1.bC.fresh (Nat.le_refl _);have hf:uH X pins (upd H1 a (.gE o (.dK kvs))) s1.heap.objs.size:=I1.BP (Nat.le_refl _) (by rw[af (fun z=>by rw[z,hq] at hn;cases hn)];exact hn);refine⟨s1.heap.objs.size,[s1.heap.objs.size],_,_,_,rfl,I2.kept (t' :=s1.toks) fun b ob e=>Heap.get?_push_of_some _ e,Hx a _ o kvs ep es g3,⟨_,Heap.get?_push_size _ rfl,rfl,by rw[hl];rfl⟩,fun b hb=> ?_,q o (I1.nfz hq)⟩;have e:b=s1.heap.objs.size:=by simpa using hb
 subst e;exact hf
def YD(X:Cx)(t:TE):TE:=fun σ H Q=>t σ H fun v H' =>∃d o kvs,H' d=some (.gE o (.dK kvs))∧Jw X d∧Q v (upd H' d (.dK kvs))
theorem FP{t:TE}(he:PE X e t):PE X e (YD X t):=by
 intro pins s σ H Q I h;refine ck (he pins s σ H _ I h) fun u s1 ⟨v,H1,I1,r1,d,o,kvs,ed,nf,q⟩=> ?_;exact⟨v,_,I1.Zi ed nf,r1,q⟩
end
theorem Et{d:Addr}{o:Obj}{kvs:bJ}{H:Hp}(h:H d=some (.gE o (.dK kvs))):qd (Itk d o kvs) H kvs.length (fun i x _=>∃k v,kvs[i]? =some (k,v)∧x=kV k) where
 go:=fun i H' s hi=>⟨hi,s _ _ h⟩
 wy:=fun i H' x lC s hi q=>⟨q.1▸au.refl H',q.2⟩
 stop:=fun i H' s hi=>⟨hi,s _ _ h⟩
structure Iu(h:Heap)(e T:Addr)(oe:Obj):Prop where
 at_:h.get? e=some oe
 fs:∃vs,oe.data= .fields vs∧vs[1]? =some (.ref T)
 ne:T≠e
 tr:∃oT ts,h.get? T=some oT∧oT.data= .fields ts∧ts[3]? =some .none
section
variable{M:Model}{A:Around}{E:Value→Shared→Prop}{s:Shared}
theorem qK{base:Heap}{env:Env}{outer:List Env}{L e:Addr}{oe:Obj}{vs:Array Value}{head:Value}{PU:Bool}{Q:Unit→Shared→Prop}
 (qJ:A.frames=some (env::outer)) (hl:s.heap.FunFrames base (env::outer)) (hf:env.frame=some L)
 (he:s.heap.get? e=some oe) (hd:oe.data= .fields vs) (hsz:1<vs.size)
 (h:∀h' T,s.heap.objs.size≤T→Iu h' e T (oe.mapFields (·.setIfInBounds 1 (.ref T)))→(∀b o,b≠e→b∉(env::outer).filterMap (·.frame)→s.heap.get? b=some o→h'.get? b=some o)→
  (∀b o,b≠e→s.heap.get? b=some o→∃sl,h'.get? b=some {o with slots:=sl})→Q () {s with heap:=h'}):
 wpAny M A (do let a←frameOf env;let pl←entryPlaceOf L PU;let b←EntryCells.newEntry head a .none (rawInt L) .none pl;setField (.ref e) 1 b) (fun _ s' =>wpAny M A (setFlight (.ref e) none) Q E s') E s:=by
 have aih:e∉(env::outer).filterMap (·.frame):=fun hm=>by
  obtain⟨_,o,ho,NY⟩:=hl.mem hm
  rw[he] at ho;injection ho with ho;subst ho;exact NY vs hd
 refine wpAny_bind (wpAny_frameOf_fun qJ hl hf fun iO Ge=> ?_);refine wpAny_bind (wpAny_entryPlaceOf fun pl rR=> ?_);unfold EntryCells.newEntry newFields;refine wpAny_bind (wpAny_newObj_type ?_ (rR.sizeOk5 _ _ _ _ _));have Ti:iO.get? e=some oe:=(Ge.2.1 e aih).trans he;have R0:=Heap.get?_push_of_some (h:=iO) {cls:= .type "traceback",dict:=none,data:= .fields ([head,.ref L,.none,rawInt L,.none]++(if pl.isEmpty then List.replicate 6 Value.none else pl)).toArray} Ti;refine wpAny_setField R0 hd hsz ?_;have DV:iO.objs.size≠e:=Nat.ne_of_gt (Heap.lt_size Ti);have Nz:=Obj.data_mapFields hd (·.setIfInBounds 1 (Value.ref iO.objs.size));have Sg:=Heap.get?_update_self (Obj.mapFields (·.setIfInBounds 1 (Value.ref iO.objs.size))) R0 (Obj.isFreed_of_fields Nz)
 have RO:=(Heap.get?_update_other (iO.push {cls:= .type "traceback",dict:=none,data:= .fields ([head,.ref L,.none,rawInt L,.none]++(if pl.isEmpty then List.replicate 6 Value.none else pl)).toArray})
  (Obj.mapFields (·.setIfInBounds 1 (Value.ref iO.objs.size))) (Ne.symm DV)).trans (Heap.get?_push_size iO rfl)
 unfold setFlight;refine wpAny_bind (wpAny_field Sg Nz (x:= .ref iO.objs.size) (by simp[hsz]) ?_);rw[if_pos (show(Value.ref iO.objs.size !=Value.none)=true from by simp)];refine wpAny_setField RO rfl (by simp only[List.size_toArray,List.length_append,List.length_cons,List.length_nil]<;>lia) (h _ iO.objs.size ?_ ?_ ?_ ?_)
 ·rw[Ge.1];exact Nat.le_refl _
 ·refine⟨?_,⟨_,Nz,by simp[hsz]⟩,DV,_,_,Heap.get?_update_self _ RO (Obj.isFreed_of_fields (Obj.data_mapFields rfl _)),Obj.data_mapFields rfl _,by first|(simp;done)|(rcases rR with rfl|⟨_,_,_,_,_,_,_,rfl⟩<;>simp)⟩;rw[Heap.get?_update_other _ _ DV];exact Sg
 ·intro b o ym UU hb;have Cw:=(Ge.2.1 b UU).trans hb;have Eo:iO.objs.size≠b:=Nat.ne_of_gt (Heap.lt_size Cw);rw[Heap.get?_update_other _ _ Eo,Heap.get?_update_other _ _ (Ne.symm ym)];exact Heap.get?_push_of_some _ Cw
 ·intro b o ym hb;obtain⟨sl,Cw⟩:=Ge.2.2 b o hb;have Eo:iO.objs.size≠b:=Nat.ne_of_gt (Heap.lt_size Cw);refine⟨sl,?_⟩;rw[Heap.get?_update_other _ _ Eo,Heap.get?_update_other _ _ (Ne.symm ym)];exact Heap.get?_push_of_some _ Cw
theorem C_{base:Heap}{env:Env}{outer:List Env}{L e:Addr}{oe:Obj}{vs:Array Value}{Q:Unit→Shared→Prop}
 (qJ:A.frames=some (env::outer)) (hl:s.heap.FunFrames base (env::outer)) (hf:env.frame=some L)
 (he:s.heap.get? e=some oe) (hd:oe.data= .fields vs) (h1:vs[1]? =some .none)
 (h:∀h' T,s.heap.objs.size≤T→Iu h' e T (oe.mapFields (·.setIfInBounds 1 (.ref T)))→(∀b o,b≠e→b∉(env::outer).filterMap (·.frame)→s.heap.get? b=some o→h'.get? b=some o)→
  (∀b o,b≠e→s.heap.get? b=some o→∃sl,h'.get? b=some {o with slots:=sl})→Q () {s with heap:=h'}):wpAny M A (leaving env (.ref e)) Q E s:=by
 unfold leaving noteFrame;simp only[hf];refine wpAny_bind (wpAny_bind (wpAny_field he hd h1 ?_));rw[if_neg (by decide)];exact qK qJ hl hf he hd (Array.getElem?_eq_some_iff.mp h1).1 h
theorem Er{base:Heap}{env:Env}{outer:List Env}{L e T:Addr}{oe:Obj}{Q:Unit→Shared→Prop}
 (qJ:A.frames=some (env::outer)) (hl:s.heap.FunFrames base (env::outer)) (hf:env.frame=some L) (ht:Iu s.heap e T oe)
 (h:∀h' T',s.heap.objs.size≤T'→Iu h' e T' (oe.mapFields (·.setIfInBounds 1 (.ref T')))→(∀b o,b≠e→b≠T→b∉(env::outer).filterMap (·.frame)→s.heap.get? b=some o→h'.get? b=some o)→
  (∀b o,b≠e→b≠T→s.heap.get? b=some o→∃sl,h'.get? b=some {o with slots:=sl})→Q () {s with heap:=h'}):wpAny M A (leaving env (.ref e)) Q E s:=by
 obtain⟨he,⟨vs,hd,h1⟩,DV,oT,ts,hT,d_,h3⟩:=ht;unfold leaving noteFrame;simp only[hf];refine wpAny_bind (wpAny_bind (wpAny_field he hd h1 ?_));rw[if_pos (show(Value.ref T !=Value.none)=true from by simp)];refine wpAny_bind (wpAny_field hT d_ h3 ?_);rw[if_neg (show ¬((Value.none==rawInt L)=true) from by simp[rawInt])];refine wpAny_bind (wpAny_setField hT d_ (Array.getElem?_eq_some_iff.mp h3).1 ?_);have other:∀b,b≠T→(s.heap.update T (Obj.mapFields (·.setIfInBounds 3 Value.none))).get? b=s.heap.get? b:=fun b hb=>Heap.get?_update_other _ _ (Ne.symm hb)
 have wF:∀b o,s.heap.get? b=some o→(∀vs,o.data≠.fields vs)→b≠T:=fun b o hb NY q=>by
  rw[q,hT] at hb;injection hb with hb;subst hb;exact NY ts d_
 refine qK qJ (hl.of_keeps fun b o hb NY=>⟨o,(other b (wF b o hb NY)).trans hb,rfl⟩) hf ((other e (Ne.symm DV)).trans he) hd (Array.getElem?_eq_some_iff.mp h1).1
  fun h' T' hn fl k1 k2=>h h' T' ?_ fl (fun b o ym Eo UU hb=>k1 b o ym UU ((other b Eo).trans hb)) fun b o ym Eo hb=>k2 b o ym ((other b Eo).trans hb)
 have GV :(s.heap.update T (Obj.mapFields (·.setIfInBounds 3 Value.none))).objs.size≤T' :=hn;rw[Heap.size_after_update] at GV;exact GV
end
structure gx(bm:aA):Prop where
 hasB:bm.contains (.type "ValueError")=true
 hasBase:bm.contains (.type "BaseException")=true
 noAttr:bm.contains (.type "AttributeError")=false
 noName:bm.contains (.type "NameError")=false
abbrev kG(C t:Addr):Obj:={cls:= .ref C,data:= .fields #[.ref t,.none,.none,.none,.bool false,.none]}
section
variable{prog:Program}{w:World}{A:Around}{E:Value→Shared→Prop}{h:Heap}{g:Array GenState}{d:Drawn}{t:Nat}{os:OsState}
variable{nm q:Str}{C N:Addr}{bs bm:aA}{kI:Bool}{sn:aX}{sub:aA}{ab:Bool}{col:Option Bool}{dd:Option Addr}{k0 k1 k2 k3 k5:aH}
theorem yP{M:Model}(T:gx bm){rest:aA}{Q:Unit→Shared→Prop}(hC:h.get? C=some (excClassObj nm q C N bs bm kI sn sub ab col dd k0 k1 k2 k3 k5 "ValueError.__new__"))
 (hq:Q () ⟨h,g,d,t,os⟩):wpAny M A (checkBuiltinCall "ValueError.__new__" ⟨.ref C::rest,[]⟩) Q E ⟨h,g,d,t,os⟩:=by
 have F:=excBase_ValueError;have acn:(Value.ref C::bm).contains (.type "ValueError")=true:=by rw[List.contains_cons,T.hasB,Bool.or_true]
 have ar9:=F.noStar;simp only[checkBuiltinCall,F.newKind,F.newSplit,F.newRow]
 repeat (first|refine wpAny_loadPart_at hC ?_|(refine wpAny_isSubtype_exc hC ?_;rw[acn])|refine wpAny_staticBase_exc hC ?_|refine wpAny_madeBy_exc hC ?_|simp only[bne_self_eq_false,Bool.false_eq_true,if_false]|wp_step)
 exact hq
theorem AL(T:gx bm){R:Result→Shared→Prop}{rest:aA}(hC:h.get? C=some (excClassObj nm q C N bs bm kI sn sub ab col dd k0 k1 k2 k3 k5 "ValueError.__new__"))
 (hq:R (.ok (.ret (.ref (h.objs.size+1)))) ⟨(h.push {cls:= .type "tuple",data:= .seq rest.toArray}).push (kG C h.objs.size),g,d,t,os⟩) (hrest:rest.length≤sizeLine:=by size_fits):
 codeAny (model prog w) A (.builtin "ValueError.__new__" ⟨.ref C::rest,[]⟩) R ⟨h,g,d,t,os⟩:=by
 have F:=excBase_ValueError;have aqc:=F.ends;have Qe:(Value.ref C::bm).contains (.type "ValueError")=true:=by rw[List.contains_cons,T.hasB,Bool.or_true]
 have hcA:(Value.ref C::bm).contains (.type "AttributeError")=false:=by rw[List.contains_cons,T.noAttr];rfl
 have hcN:(Value.ref C::bm).contains (.type "NameError")=false:=by rw[List.contains_cons,T.noName];rfl
 refine codeAny_builtinAt F.entry ?_;unfold Builtin.«BaseException.__new__»;refine PySem.wpAt_bind ?_;show PySem.wpAt _ _ _ (stack>>= _) _ _ _;refine PySem.wpAt_bind (PySem.wpAt_stack fun p below=>PySem.wpAt_of_wpAny ?_)
 wp_walk
 refine PySem.wpAt_of_wpAny ?_;rw[F.owner]
 repeat (first|with_reducible refine wpAny_madeHere_exc F.canon hC ?_|with_reducible refine wpAny_loadPart_at hC ?_|(with_reducible refine wpAny_isSubtype_exc hC ?_;first|rw[Qe]|rw[hcA]|rw[hcN])|wp_step)
 show R _ _;rw[Heap.size_push];exact hq
theorem zo(T:gx bm){K:Frag}{rest:aA}{fI:Addr}{Q:Fin→Shared→Prop}
 (hC:h.get? C=some (excClassObj nm q C N bs bm kI sn sub ab col dd k0 k1 k2 k3 k5 "ValueError.__new__")) (X:K.In h) (hi:PySem.W.findIn K (.ref C) "__init__"=some (some (.ref fI))) (hf:PySem.W.typeIn K (.ref fI)=some (.type "function"))
 (hq:wpAny (model prog w) A (call (.ref fI) (.ref (h.objs.size+1)::rest)) (fun r s' =>r= .none∧Q (.done (.ret (.ref (h.objs.size+1)))) s') E ⟨(h.push {cls:= .type "tuple",data:= .seq rest.toArray}).push (kG C h.objs.size),g,d,t,os⟩) (hrest:rest.length≤sizeLine:=by size_fits):
 wpAny (model prog w) A (Builtin.«type.__call__» ⟨.ref C::rest,[]⟩) Q E ⟨h,g,d,t,os⟩:=by
 have F:=excBase_ValueError
 repeat (first|with_reducible refine wpAny_loadPart_at hC ?_|with_reducible refine wpAny_madeBy_exc hC ?_|wp_step)
 refine codeAny_call_builtin_code (Code.quiet_builtin _ F.quiet) (yP T hC ?_);refine AL T hC ?_ hrest;show wpAny _ _ _ _ _ _;have hk:∀b o,h.get? b=some o→((h.push {cls:= .type "tuple",data:= .seq rest.toArray}).push (kG C h.objs.size)).get? b=some o:=fun b o e=>Heap.get?_push_of_some _ (Heap.get?_push_of_some _ e);have Zg:=hk _ _ hC;have XE:K.In ((h.push {cls:= .type "tuple",data:= .seq rest.toArray}).push (kG C h.objs.size)):=X.keeps hk;have WB:((h.push {cls:= .type "tuple",data:= .seq rest.toArray}).push (kG C h.objs.size)).get? (h.objs.size+1)=some (kG C h.objs.size):=by heap_get
 have hcC:(Value.ref C::bm).contains (.ref C)=true:=by simp
 unfold isInstance
 repeat (first|with_reducible refine wpAny_loadPart_at WB ?_|(with_reducible refine wpAny_isSubtype_exc Zg ?_;rw[hcC])|wp_step)
 show wpAny _ _ (typeLookup (.ref C) _) _ _ _;refine(looks_findIn XE hi).here ?_;refine wpAny_holding (wpAny_bind ?_);refine(bind_fn XE (.ref (h.objs.size+1)) hf).here ?_;refine wpAny_bind (wpAny_mono hq (fun r s' hr=> ?_) fun _ _ x=>x);obtain⟨rfl,hQ⟩:=hr
 wp_walk
 exact hQ
theorem Ka(T:gx bm){K:Frag}{rest:aA}{fI:Addr}{Q:Value→Shared→Prop}
 (hC:h.get? C=some (excClassObj nm q C N bs bm kI sn sub ab col dd k0 k1 k2 k3 k5 "ValueError.__new__")) (X:K.In h) (hi:PySem.W.findIn K (.ref C) "__init__"=some (some (.ref fI))) (hf:PySem.W.typeIn K (.ref fI)=some (.type "function"))
 (hq:wpAny (model prog w) (A.under (.builtin "type.__call__" ⟨.ref C::rest,[]⟩)) (call (.ref fI) (.ref (h.objs.size+1)::rest)) (fun r s' =>r= .none∧Q (.ref (h.objs.size+1)) s') E ⟨(h.push {cls:= .type "tuple",data:= .seq rest.toArray}).push (kG C h.objs.size),g,d,t,os⟩) (hrest:rest.length≤sizeLine:=by size_fits):
 wpAny (model prog w) A (call (.ref C) rest) Q E ⟨h,g,d,t,os⟩:=by
 have f1:=tc_lookup;have f2:=tc_bind (.ref C);have hT:(⟨h,g,d,t,os⟩:Shared).TypeIs (.ref C) "type":=⟨_,hC,rfl⟩;refine wpAny_call (codeAny_of_tree ?_);show wpAny _ _ (callAny (.ref C) _) _ _ _
 repeat (any_goals (first|assumption|with_reducible refine wpAny_loadPart_at hC ?_|wp_step))
 refine⟨rfl,?_⟩;exact codeAny_call_builtin_at (Code.quiet_builtin _ (by decide+kernel)) entry_typeCall (wpAny_check_type_call_sub hC (zo (hrest:=hrest) T hC X hi hf hq))
end
def cX(a C:Addr)(dd:Option Addr)(n:Bool)(h:Heap):Prop:=∃vs:Array Value,h.get? a=some {cls:= .ref C,dict:=dd,data:= .fields vs}∧vs.size=6∧(n=true→vs[1]? =some .none)
theorem uF{P:Program}{w:World}{H:Hp}{h:Heap}{a C:Addr}{dd:Option Addr}{n:Bool}(p:cX a C dd n h):bq P w H h a (.ext (cX a C dd n)):=by
 obtain⟨vs,e,r⟩:=p;exact⟨⟨vs,e,r⟩,⟨_,e⟩,fun h1 h2 ⟨ws,e1,r1⟩ k=>⟨ws,k _ e1,r1⟩⟩
theorem nT{P:Program}{w:World}{H:Hp}{h:Heap}{a C:Addr}{dd:Option Addr}{n:Bool}(ok:qI P w H h)(e:H a=some (.ext (cX a C dd n))):cX a C dd n h:=
 (show bq P w H h a (.ext (cX a C dd n)) from ok a _ e).1
theorem ub{H:Hp}{a:Addr}{o:HO}(h:H a=some o):upd H a o=H:=by
 funext b
 by_cases hb:b=a
 ·subst hb;rw[ae,h]
 ·rw[af hb]
structure ExcC(K:Frag)(C:Addr):Prop where
 obj:∃nm q N bs bm kI sn sub ab col dd k0 k1 k2 k3 k5,K.lookup C=some (excClassObj nm q C N bs bm kI sn sub ab col dd k0 k1 k2 k3 k5 "ValueError.__new__")∧gx bm
structure xO(K:Frag)(C f:Addr):Prop extends ExcC K C where
 init:PySem.W.findIn K (.ref C) "__init__"=some (some (.ref f))
 fn:PySem.W.typeIn K (.ref f)=some (.type "function")
 kp:PySem.W.keepIn K (.ref C)=true
section
variable{X:Cx}{CX:AS}{k:Nat}{f C:Addr}{fd:FuncData}{ps:aX}{sp:Sp}{E:XK}{x m:Str}{p pos apos:Pos}{e o:Expr}{es:cQ}{ta:TE}{t:TA}
def EA(C:Addr)(sp:Sp)(E:XK)(t:TA):TE:=fun σ H Q=>t σ H fun vs H1=>∀x,H1 x=none→sp (.ref x::vs) (upd H1 x (.ext (cX x C none true))) (fun v H2=>v= .bH∧Q (.ref x) H2) E
theorem G7{pins:aL}{σ:St}{H:Hp}{s:Shared}{Q:VK}{us:aA}{vs:az}(M:xO X.K C f)(F:aV X.prog X.w X.K X.mg X.base CX k f fd ps sp)(hr:eQ (k+1) X.A)(hb:Binds X.K fd ps [])
 (hx:wT CX X E) (I:Inv X pins σ H s) (r:Vals vs us) (Xj:us.length≤100)
 (h:∀x,H x=none→sp (.ref x::vs) (upd H x (.ext (cX x C none true))) (fun v H2=>v= .bH∧Q (.ref x) H2) E):
 wpAny (model X.prog X.w) X.A (call (.ref C) us) (EP X pins σ Q) X.xe s:=by
 have hq:=h (s.heap.objs.size+1) (I.bC.fresh (Nat.le_succ _));obtain⟨nm,q,N,bs,bm,kI,sn,sub,ab,col,dd,k0,k1,k2,k3,k5,lk,T⟩:=M.obj;have hC:=I.lA _ _ lk;have hk:∀b u,s.heap.get? b=some u→((s.heap.push {cls:= .type "tuple",data:= .seq us.toArray}).push (kG C s.heap.objs.size)).get? b=some u:=fun b u e=>Heap.get?_push_of_some _ (Heap.get?_push_of_some _ e);have WB:((s.heap.push {cls:= .type "tuple",data:= .seq us.toArray}).push (kG C s.heap.objs.size)).get? (s.heap.objs.size+1)=some (kG C s.heap.objs.size):=by heap_get
 have I2:Inv X pins σ (upd H (s.heap.objs.size+1) (.ext (cX (s.heap.objs.size+1) C none true))) {s with heap:=(s.heap.push {cls:= .type "tuple",data:= .seq us.toArray}).push (kG C s.heap.objs.size)}:=
  I.laid (t' :=s.toks) hk (Nat.le_succ _) (uF ⟨_,WB,rfl,fun _=>rfl⟩)
 have r2:Vals (V.ref (s.heap.objs.size+1)::vs) (Value.ref (s.heap.objs.size+1)::us):= .cons rfl r
 have hl:(Value.ref (s.heap.objs.size+1)::us++([]:aA)).length=ps.length:=by
  have e:=r2.length;rw[F.len _ _ _ _ hq] at e;rw[List.append_nil];exact e.symm
 obtain⟨hp,g,d,tk,os⟩:=s;refine Ka (hrest:=Nat.le_trans Xj (by decide)) T hC I.lA M.init M.fn (wpAny_call (codeAny_mono (F.run _ X.stack _ _ ⟨Value.ref (hp.objs.size+1)::us,[]⟩ (Value.ref (hp.objs.size+1)::us) _ _ E (hr.make C us []) (I2.PZ.make C us []) ?_ r2 hq) fun r s' Le => ?_))
 ·have:=hb _ (Value.ref (hp.objs.size+1)::us) I2.lA hl;rw[List.append_nil] at this;exact this
 ·cases r with
  |error e=>exact hx pins σ _ _ e s' I2 Le
  |ok fl=>
   cases fl with
   |ret u=>
    obtain⟨v,H',I3,rv,ev,q3⟩:=I2.after Le;subst ev;exact⟨rv,⟨V.ref (hp.objs.size+1),H',I3,rfl,q3⟩⟩
   |next=>exact False.elim Le
   |brk=>exact False.elim Le
   |cont=>exact False.elim Le
theorem tZ(M:xO X.K C f)(F:aV X.prog X.w X.K X.mg X.base CX k f fd ps sp)(hr:eQ (k+1) X.A)(hg:Gl X x)(hm:X.mg x=some (.ref C))(hb:Binds X.K fd ps [])(hx:wT CX X E)
 (ha:PA X (e::es) t) (hlen:∀vs H Q E,sp vs H Q E→vs.length≤100) (BU:(x==("__debug__" :Str))=false:=by decide) (he:starEach (e::es) X.env=(false,eval e X.env)::starEach es X.env:=by rfl) (rR:(backTo pos (starEach es X.env)).any (·.1)=false:=by rfl):
 PE X (.Call (.Name x p) (e::es) [] pos) (EA C sp E t):=by
 intro pins s σ H Q I h;refine wpAny_Call_Name_kw (nE I hg hm ?_ BU);refine callWith_K (h₀:=X.base) I.ok.mod.NV M.kp (ck (ha pos pins s σ H _ I h) fun us s1 ⟨vs,H1,I1,r,q⟩=>⟨I1.lA,?_⟩) he rR;refine G7 M F hr hb hx I1 r ?_ q;have h1:=hlen _ _ _ _ (q _ (I1.bC.fresh (Nat.le_refl _)));have h2:=r.length;rw[List.length_cons] at h1;rw[List.nil_append]
 lia
end
theorem Ez(K:Frag):PySem.W.findCls K (.type "ValueError") (.type "type") "__init__"=some (.val (.builtin "ValueError.__init__")):=by kernel_rfl
section
variable{prog:Program}{w:World}{A:Around}{E:Value→Shared→Prop}{h:Heap}{g:Array GenState}{d:Drawn}{t:Nat}{os:OsState}
variable{nm q:Str}{C N:Addr}{bs bm:aA}{kI:Bool}{sn:aX}{sub:aA}{ab:Bool}{col:Option Bool}{dd:Option Addr}{k0 k1 k2 k3 k5:aH}
theorem yj{M:Model}(T:gx bm){e:Addr}{oe:Obj}{rest:aA}{Q:Unit→Shared→Prop}
 (hC:h.get? C=some (excClassObj nm q C N bs bm kI sn sub ab col dd k0 k1 k2 k3 k5 "ValueError.__new__")) (he:h.get? e=some oe) (AK:oe.cls= .ref C) (hq:Q () ⟨h,g,d,t,os⟩):
 wpAny M A (checkBuiltinCall "ValueError.__init__" ⟨.ref e::rest,[]⟩) Q E ⟨h,g,d,t,os⟩:=by
 have F:=excBase_ValueError;have Qe:(Value.ref C::bm).contains (.type "ValueError")=true:=by rw[List.contains_cons,T.hasB,Bool.or_true]
 have amu:=F.noStar;simp only[checkBuiltinCall,F.initKind,F.initSplit,F.initRow]
 repeat (first|(with_reducible refine wpAny_loadPart_at he ?_;rw[AK])|with_reducible refine wpAny_loadPart_at hC ?_|(with_reducible refine wpAny_isSubtype_exc hC ?_;rw[Qe])|wp_step)
 refine wpAny_onRaise ?_
 rw[show ∀(a b:String) (n:Nat),Bind.check ⟨.positional,"*","ValueError",.self,[⟨"args",.varPos,false⟩]⟩ a b n (List.map (fun x=>x.fst) ({pos:=Value.ref e::rest}:Args).kw)=pure () from
  fun a b n=>check_star_args _ _ _ _ _ _]
 exact wpAny_pure hq
theorem HW(T:gx bm){e:Addr}{vs:Array Value}{de:Option Addr}{x:Value}{Q:Value→Shared→Prop}
 (hC:h.get? C=some (excClassObj nm q C N bs bm kI sn sub ab col dd k0 k1 k2 k3 k5 "ValueError.__new__")) (he:h.get? e=some {cls:= .ref C,dict:=de,data:= .fields vs}) (hv:vs.size=6)
 (hq:∀h' T',h.get? T' =none→(∀b o,b≠e→h.get? b=some o→h'.get? b=some o)→h'.get? e=some {cls:= .ref C,dict:=de,data:= .fields (vs.setIfInBounds 0 (.ref T'))}→Q .none ⟨h',g,d,t,os⟩):
 wpAny (model prog w) A (call (.builtin "ValueError.__init__") [.ref e,x]) Q E ⟨h,g,d,t,os⟩:=by
 have F:=excBase_ValueError;have hsz:0<vs.size:=by lia
 refine wpAny_call (codeAny_call_builtin F.init.plain F.initEntry (yj T hC he rfl ?_));unfold Builtin.«BaseException.__init__»
 wp_walk
 have h0:vs[0]? =some vs[0]:=Array.getElem?_eq_getElem hsz;rw[h0];have he2:=Heap.get?_push_of_some {cls:= .type "tuple",data:= .seq #[x]} he
 have fin:Q .none ⟨(h.push {cls:= .type "tuple",data:= .seq #[x]}).update e (Obj.mapFields (·.setIfInBounds 0 (.ref h.objs.size))),g,d,t,os⟩:=by
  refine hq _ h.objs.size (Heap.get?_none_of_le (Nat.le_refl _)) (fun b o hb e' => ?_) ?_
  ·rw[Heap.get?_update_other _ _ (Ne.symm hb)];exact Heap.get?_push_of_some _ e'
  ·exact Heap.get?_update_self _ he2 rfl
 generalize vs[0]=v0;refine wpAny_pure ?_;refine wpAny_bind (wpAny_setField he2 rfl hsz ?_)
 cases v0 with
 |ref a=>exact wpAny_letGo (wpAny_pure fin)
 |_=>exact wpAny_pure (wpAny_pure fin)
end
section
variable{X:Cx}{p pos apos:Pos}{e1 e2:Expr}{t:TA}
def WH(K:Frag)(t:TA):TE:=fun σ H Q=>t σ H fun vs H1=>∃a C dd n x,vs=[.ref a,x]∧H1 a=some (.ext (cX a C dd n))∧ExcC K C∧Q .bH H1
theorem LQ{pl:Sem Bool}(hg:Gl X "ValueError")(hm:X.mg "ValueError"=none)(ha:PA X [e1,e2] t)
 (fE:starEach [e1,e2] X.env=(false,eval e1 X.env)::starEach [e2] X.env:=by rfl) (rR:(backTo pos (starEach [e2] X.env)).any (·.1)=false:=by rfl)
 (ht:eval (.Call (.Attribute (.Name "ValueError" p) "__init__" apos) [e1,e2] [] pos) X.env=(do
  let ov←eval (.Name "ValueError" p) X.env
  standAt apos.atName
  let(f,first)←holding [ov] (getMethod ov "__init__" pl)
  callWith pos f first (backTo pos (starEach [e1,e2] X.env)) (backToKw pos (keywordEach [] X.env))):=by rfl):
 PE X (.Call (.Attribute (.Name "ValueError" p) "__init__" apos) [e1,e2] [] pos) (WH X.K t):=by
 intro pins s σ H Q I h;refine methodCall_KW (pl:=pl) (oS I hg hm Boot.«ValueError» ?_) ht;obtain⟨m,F⟩:=I.fr;refine PySem.W.method_type F I.mod.NV (by kernel_rfl) (by decide+kernel) (Ez X.K) (by decide+kernel) ?_;refine PyProof.Rows.callWith_builtin1 (ck (ha pos pins _ σ H _ (I.tok _) h) fun us s1 ⟨vs,H1,I1,r1,q1⟩=> ?_) fE rR;obtain⟨a,C,dd,n,x,rfl,hx,hc,q⟩:=q1
 cases r1 with
 |cons r rr=>
  cases rr with
  |cons r' rr=>
   cases rr;cases r;obtain⟨nm,q',N,bs,bm,kI,sn,sub,ab,col,Ek,k0,k1,k2,k3,k5,lk,T⟩:=hc.obj;obtain⟨ws,he,hw,hn⟩:=nT I1.bC hx;obtain⟨hp,g,d,tk,os⟩:=s1;refine HW T (I1.lA _ _ lk) he hw fun h' T' hT k he' =>⟨.bH,H1,?_,rfl,q⟩;have I2:=I1.write (h' :=h') (t' :=tk) (x:=a) (e:=a) (o:= .ext (cX a C dd n)) (by rw[hx];exact True.intro) (.inl rfl) k ⟨_,he'⟩ (uF ⟨_,he',by simp[hw],fun z=>by rw[Array.getElem?_setIfInBounds_ne (by decide)];exact hn z⟩);rw[ub hx] at I2;exact I2
end
end L2
namespace L2
open PySem PySem.Spec PyProof.Rows PySem.Builtin.ObjectAttr
theorem AF(self:Value):refuseLoop self "__setattr__" [.type "ValueError",.type "Exception",.type "BaseException",.type "object"]=pure ():=by kernel_rfl
section
variable{prog:Program}{w:World}{A:Around}{E:Value→Shared→Prop}{h:Heap}{g:Array GenState}{d:Drawn}{t:Nat}{os:OsState}
variable{nm q:Str}{C N x:Addr}{bs bm:aA}{sn:aX}{sub:aA}{ab:Bool}{col:Option Bool}{dd:Option Addr}{k0 k1 k2 k3 k5:aH}{newId:String}
 {mA:Str→aH} {name:Str} {v:Value} {K:Frag}
theorem BJ{M:Model}{o:Obj}{QK:Value}{Q:Unit→Shared→Prop}(X6:bm.contains (.type "object")=true)
 (hC:h.get? C=some (excClassObj nm q C N bs bm true sn sub ab col dd k0 k1 k2 k3 k5 newId)) (hx:h.get? x=some o) (hc:o.cls= .ref C) (hq:Q () ⟨h,g,d,t,os⟩):
 wpAny M A (checkBuiltinCall "object.__setattr__" ⟨[.ref x,QK,v],[]⟩) Q E ⟨h,g,d,t,os⟩:=by
 have SF:=PySem.F.store_object;have Qe:(Value.ref C::bm).contains (.type "object")=true:=by rw[List.contains_cons,X6,Bool.or_true]
 have ha:=SF.args (.ref x) QK v;simp only[checkBuiltinCall,SF.kind,SF.split];refine wpAny_bind ?_
 ·unfold isInstance
  repeat (first|(with_reducible refine wpAny_loadPart_at hx ?_;rw[hc])|(with_reducible refine wpAny_isSubtype_exc hC ?_;rw[Qe])|wp_step)
  exact hq
theorem vV{tk:Tok}{Q:Fin→Shared→Prop}{ns:aX}(Cs:∀self,refuseLoop self "__setattr__" bm=pure ())(X:K.In h)(hna:PySem.W.findIn K (.ref C) name=some none)
 (hC:h.get? C=some (excClassObj nm q C N bs bm true sn sub ab col dd k0 k1 k2 k3 k5 newId)) (I:h.Inst x C mA)
 (hq:∀h' DT,h'.Inst x C (fun y=>if y=name then some v else mA y)→
  (∀b o,b≠x→(∀kq dx,h.get? x=some kq→kq.dict=some dx→b≠dx)→h.get? b=some o→h'.get? b=some o)→
  (∀kq,h.get? x=some kq→∃uC,h'.get? x=some uC∧uC.cls=kq.cls∧uC.data=kq.data∧uC.slots=kq.slots∧(∀dx,kq.dict=some dx→uC.dict=some dx)∧(kq.dict=none→∃dx,uC.dict=some dx∧h.objs.size≤dx))→Q (.done (.ret .none)) ⟨h',g,d,DT,os⟩) (hw:Within mA ns) (hsz:ns.length≤1000):
 wpAny (model prog w) A (Builtin.«object.__setattr__» ⟨[.ref x,.str name tk,v],[]⟩) Q E ⟨h,g,d,t,os⟩:=by
 obtain⟨o,hx,hc,hnc,hd⟩:=I;have Cs:=Cs (.ref x);unfold Builtin.«object.__setattr__»
 repeat (first|rw[refuse_eq]|(rw[refuseLoop_ref,Cs])|(with_reducible refine wpAny_loadPart_at hx ?_;rw[hc])|with_reducible refine wpAny_mroOf_exc hC ?_|(with_reducible refine(looks_findIn X hna).here ?_)|wp_step)
 rcases hd with⟨hdn,hmA⟩|⟨dx,Cq,jA,hns⟩
 ·
  rw[hdn,if_neg (by simp[typeHasDict])]
  split
  ·rename_i zF;cases zF
  split
  ·rename_i c zF;exact absurd zF (hnc c)
  ·have QZ:(h.push {cls:= .type "dict",data:= .dict #[]}).get? x=some o:=Heap.get?_push_of_some _ hx;have hxs:x≠h.objs.size:=Nat.ne_of_lt (Heap.lt_size hx);refine wpAny_bind (wpAny_alloc' ?_);refine wpAny_bind (wpAny_update' QZ ?_);refine wpAny_pure ?_
   have BS:((h.push {cls:= .type "dict",data:= .dict #[]}).update x fun o=>{cls:=o.cls,dict:=some h.objs.size,data:=o.data,slots:=o.slots}).get? h.objs.size
    =some {cls:= .type "dict",data:= .dict #[]}:=
    (Heap.get?_update_ne _ _ _ _ hxs.symm).trans (Heap.get?_push_at rfl rfl)
   have RI:((h.push {cls:= .type "dict",data:= .dict #[]}).update x fun o=>{cls:=o.cls,dict:=some h.objs.size,data:=o.data,slots:=o.slots}).Ns h.objs.size (fun _=>none):=
    ⟨_,#[],_,BS,rfl,fun e he=>absurd he (by simp),fun _=>rfl⟩
   show wpAny _ _ (storeInDict h.objs.size (.str name tk) name v) _ _ _;unfold storeInDict newKeyGuard;refine wpAny_bind (wpAny_pure (wpAny_bind (wpAny_nsSet1 (Heap.Ns1.of_empty RI) fun h' GV hs=> ?_)));obtain⟨oD,esD,epD,hoD,X1,Ze⟩:=GV.count (Within.cons name v Within.nil);refine wpAny_bind (wpAny_lookBehind hoD (by rw[X1];exact pastItsLine_dict (Nat.le_trans Ze (by rw[List.length_cons,List.length_nil,sizeLine_eq];lia))) ?_)
   wp_walk
   have T3 :h'.get? x=some {cls:=o.cls,dict:=some h.objs.size,data:=o.data,slots:=o.slots}:= ?_
   refine hq h' _ ⟨{cls:=o.cls,dict:=some h.objs.size,data:=o.data,slots:=o.slots},T3,hc,hnc,.inr ⟨h.objs.size,rfl,hxs.symm,?_⟩⟩ (fun b ob Vv _ hb=> ?_)
    (fun kq h₀=>by obtain rfl:o=kq:=Option.some.inj (hx.symm.trans h₀);exact⟨_,T3,rfl,rfl,rfl,(fun dx e=>by rw[hdn] at e;cases e),fun _=>⟨_,rfl,Nat.le_refl _⟩⟩)
   ·obtain⟨o',es,ep,e1,e2,e3,eu,e4⟩:=GV;exact⟨o',es,ep,e1,e2,e3,eu,fun y=>by rw[e4 y];by_cases hy:y=name<;>simp[hy,hmA]⟩
   ·exact(hs.2 b (Nat.ne_of_lt (Heap.lt_size hb))).trans ((Heap.get?_update_ne _ _ _ _ Vv).trans (Heap.get?_push_of_some _ hb))
   ·refine(hs.2 x hxs).trans (Heap.get?_update_self _ QZ ?_);have qJ:=(Heap.get?_some_iff.mp hx).2;obtain⟨oc,od,odt,IF⟩:=o;cases odt<;>first|rfl|exact qJ
 ·
  rw[Cq];refine wpAny_pure ?_;show wpAny _ _ (storeInDict dx (.str name tk) name v) _ _ _;unfold storeInDict newKeyGuard;refine wpAny_bind (wpAny_pure (wpAny_bind (wpAny_nsSet1 hns fun h' GV hs=> ?_)));obtain⟨oD,esD,epD,hoD,X1,Ze⟩:=GV.count (Within.cons name v hw);refine wpAny_bind (wpAny_lookBehind hoD (by rw[X1];exact pastItsLine_dict (Nat.le_trans Ze (by rw[List.length_cons,sizeLine_eq];lia))) ?_)
  wp_walk
  refine hq h' _ ⟨o,(hs.2 x jA.symm).trans hx,hc,hnc,.inr ⟨dx,Cq,jA,GV⟩⟩ (fun b ob _ hbd hb=> ?_)
   (fun kq h₀=>⟨kq,(hs.2 x jA.symm).trans h₀,rfl,rfl,rfl,(fun _ e=>e),fun e=>by obtain rfl:o=kq:=Option.some.inj (hx.symm.trans h₀);rw[Cq] at e;cases e⟩)
  exact(hs.2 b (hbd o dx hx Cq)).trans hb
theorem Ai{Q:Unit→Shared→Prop}{ns:aX}(Cs:∀self,refuseLoop self "__setattr__" bm=pure ())(X6:bm.contains (.type "object")=true)(X:K.In h)
 (hs:PySem.W.findIn K (.ref C) "__setattr__"=some (some (.builtin "object.__setattr__"))) (hna:PySem.W.findIn K (.ref C) name=some none)
 (hC:h.get? C=some (excClassObj nm q C N bs bm true sn sub ab col dd k0 k1 k2 k3 k5 newId)) (I:h.Inst x C mA)
 (hq:∀h' DT,h'.Inst x C (fun y=>if y=name then some v else mA y)→
  (∀b o,b≠x→(∀kq dx,h.get? x=some kq→kq.dict=some dx→b≠dx)→h.get? b=some o→h'.get? b=some o)→
  (∀kq,h.get? x=some kq→∃uC,h'.get? x=some uC∧uC.cls=kq.cls∧uC.data=kq.data∧uC.slots=kq.slots∧(∀dx,kq.dict=some dx→uC.dict=some dx)∧(kq.dict=none→∃dx,uC.dict=some dx∧h.objs.size≤dx))→Q () ⟨h',g,d,DT,os⟩) (hw:Within mA ns) (hsz:ns.length≤1000):
 wpAny (model prog w) A (setAttr (.ref x) name v) Q E ⟨h,g,d,t,os⟩:=by
 obtain⟨o,hx,hc,hnc,hd⟩:=id I
 have J:∃od,PySem.W.InstAt h x o C od:=by
  rcases hd with⟨hdn,_⟩|⟨dx,Cq,_,oD,es,ep,h1,_⟩
  ·exact⟨none,hx,hc,by cases e:o.data<;>simp_all[notCls],by rw[hdn];trivial⟩
  ·exact⟨some oD,hx,hc,by cases e:o.data<;>simp_all[notCls],by rw[Cq];exact h1⟩
 obtain⟨od,J⟩:=J;refine set_plain (s:=⟨h,g,d,t,os⟩) X J hs ?_;exact codeAny_call_builtin PySem.F.store_object.slot.plain PySem.F.store_object.entry (BJ X6 hC hx hc (vV Cs X hna hC I (fun h' DT a b c=>hq h' DT a b c) hw hsz))
end
structure DC(K:Frag)(C:Addr):Prop where
 obj:∃nm q N bs bm sn sub ab col dd k0 k1 k2 k3 k5,K.lookup C=some (excClassObj nm q C N bs bm true sn sub ab col dd k0 k1 k2 k3 k5 "ValueError.__new__")∧(∀self,refuseLoop self "__setattr__" bm=pure ())∧bm.contains (.type "object")=true
 sa:PySem.W.findIn K (.ref C) "__setattr__"=some (some (.builtin "object.__setattr__"))
section
variable{X:Cx}{pins:aL}{σ:St}{H:Hp}{s:Shared}{a C:Addr}{n:Bool}{f:Str}{y:V}{u:Value}{A:Around}{E:Value→Shared→Prop}
theorem EI{fs:iM}{mA:Str→aH}(r:∀f,lB (fs.lookup f) (mA f)):PySem.Within mA (fs.map (·.1)):=by
 intro g hg;have:=r g
 cases e:fs.lookup g with
 |none=>rw[e] at this;cases q:mA g with
  |none=>rw[q] at hg;simp at hg
  |some v=>rw[q] at this;cases this
 |some v=>
  obtain⟨l1,l2,h1,_⟩:=List.lookup_eq_some_iff.mp e;rw[h1];simp
theorem Inv.two{h' :Heap}{t' :Nat}{dx:Addr}{o1 o2:HO}{φ:Heap→Prop}(I:Inv X pins σ H s)(e:H a=some (.ext φ))(IC:(∀xs,H dx≠some (.tup xs))∧(∀y,H dx≠some (.own y))∧(∀o u,H dx≠some (.gE o u))∧∀ps,H dx≠some (.Qu ps))(hd2:H dx=none→s.heap.objs.size≤dx)(jA:dx≠a)
 (k:∀b o,b≠a→b≠dx→s.heap.get? b=some o→h'.get? b=some o) (ha:∃o,h'.get? a=some o) (hx:∃o,h'.get? dx=some o)
 (n1:bq X.prog X.w (upd (upd H a o1) dx o2) h' a o1) (n2:bq X.prog X.w (upd (upd H a o1) dx o2) h' dx o2):Inv X pins σ (upd (upd H a o1) dx o2) {s with heap:=h',toks:=t'}:=by
 have na:∀b,H b=none→b≠a:=fun b q z=>by rw[z,e] at q;cases q
 have nd:∀b o,s.heap.get? b=some o→H b=none→b≠dx:=fun b o q q' z=>by
  subst z;exact absurd (Nat.lt_of_lt_of_le (Heap.lt_size q) (hd2 q')) (Nat.lt_irrefl _)
 have Xc:∀b,b≠a→b≠dx→upd (upd H a o1) dx o2 b=H b:=fun b h1 h2=>by rw[af h2,af h1]
 refine I.step (g' :=s.gens) (d' :=s.drawn) (ch:=[]) (fun _ z=>nomatch z) (fun b o _ _ _ q n=>k b o (na b n) (nd b o q n) q) (fun b o _ _ _ q n=>⟨o.slots,k b o (na b n) (nd b o q n) q⟩) (fun b o _ q n=>by rw[Xc b (na b n) (nd b o q n)];exact n)
  (fun b o _ q=> ?_) (fun b xs q=> ?_) (fun b o u q=> ?_) (fun b ps q=>⟨#[],?_⟩) (fun m hm=> ?_) (fun b u q=> ?_) I.bare
 ·by_cases h1:b=a
  ·rw[h1];exact ha
  ·by_cases h2:b=dx
   ·rw[h2];exact hx
   ·exact⟨o,k b o h1 h2 q⟩
 ·rw[Xc b (fun z=>by rw[z,e] at q;cases q) (fun z=>IC.1 xs (by rw[←z];exact q))];exact q
 ·rw[Xc b (fun z=>by rw[z,e] at q;cases q) (fun z=>IC.2.2.1 o u (by rw[←z];exact q))];exact q
 ·rw[Xc b (fun z=>by rw[z,e] at q;cases q) (fun z=>IC.2.2.2 ps (by rw[←z];exact q)),q];simp
 ·obtain⟨o,es,ep,q,r⟩:=hm;exact⟨o,es,ep,k _ o (na _ I.free) (nd _ o q I.free) q,r⟩
 ·by_cases h2:b=dx
  ·subst h2;rw[ae] at q;cases q;exact n2
  ·rw[af h2] at q;by_cases h1:b=a
   ·subst h1;rw[ae] at q;cases q;exact n1
   ·rw[af h1] at q;refine(I.bC b u q).qQ (fun c v hc q' =>k c v ?_ ?_ q') (fun c q' => ?_) fun c ys q' => ?_
    ·rcases hc with z|z
     ·rw[z];exact h1
     ·exact fun z' =>by rw[z',e] at z;cases z
    ·rcases hc with z|z
     ·rw[z];exact h2
     ·exact fun z' =>IC.2.1 b (by rw[←z'];exact z)
    ·rw[Xc c (fun z=>by rw[z,e] at q';cases q') (fun z=>IC.2.1 b (by rw[←z];exact q'))];exact q'
    ·rw[Xc c (fun z=>by rw[z,e] at q';cases q') (fun z=>IC.1 ys (by rw[←z];exact q'))];exact q'
theorem FN{fs:iM}{mA:Str→aH}(r:∀f,lB (fs.lookup f) (mA f))(ry:RelV y u):∀g,lB ((cq f y fs).lookup g) (if g=f then some u else mA g):=fun g=>by
 rw[aJ];by_cases h:g=f
 ·rw[if_pos h,if_pos h];exact ry
 ·rw[if_neg h,if_neg h];exact r g
theorem D8{Q:Unit→Shared→Prop}(I:Inv X pins σ H s)(e:H a=some (.ext (cX a C none n)))(c:DC X.K C)(na:cP X.K C f)(ry:RelV y u)
 (h:∀dx s',H dx=none→dx≠a→Inv X pins σ (upd (upd H a (.ext (cX a C (some dx) n))) dx (.xd [(f,y)])) s'→Q () s'):wpAny (model X.prog X.w) A (setAttr (.ref a) f u) Q E s:=by
 obtain⟨nm,q,N,bs,bm,sn,sub,ab,col,dd,k0,k1,k2,k3,k5,lk,hp,ho⟩:=c.obj;obtain⟨vs,he,hv,hn⟩:=nT I.bC e;have hC:=I.lA _ _ lk;have I0:=I;obtain⟨hh,g,d,tk,os⟩:=s;refine Ai (mA:=fun _=>none) (ns:=[]) hp ho I.lA c.sa na hC ⟨_,he,rfl,(fun c z=>by cases z),.inl ⟨rfl,fun _=>rfl⟩⟩ (fun h' DT inst kk same=> ?_) (fun g hg=>by simp at hg) (by simp);obtain⟨o1,e1,ec,ed,es,_,ain⟩:=same _ he;obtain⟨dx,ex,Cq⟩:=ain rfl;obtain⟨o2,e2,_,_,hd2⟩:=inst;rw[e1] at e2;cases e2;rcases hd2 with⟨z,_⟩|⟨d',zt,ne',ns'⟩
 ·rw[ex] at z;cases z
 rw[ex] at zt;cases zt;have IP:H dx=none:=I0.bC.fresh Cq
 have eo:o1={cls:= .ref C,dict:=some dx,data:= .fields vs}:=by
  obtain⟨oc,od,odt,IF⟩:=o1;simp only at ec ed es ex;subst ec ed es ex;rfl
 rw[eo] at e1;refine h dx _ IP ne' (I0.two (t' :=DT) e ⟨(fun xs z=>by rw[IP] at z;cases z),(fun y z=>by rw[IP] at z;cases z),(fun o u z=>by rw[IP] at z;cases z),(fun ps z=>by rw[IP] at z;cases z)⟩ (fun _=>Cq) ne' (fun b o hb _ q=>kk b o hb (fun o0 dx0 h0 h1=>by rw[he] at h0;cases h0;cases h1) q) ⟨_,e1⟩ (let⟨o,_,_,h1,_⟩:=ns';⟨o,h1⟩) (uF ⟨vs,e1,hv,hn⟩) ⟨_,ns',?_⟩);exact FN (fs:=[]) (fun _=>trivial) ry
theorem D0{dx:Addr}{fs:iM}{Q:Unit→Shared→Prop}(I:Inv X pins σ H s)(e:H a=some (.ext (cX a C (some dx) n)))(ed:H dx=some (.xd fs))(jA:dx≠a)(hl:fs.length≤900)(c:DC X.K C)(na:cP X.K C f)(ry:RelV y u)
 (h:∀s',Inv X pins σ (upd H dx (.xd (cq f y fs))) s'→Q () s'):wpAny (model X.prog X.w) A (setAttr (.ref a) f u) Q E s:=by
 obtain⟨nm,q,N,bs,bm,sn,sub,ab,col,dd,k0,k1,k2,k3,k5,lk,hp,ho⟩:=c.obj;obtain⟨vs,he,hv,hn⟩:=nT I.bC e;obtain⟨mA,ns,r⟩:=(show bq X.prog X.w H s.heap dx (.xd fs) from I.bC dx _ ed);have hC:=I.lA _ _ lk;have I0:=I;obtain⟨hh,g,d,tk,os⟩:=s;refine Ai (mA:=mA) (ns:=fs.map (·.1)) hp ho I.lA c.sa na hC ⟨_,he,rfl,(fun c z=>by cases z),.inr ⟨dx,rfl,jA,ns⟩⟩ (fun h' DT inst kk same=> ?_) (EI r) (by rw[List.length_map];lia);obtain⟨o1,e1,ec,edt,es,aej,_⟩:=same _ he;have ex:=aej dx rfl;obtain⟨o2,e2,_,_,hd2⟩:=inst;rw[e1] at e2;cases e2;rcases hd2 with⟨z,_⟩|⟨d',zt,ne',ns'⟩
 ·rw[ex] at z;cases z
 rw[ex] at zt;cases zt
 have eo:o1={cls:= .ref C,dict:=some dx,data:= .fields vs}:=by
  obtain⟨oc,od,odt,IF⟩:=o1;simp only at ec edt es ex;subst ec edt es ex;rfl
 rw[eo] at e1;have I2:=I0.two (t' :=DT) (o1:= .ext (cX a C (some dx) n)) (o2:= .xd (cq f y fs)) e ⟨(fun xs z=>by rw[ed] at z;cases z),(fun y z=>by rw[ed] at z;cases z),(fun o u z=>by rw[ed] at z;cases z),(fun ps z=>by rw[ed] at z;cases z)⟩ (fun z=>by rw[ed] at z;cases z) jA (fun b o hb hb2 q=>kk b o hb (fun o0 dx0 h0 h1=>by rw[he] at h0;cases h0;cases h1;exact hb2) q) ⟨_,e1⟩ (let⟨o,_,_,h1,_⟩:=ns';⟨o,h1⟩) (uF ⟨vs,e1,hv,hn⟩) ⟨_,ns',FN r ry⟩;rw[ub e] at I2;exact h _ I2
end
section
variable{X:Cx}{o value:Expr}{f:Str}{pos pos' :Pos}{ta tv:TE}
def X5(K:Frag)(ta tv:TE)(f:Str):TS:=fun D σ H=>tv σ H fun y H1=>ta σ H1 fun x H2=>∃a C n,x= .ref a∧DC K C∧cP K C f∧
 ((H2 a=some (.ext (cX a C none n))∧∀dx,H2 dx=none→dx≠a→D.nx σ (upd (upd H2 a (.ext (cX a C (some dx) n))) dx (.xd [(f,y)])))∨
  ∃dx fs,H2 a=some (.ext (cX a C (some dx) n))∧H2 dx=some (.xd fs)∧dx≠a∧fs.length≤900∧D.nx σ (upd H2 dx (.xd (cq f y fs))))
theorem tm(ha:PE X o ta)(hv:PE X value tv)(hs:swapsWith value (some (.Attribute o f pos')) pos.line X.env=pure false):PS X (.Assign [.Attribute o f pos'] value pos) (X5 X.K ta tv f):=by
 intro pins s σ H D I h;refine plainObj_wpAny_Assign_Attribute (ck (hv pins s σ H _ I h) fun u s1 ⟨y,H1,I1,ry,q⟩=>ck (ha pins s1 σ H1 _ I1 q) fun ov s2 ⟨x,H2,I2,rx,a,C,n,ex,c,na,q2⟩=> ?_) hs;subst ex;obtain rfl:ov=Value.ref a:=rx;rcases q2 with⟨e,q3⟩|⟨dx,fs,e,ed,ne,hl,q3⟩
 ·exact D8 I2 e c na ry fun dx s3 hn ne I3=>⟨σ,_,I3,q3 dx hn ne⟩
 ·exact D0 I2 e ed ne hl c na ry fun s3 I3=>⟨σ,_,I3,q3⟩
end
end L2
namespace L2
open PySem PySem.Spec PyProof.Rows PySem.Builtin.ObjectAttr
section
variable{prog:Program}{w:World}{A:Around}{E:Value→Shared→Prop}{s:Shared}{K:Frag}{x C:Addr}{ox:Obj}{od:Option Obj}{name:Str}{expr:Bool}{Q:Value→Shared→Prop}{v:Value}
theorem CN(X:K.In s.heap)(I:PySem.W.InstAt s.heap x ox C od)(hga:PySem.W.findIn K (.ref C) "__getattribute__"=some (some (.builtin "BaseException.__getattribute__")))(hhk:PySem.W.findIn K (.ref C) "__getattr__"=some none)
 (hm:PySem.W.mroIn K C (.type "BaseException")=some true) (hf:PySem.W.findObj K C od name=some (.value v)) (hh:handedIn v=true) (h:Q v {s with toks:=s.toks+1}):
 wpAny (model prog w) A (getAttr (.ref x) name expr) Q E s:=by
 have ht:=I.type (M:=model prog w);refine wpAny_bind (wpAny_mkText (wpAny_holding (wpAny_bind (ht _ _ _ _ (fun _ _ e=>e) (wpAny_bind (looks_findIn X hga _ _ _ _ (fun _ _ e=>e) ?_))))));dsimp only;rw[show(onTheHeap (Value.ref C)&&Value.builtin "BaseException.__getattribute__" ==Value.builtin "object.__getattribute__")=false from by rw[show(Value.builtin "BaseException.__getattribute__" ==Value.builtin "object.__getattribute__")=false from by decide+kernel,Bool.and_false],if_neg (by decide)];have hb:PySem.W.Looks (model prog w) s.heap (hookBefore (.ref C)) none:=PySem.W.looks_hook X (by show(if onTheHeap (Value.ref C)=true then _ else _)=_;exact hhk);refine wpAny_bind (hb _ _ _ _ (fun _ _ e=>e) (wpAny_bind (wpAny_attempt (wpAny_holding ?_))));unfold callGetattribute;rw[show(expr&&onTheHeap (Value.builtin "BaseException.__getattribute__"))=false from Bool.and_false _,if_neg (by decide)];unfold boundAndCalled;rw[PySem.F.attr_ValueError.ga.bind];refine wpAny_bind (wpAny_pure ?_);show wpAny _ _ (call (.builtin "BaseException.__getattribute__") [.ref x,.str name s.toks]) _ _ _;refine wpAny_call ?_;refine codeAny_call_builtin PySem.F.attr_ValueError.ga.plain PySem.F.entry_bexc_ga ?_;refine @PySem.W.check_slot (model prog w) _ _ {s with toks:=s.toks+1} "BaseException.__getattribute__" "BaseException" "__getattribute__" (.ref x) [.str name s.toks] [] _ (by decide+kernel) (by decide+kernel) (ht.andThen (PySem.W.looks_mroIn X hm)) (PySem.F.args_bexc_ga (.ref x) (.str name s.toks)) ?_;unfold Builtin.«object.__getattribute__»;refine wpAny_bind (wpAny_pure ?_);refine wpAny_bind (wpAny_pure ?_);refine wpAny_bind (ht _ _ _ _ (fun _ _ e=>e) ?_);refine wpAny_bind (PySem.W.looks_find X I hf _ _ _ _ (fun _ _ e=>e) ?_);refine wpAny_pure ?_;show wpAny _ _ (handedOut v) _ _ _;rw[PySem.W.handedOut_of hh];exact wpAny_pure h
end
structure ET(K:Frag)(C:Addr):Prop where
 ga:PySem.W.findIn K (.ref C) "__getattribute__"=some (some (.builtin "BaseException.__getattribute__"))
 hk:PySem.W.findIn K (.ref C) "__getattr__"=some none
 mro:PySem.W.mroIn K C (.type "BaseException")=some true
 hd:PySem.W.hasDictIn K C=true
section
variable{X:Cx}{e:Expr}{f:Str}{pos:Pos}{ta:TE}
theorem Hi{pins:aL}{σ:St}{H:Hp}{s:Shared}{a C dx:Addr}{n b:Bool}{fs:iM}{v:V}{A:Around}{E:Value→Shared→Prop}{Q:Value→Shared→Prop}(I:Inv X pins σ H s)(e:H a=some (.ext (cX a C (some dx) n)))(ed:H dx=some (.xd fs))
 (c:ET X.K C) (na:cP X.K C f) (l:fs.lookup f=some v) (h:∀u s',Inv X pins σ H s'→RelV v u→Q u s'):wpAny (model X.prog X.w) A (getAttr (.ref a) f b) Q E s:=by
 obtain⟨vs,he,_,_⟩:=nT I.bC e;obtain⟨mA,ns,r⟩:=(show bq X.prog X.w H s.heap dx (.xd fs) from I.bC dx _ ed);obtain⟨od,ho,hl⟩:=zN ns;obtain⟨u,hu,ru⟩:=lB.some_of (v:=v) (o:=mA f) (by rw[←l];exact r f);exact CN I.lA ⟨he,rfl,rfl,ho⟩ c.ga c.hk c.mro (findObj_own c.hd na rfl (by rw[hl,hu])) (zI ru) (h u _ (I.tok _) ru)
def R_(K:Frag)(ta:TE)(f:Str):TE:=fun σ H Q=>ta σ H fun x H1=>∃a C dx n fs v,x= .ref a∧H1 a=some (.ext (cX a C (some dx) n))∧H1 dx=some (.xd fs)∧ET K C∧cP K C f∧fs.lookup f=some v∧Q v H1
theorem O7(he:PE X e ta)(hb:attributeBase e f X.env (eval e X.env)=eval e X.env):PE X (.Attribute e f pos) (R_ X.K ta f):=by
 intro pins s σ H Q I h;refine FK hb (ck (he pins s σ H _ I h) fun u s1 ⟨x,H1,I1,rx,a,C,dx,n,fs,v,ex,ea,ed,c,na,l,q⟩=> ?_);subst ex;obtain rfl:u=Value.ref a:=rx;exact Hi I1 ea ed c na l fun u' s2 I2 ru=>⟨v,H1,I2,ru,q⟩
end
def vL(P:Program)(w:World):AS:=fun outer H s E e s' =>∃(a C:Addr) (dd:Option Addr) (T:Addr) (oe:Obj) (H' :Hp),e= .ref a∧s'.os=s.os∧AllBare s'.gens∧Un (wd outer) [] H H' s.heap s'.heap∧qI P w H' s'.heap∧
 H' a=some (.ext (cX a C dd false))∧Iu s'.heap a T oe∧H' T=none∧s.heap.objs.size≤T∧E (.ref C) dd H'
def yb(X:Cx)(pins:aL)(H:Hp)(h:Heap)(a:Addr):Prop:=(∃oe vs,h.get? a=some oe∧oe.data= .fields vs∧vs[1]? =some .none)∨∃T oe,Iu h a T oe∧H T=none∧X.fM.heap.objs.size≤T∧∀p∈X.pn++pins,p.1≠T
section
variable{X:Cx}{pins:aL}{σ:St}{H:Hp}{s:Shared}{a C:Addr}{dd:Option Addr}{n:Bool}{E:XK}
theorem G9(I:Inv X pins σ H s)(fE:X.stack=X.env::X.outer)(qJ:X.env.frame=some X.env.locals)(hex:X.ex=[])(e:H a=some (.ext (cX a C dd n)))(fl:yb X pins H s.heap a)(q:E (.ref C) dd (upd H a (.ext (cX a C dd false)))){Ex:Value→Shared→Prop}:
 wpAny (model X.prog X.w) X.A (leaving X.env (.ref a)) (fun _ Lu =>vL X.prog X.w X.outer X.H₀ X.fM E (.ref a) Lu) Ex s:=by
 obtain⟨vs,he,hv,hn⟩:=nT I.bC e;have hfs:X.A.frames=some (X.env::X.outer):=by rw[←fE];exact I.ok.frames
 have hl:s.heap.FunFrames X.base (X.env::X.outer):=by rw[←fE];exact I.stack
 have Bg:∀b∈(X.env::X.outer).filterMap (·.frame),H b=none:=fun b hb=>I.wA b (by rw[fE];exact hb)
 have mem:∀b,b∈(X.env::X.outer).filterMap (·.frame)→b=X.env.locals∨b∈X.fs:=fun b hb=>by
  rw[List.filterMap_cons,qJ] at hb;rcases List.mem_cons.mp hb with z|z
  ·exact .inl z
  ·exact .inr z
 have fin:∀(h' :Heap) (T T' :Addr),(X.fM.heap.objs.size≤T∨T=a)→(H T=none∨T=a)→s.heap.objs.size≤T'→Iu h' a T' (({cls:= .ref C,dict:=dd,data:= .fields vs}:Obj).mapFields (·.setIfInBounds 1 (.ref T')))→
  (∀b o,b≠a→b≠T→b∉(X.env::X.outer).filterMap (·.frame)→s.heap.get? b=some o→h'.get? b=some o)→(∀b o,b≠a→b≠T→s.heap.get? b=some o→∃sl,h'.get? b=some {o with slots:=sl})→
  vL X.prog X.w X.outer X.H₀ X.fM E (.ref a) {s with heap:=h'}:=by
  intro h' T T' hT1 Yx NG f k1 k2;have abz:H T' =none:=I.bC.fresh NG;have DW :∀b,H b=none→b≠a:=fun b z z' =>by rw[z',e] at z;cases z
  have old:∀b o,X.fM.heap.get? b=some o→b≠T∨T=a:=fun b o z=>by
   rcases hT1 with y|y
   ·exact .inl fun z' =>absurd (Nat.lt_of_lt_of_le (Heap.lt_size z) (by rw[z'];exact y)) (Nat.lt_irrefl _)
   ·exact .inr y
  refine⟨a,C,dd,T',_,upd H a (.ext (cX a C dd false)),rfl,I.os,I.bare,⟨fun b o z z0 hb _=> ?_,fun b o z z0 hb _=> ?_,fun b o z z0 _=> ?_,fun b o z _=> ?_,fun b xs z=> ?_,fun b o u z=> ?_,fun b ps z=> ?_⟩,fun b u z=> ?_,ae,f,?_,Nat.le_trans I.sz NG,q⟩
  ·have hx:b∉X.ex:=by rw[hex];simp
   have g:=I.base.keep b o z z0 hb hx;have g0:=I.base.free b o z z0 hx;refine k1 b o (DW b g0) ?_ (fun hm=> ?_) g
   ·rcases old b o z with y|y
    ·exact y
    ·rw[y];exact DW b g0
   ·rcases mem b hm with y|y
    ·exact absurd (Nat.lt_of_lt_of_le (Heap.lt_size z) (by rw[y];exact I.ok.above)) (Nat.lt_irrefl _)
    ·exact hb y
  ·have hx:b∉X.ex:=by rw[hex];simp
   obtain⟨sl,g⟩:=I.base.slot b o z z0 hb hx;have g0:=I.base.free b o z z0 hx
   obtain⟨ZR,g'⟩:=k2 b _ (DW b g0) (by
    rcases old b o z with y|y
    ·exact y
    ·rw[y];exact DW b g0) g
   exact⟨ZR,g'⟩
  ·have hx:b∉X.ex:=by rw[hex];simp
   have g0:=I.base.free b o z z0 hx;rw[af (DW b g0)];exact g0
  ·have hx:b∉X.ex:=by rw[hex];simp
   obtain⟨o',g⟩:=I.base.there b o z hx;by_cases P1:b=a
   ·rw[P1];exact⟨_,f.at_⟩
   ·by_cases Eo:b=T
    ·rcases old b o z with y|y
     ·exact absurd Eo y
     ·exact absurd (Eo.trans y) P1
    ·obtain⟨sl,g'⟩:=k2 b o' P1 Eo g;exact⟨_,g'⟩
  ·have g:=I.base.rF b xs z;rw[af (fun y=>by rw[y,e] at g;cases g)];exact g
  ·have g:=I.base.pE b o u z;rw[af (fun y=>by rw[y,e] at g;cases g)];exact g
  ·obtain⟨more,g⟩:=I.base.rY b ps z;refine⟨more,?_⟩;rw[af (fun y=>by rw[y,e] at g;cases g)];exact g
  ·by_cases hb:b=a
   ·subst hb;rw[ae] at z;cases z;exact uF ⟨_,f.at_,by simp[hv],fun y=>nomatch y⟩
   ·rw[af hb] at z;have Nc:∀c u',H c=some u'→c∉(X.env::X.outer).filterMap (·.frame):=fun c u' y hm=>by rw[Bg c hm] at y;cases y
    have L9:∀c u',c≠a→H c=some u'→c≠T:=fun c u' ya y y' =>by
     rcases Yx with t|t
     ·rw[y',t] at y;cases y
     ·exact ya (y'.trans t)
    refine(I.bC b u z).qQ (fun c v hc y=> ?_) (fun c y=> ?_) fun c ys y=> ?_
    ·rcases hc with y' |y'
     ·subst y';exact k1 c v hb (L9 c u hb z) (Nc c u z) y
     ·have Qq:c≠a:=fun w' =>by rw[w',e] at y';cases y'
      exact k1 c v Qq (L9 c _ Qq y') (Nc c _ y') y
    ·rw[af (fun w' =>by rw[w',e] at y;cases y)];exact y
    ·rw[af (fun w' =>by rw[w',e] at y;cases y)];exact y
  ·rw[af (DW _ abz)];exact abz
 rcases fl with⟨oe,vs',h1,h2,h3⟩|⟨T,oe,f,hT0,hT,_⟩
 ·rw[he] at h1;cases h1;cases h2;refine C_ (base:=X.base) hfs hl qJ he rfl h3 fun h' T' NG f k1 k2=>fin h' a T' (.inr rfl) (.inr rfl) NG f (fun b o hb _ hf g=>k1 b o hb hf g) (fun b o hb _ g=>k2 b o hb g)
 ·have hoe:oe={cls:= .ref C,dict:=dd,data:= .fields vs}:=by
   have:=f.at_;rw[he] at this;cases this;rfl
  subst hoe;refine Er (base:=X.base) hfs hl qJ f fun h' T' NG f' k1 k2=>fin h' T T' (.inl hT) (.inl hT0) NG f' k1 k2
theorem Ae{e:Value}{s' :Shared}(I:Inv X pins σ H s)(h:vL X.prog X.w X.stack H s E e s'):∃(a C:Addr) (dd:Option Addr) (H' :Hp),e= .ref a∧Inv X pins σ H' s'∧H' a=some (.ext (cX a C dd false))∧yb X pins H' s'.heap a∧E (.ref C) dd H' :=by
 obtain⟨a,C,dd,T,oe,H',rfl,os,bare,un,bC,ea,f,hT,hTs,q⟩:=h;exact⟨a,C,dd,H',rfl,I.RB os un bC bare (fun b z=>absurd z (by simp)),ea,.inr ⟨T,oe,f,hT,Nat.le_trans I.sz hTs,fun p hp z=>absurd (Nat.lt_of_lt_of_le (Heap.lt_size (I.pin p hp).1) (by rw[z];exact hTs)) (Nat.lt_irrefl _)⟩,q⟩
end
section
variable{M:Model}{A:Around}{E:Value→Shared→Prop}{env:Env}
variable{nm q:Str}{C N:Addr}{bs bm:aA}{kI:Bool}{sn:aX}{sub:aA}{ab:Bool}{col:Option Bool}{dd:Option Addr}{k0 k1 k2 k3 k5:aH}{newId:String}
theorem mz{s:Shared}{x:Sem Value}{Q:Flow→Shared→Prop}(hh:A.handled=none)
 (h:wpAny M A x (fun v bE=>∃(e C N:Addr) (de:Option Addr) (vs:Array Value) (nm q:Str) (bs bm:aA) (kI:Bool) (sn:aX) (sub:aA) (ab:Bool) (col:Option Bool) (dd:Option Addr) (k0 k1 k2 k3 k5:aH),v= .ref e∧bE.heap.get? C=some (excClassObj nm q C N bs bm kI sn sub ab col dd k0 k1 k2 k3 k5 "ValueError.__new__")∧bm.contains (.type "BaseException")=true∧
  bE.heap.get? e=some {cls:= .ref C,dict:=de,data:= .fields vs}∧vs[1]? =some .none∧E (.ref e) bE) E s):
 wpAny M A (raiseStmt env (some x) none) Q E s:=by
 unfold raiseStmt;refine wpAny_bind (wpAny_mono h (fun v bE iO=> ?_) fun _ _ x=>x);obtain⟨e,C,N,de,vs,nm,q,bs,bm,kI,sn,sub,ab,col,dd,k0,k1,k2,k3,k5,rfl,hC,ug,he,h1,hE⟩:=iO;have Qe:(Value.ref C::bm).contains (.type "BaseException")=true:=by rw[List.contains_cons,ug,Bool.or_true]
 obtain⟨hp,g,d,tk,os⟩:=bE
 repeat (first|with_reducible refine wpAny_loadPart_at he ?_|with_reducible refine wpAny_field he rfl h1 ?_|with_reducible refine wpAny_loadPart_at hC ?_|(with_reducible refine wpAny_isSubtype_exc hC ?_;rw[Qe])|wp_step)
 exact wpAny_raiseNew_none hh hE
end
section
variable{X:Cx}{e:Expr}{pos:Pos}{t:TE}{E:XK}
def EE(K:Frag)(E:XK)(t:TE):TS:=fun _ σ H=>t σ H fun v H1=>∃a C dd,v= .ref a∧H1 a=some (.ext (cX a C dd true))∧ExcC K C∧E (.ref C) dd (upd H1 a (.ext (cX a C dd false)))
def Di(X:Cx)(E:XK):Prop:=∀(pins:aL) (σ:St) (H:Hp) (s:Shared) (a C:Addr) (dd:Option Addr) (n:Bool),Inv X pins σ H s→H a=some (.ext (cX a C dd n))→yb X pins H s.heap a→E (.ref C) dd (upd H a (.ext (cX a C dd false)))→X.xe (.ref a) s
theorem sR(hc:X.calm=true)(hw:Di X E)(he:PE X e t):PS X (.Raise (some e) none pos) (EE X.K E t):=by
 intro pins s σ H D I h;rw[arm_exec_Raise]
 have key:wpAny (model X.prog X.w) X.A (do let v←eval e X.env;standAt pos;pure v) (fun v bE=>∃(e C N:Addr) (de:Option Addr) (vs:Array Value) (nm q:Str) (bs bm:aA) (kI:Bool) (sn:aX) (sub:aA) (ab:Bool) (col:Option Bool) (dd:Option Addr) (k0 k1 k2 k3 k5:aH),v= .ref e∧bE.heap.get? C=some (excClassObj nm q C N bs bm kI sn sub ab col dd k0 k1 k2 k3 k5 "ValueError.__new__")∧bm.contains (.type "BaseException")=true∧
  bE.heap.get? e=some {cls:= .ref C,dict:=de,data:= .fields vs}∧vs[1]? =some .none∧X.xe (.ref e) bE) X.xe s:=by
  refine wpAny_bind (ck (he pins s σ H _ I h) fun u s1 ⟨v,H1,I1,r1,a,C,dd,ev,ea,c,q⟩=> ?_);subst ev;obtain rfl:u=Value.ref a:=r1;refine wpAny_bind (wpAny_standAt (wpAny_pure ?_));obtain⟨nm,q',N,bs,bm,kI,sn,sub,ab,col,Ek,k0,k1,k2,k3,k5,lk,T⟩:=c.obj;obtain⟨vs,hea,hv,hn⟩:=nT I1.bC ea;exact⟨a,C,N,dd,vs,nm,q',bs,bm,kI,sn,sub,ab,col,Ek,k0,k1,k2,k3,k5,rfl,I1.lA _ _ lk,T.hasBase,hea,hn rfl,hw pins σ H1 s1 a C dd true I1 ea (.inl ⟨_,vs,hea,rfl,hn rfl⟩) q⟩
 first
  |exact wpAny_bind (wpAny_standAt (mz (I.ok.hd hc) key))
  |(simp only[evalOpt,Option.map];exact wpAny_bind (wpAny_standAt (mz (I.ok.hd hc) key)))
  |(show wpAny _ _ (do standAt pos;raiseStmt X.env (some (do let v←eval e X.env;standAt pos;pure v)) none) _ _ s;exact wpAny_bind (wpAny_standAt (mz (I.ok.hd hc) key)))
theorem ku(hw:Di X E)(fE:True):wT (vL X.prog X.w) X E:=by
 intro pins σ H s e s' I h;obtain⟨a,C,dd,H',rfl,I',ea,fl,q⟩:=Ae I h;refine hw pins σ H' s' a C dd false I' ea fl ?_;rw[ub ea];exact q
end
theorem gX{P:Program}{w:World}{K:Frag}{mg:Str→aH}{base:Heap}{N:aX}{qual:Str}{scope:Scope}{f:Addr}{cd:Value}{A:Around}{outer:List Env}{s:Shared}{H:Hp}{E:XK}
 (qJ:(envOfC qual scope s.heap.objs.size f cd).frame=some s.heap.objs.size:=by rfl):Di (B9 (vL P w) P w K mg base N qual scope f cd A outer s H E) E:=by
 intro pins σ H1 s1 a C dd n I ea fl q;exact G9 I rfl qJ rfl ea fl q
section
variable{M:Model}{A:Around}{E:Value→Shared→Prop}{s:Shared}
theorem D1{base:Heap}{env:Env}{outer:List Env}{L e:Addr}{oe:Obj}{vs:Array Value}{Q:Unit→Shared→Prop}
 (qJ:A.frames=some (env::outer)) (hl:s.heap.FunFrames base (env::outer)) (hf:env.frame=some L)
 (he:s.heap.get? e=some oe) (hd:oe.data= .fields vs) (h1:vs[1]? =some .none)
 (h:∀h' T,s.heap.objs.size≤T→Iu h' e T (oe.mapFields (·.setIfInBounds 1 (.ref T)))→(∀b o,b≠e→b∉(env::outer).filterMap (·.frame)→s.heap.get? b=some o→h'.get? b=some o)→
  (∀b o,b≠e→s.heap.get? b=some o→∃sl,h'.get? b=some {o with slots:=sl})→Q () {s with heap:=h'}):wpAny M A (noteFrame (.ref e) env) (fun _ s' =>wpAny M A (setFlight (.ref e) none) Q E s') E s:=by
 unfold noteFrame;simp only[hf];refine wpAny_bind (wpAny_field he hd h1 ?_);rw[if_neg (by decide)];exact qK qJ hl hf he hd (Array.getElem?_eq_some_iff.mp h1).1 h
theorem GK{base:Heap}{env:Env}{outer:List Env}{L e T:Addr}{oe:Obj}{Q:Unit→Shared→Prop}
 (qJ:A.frames=some (env::outer)) (hl:s.heap.FunFrames base (env::outer)) (hf:env.frame=some L) (ht:Iu s.heap e T oe)
 (h:∀h' T',s.heap.objs.size≤T'→Iu h' e T' (oe.mapFields (·.setIfInBounds 1 (.ref T')))→(∀b o,b≠e→b≠T→b∉(env::outer).filterMap (·.frame)→s.heap.get? b=some o→h'.get? b=some o)→
  (∀b o,b≠e→b≠T→s.heap.get? b=some o→∃sl,h'.get? b=some {o with slots:=sl})→Q () {s with heap:=h'}):wpAny M A (noteFrame (.ref e) env) (fun _ s' =>wpAny M A (setFlight (.ref e) none) Q E s') E s:=by
 obtain⟨he,⟨vs,hd,h1⟩,DV,oT,ts,hT,d_,h3⟩:=ht;unfold noteFrame;simp only[hf];refine wpAny_bind (wpAny_field he hd h1 ?_);rw[if_pos (show(Value.ref T !=Value.none)=true from by simp)];refine wpAny_bind (wpAny_field hT d_ h3 ?_);rw[if_neg (show ¬((Value.none==rawInt L)=true) from by simp[rawInt])];refine wpAny_bind (wpAny_setField hT d_ (Array.getElem?_eq_some_iff.mp h3).1 ?_);have other:∀b,b≠T→(s.heap.update T (Obj.mapFields (·.setIfInBounds 3 Value.none))).get? b=s.heap.get? b:=fun b hb=>Heap.get?_update_other _ _ (Ne.symm hb)
 have wF:∀b o,s.heap.get? b=some o→(∀vs,o.data≠.fields vs)→b≠T:=fun b o hb NY q=>by
  rw[q,hT] at hb;injection hb with hb;subst hb;exact NY ts d_
 refine qK qJ (hl.of_keeps fun b o hb NY=>⟨o,(other b (wF b o hb NY)).trans hb,rfl⟩) hf ((other e (Ne.symm DV)).trans he) hd (Array.getElem?_eq_some_iff.mp h1).1
  fun h' T' hn fl k1 k2=>h h' T' ?_ fl (fun b o ym Eo UU hb=>k1 b o ym UU ((other b Eo).trans hb)) fun b o ym Eo hb=>k2 b o ym ((other b Eo).trans hb)
 have GV :(s.heap.update T (Obj.mapFields (·.setIfInBounds 3 Value.none))).objs.size≤T' :=hn;rw[Heap.size_after_update] at GV;exact GV
end
structure OW(X:Cx)(pins:aL)(H:Hp)(h:Heap)(a T:Addr):Prop where
 fly:∃oe,Iu h a T oe
 no:H T=none
 young:X.fM.heap.objs.size≤T
 pin:∀p∈X.pn++pins,p.1≠T
section
variable{X:Cx}{pins:aL}{σ:St}{H:Hp}{s:Shared}{a C:Addr}{dd:Option Addr}{n:Bool}
theorem Inv.RC{h' :Heap}{T T' :Addr}{vs:Array Value}(I:Inv X pins σ H s)(fE:X.stack=X.env::X.outer)(qJ:X.env.frame=some X.env.locals)(e:H a=some (.ext (cX a C dd n)))(hv:vs.size=6)
 (hT:T=a∨(H T=none∧X.fM.heap.objs.size≤T∧(∀p∈X.pn++pins,p.1≠T)∧∃oT ts,s.heap.get? T=some oT∧oT.data= .fields ts)) (he:h'.get? a=some {cls:= .ref C,dict:=dd,data:= .fields vs})
 (k1:∀b o,b≠a→b≠T→b∉(X.env::X.outer).filterMap (·.frame)→s.heap.get? b=some o→h'.get? b=some o) (k2:∀b o,b≠a→b≠T→s.heap.get? b=some o→∃sl,h'.get? b=some {o with slots:=sl}):
 Inv X pins σ (upd H a (.ext (cX a C dd false))) {s with heap:=h'}:=by
 have Bg:∀b∈(X.env::X.outer).filterMap (·.frame),H b=none:=fun b hb=>I.wA b (by rw[fE];exact hb)
 have mem:∀b,b∈(X.env::X.outer).filterMap (·.frame)→b=X.env.locals∨b∈X.fs:=fun b hb=>by
  rw[List.filterMap_cons,qJ] at hb;rcases List.mem_cons.mp hb with z|z
  ·exact .inl z
  ·exact .inr z
 have DW :∀b,H b=none→b≠a:=fun b z z' =>by rw[z',e] at z;cases z
 obtain⟨m0,⟨oL,esL,epL,hL,Y0,rL⟩,_⟩:=id I.loc
 have LT:X.env.locals≠T:=fun z=>by
  rcases hT with y|⟨_,_,_,oT,ts,g1,g2⟩
  ·exact DW _ I.free (z.trans y)
  ·rw[z,g1] at hL;cases hL;rw[g2] at Y0;cases Y0
 have chT:∀b,b∉(if T=a then[] else[T]:aY)→b≠a→b≠T:=fun b hb P1 z=>by
  by_cases Xu:T=a
  ·exact P1 (z.trans Xu)
  ·rw[if_neg Xu] at hb;exact hb (by rw[z];simp)
 refine I.step (g' :=s.gens) (t' :=s.toks) (d' :=s.drawn) (ch:=if T=a then[] else[T]) (fun b hb=> ?_) (fun b o hbL UU hc q z=>k1 b o (DW b z) (chT b hc (DW b z)) (fun hm=>(mem b hm).elim hbL UU) q) (fun b o _ _ hc q z=>k2 b o (DW b z) (chT b hc (DW b z)) q)
  (fun b o _ q z=>by rw[af (DW b z)];exact z) (fun b o hc q=> ?_) (fun b xs z=> ?_) (fun b o u z=> ?_) (fun b ps z=>⟨#[],?_⟩) (fun m hm=> ?_) (fun b u z=> ?_) I.bare
 ·by_cases Xu:T=a
  ·rw[if_pos Xu] at hb;cases hb
  ·rw[if_neg Xu] at hb;have hb:b=T:=by simpa using hb
   subst hb;rcases hT with y|⟨g0,g1,g2,oT,ts,g3,g4⟩
   ·exact absurd y Xu
   ·refine⟨.inr g1,Ne.symm LT,fun x c q z=> ?_,g2⟩;obtain⟨v,o,ho,hd⟩:=I.cell x c q;rw[z,g3] at ho;cases ho;rw[g4] at hd;cases hd
 ·by_cases P1:b=a
  ·rw[P1];exact⟨_,he⟩
  ·obtain⟨sl,g⟩:=k2 b o P1 (chT b hc P1) q;exact⟨_,g⟩
 ·rw[af (fun y=>by rw[y,e] at z;cases z)];exact z
 ·rw[af (fun y=>by rw[y,e] at z;cases z)];exact z
 ·rw[af (fun y=>by rw[y,e] at z;cases z),z];simp
 ·obtain⟨o,es,ep,q,hd,r⟩:=hm;obtain⟨sl,g⟩:=k2 _ o (DW _ I.free) LT q;exact⟨_,es,ep,g,hd,r⟩
 ·by_cases hb:b=a
  ·subst hb;rw[ae] at z;cases z;exact uF ⟨vs,he,hv,fun y=>nomatch y⟩
  ·rw[af hb] at z;have Nc:∀c u',H c=some u'→c∉(X.env::X.outer).filterMap (·.frame):=fun c u' y hm=>by rw[Bg c hm] at y;cases y
   have L9:∀c u',c≠a→H c=some u'→c≠T:=fun c u' ya y y' =>by
    rcases hT with t|⟨t,_⟩
    ·exact ya (y'.trans t)
    ·rw[y',t] at y;cases y
   refine(I.bC b u z).qQ (fun c v hc y=> ?_) (fun c y=> ?_) fun c ys y=> ?_
   ·rcases hc with y' |y'
    ·subst y';exact k1 c v hb (L9 c u hb z) (Nc c u z) y
    ·have Qq:c≠a:=fun w' =>by rw[w',e] at y';cases y'
     exact k1 c v Qq (L9 c _ Qq y') (Nc c _ y') y
   ·rw[af (fun w' =>by rw[w',e] at y;cases y)];exact y
   ·rw[af (fun w' =>by rw[w',e] at y;cases y)];exact y
theorem z_{M:Model}{E:Value→Shared→Prop}{Q:Unit→Shared→Prop}(I:Inv X pins σ H s)(fE:X.stack=X.env::X.outer)(qJ:X.env.frame=some X.env.locals)(e:H a=some (.ext (cX a C dd n)))(fl:yb X pins H s.heap a)
 (h:∀s' T,Inv X pins σ (upd H a (.ext (cX a C dd false))) s'→OW X pins (upd H a (.ext (cX a C dd false))) s'.heap a T→Q () s'):
 wpAny M X.A (noteFrame (.ref a) X.env) (fun _ s' =>wpAny M X.A (setFlight (.ref a) none) Q E s') E s:=by
 obtain⟨vs,he,hv,hn⟩:=nT I.bC e;have hfs:X.A.frames=some (X.env::X.outer):=by rw[←fE];exact I.ok.frames
 have hl:s.heap.FunFrames X.base (X.env::X.outer):=by rw[←fE];exact I.stack
 have DW :∀b,H b=none→b≠a:=fun b z z' =>by rw[z',e] at z;cases z
 have hold:∀{h' :Heap} {T' :Addr} {oe:Obj},s.heap.objs.size≤T'→Iu h' a T' oe→OW X pins (upd H a (.ext (cX a C dd false))) h' a T' :=fun{h' T' oe} hT f=>
  ⟨⟨oe,f⟩,by rw[af (DW _ (I.bC.fresh hT))];exact I.bC.fresh hT,Nat.le_trans I.sz hT,fun p hp z=>absurd (Nat.lt_of_lt_of_le (Heap.lt_size (I.pin p hp).1) (by rw[z];exact hT)) (Nat.lt_irrefl _)⟩
 rcases fl with⟨oe,vs',h1,h2,h3⟩|⟨T,oe,f,hT0,hT,hTp⟩
 ·rw[he] at h1;cases h1;cases h2;exact D1 (base:=X.base) hfs hl qJ he rfl h3 fun h' T' NG f k1 k2=>h _ T' (I.RC (vs:=vs.setIfInBounds 1 (.ref T')) (T:=a) (T' :=T') fE qJ e (by simp[hv]) (.inl rfl) f.at_ (fun b o hb _ hf g=>k1 b o hb hf g) fun b o hb _ g=>k2 b o hb g) (hold NG f)
 ·have hoe:oe={cls:= .ref C,dict:=dd,data:= .fields vs}:=by
   have:=f.at_;rw[he] at this;cases this;rfl
  subst hoe;obtain⟨oT,ts,g1,g2,_⟩:=f.tr;exact GK (base:=X.base) hfs hl qJ f fun h' T' NG f' k1 k2=>h _ T' (I.RC (vs:=vs.setIfInBounds 1 (.ref T')) (T:=T) (T' :=T') fE qJ e (by simp[hv]) (.inr ⟨hT0,hT,hTp,oT,ts,g1,g2⟩) f'.at_ k1 k2) (hold NG f')
end
section
variable{X:Cx}{pins:aL}{σ:St}{H:Hp}{s:Shared}{a T:Addr}
abbrev Cx.qa(X:Cx)(a:Addr)(E:Value→Shared→Prop):Cx:={X with A:=X.A.mark (some (.ref a)),calm:=false,xe:=E}
theorem Inv.qa(I:Inv X pins σ H s)(a:Addr)(E:Value→Shared→Prop):Inv (X.qa a E) pins σ H s:=
 ⟨⟨I.ok.mod,I.ok.kind,I.ok.glob,I.ok.blt,I.ok.above,I.ok.inj,I.ok.has,I.ok.Wh,(fun z=>nomatch z),I.ok.frames,I.ok.WR,I.ok.exf,I.ok.bs,I.ok.GX,I.ok.E9,I.ok.Ie,I.ok.se,I.ok.NR⟩,I.os,I.bare,I.base,I.loc,I.cell,I.free,I.jk,I.pin,I.bC,I.len⟩
theorem Inv.qr{E:Value→Shared→Prop}(ok:X.Ok)(I:Inv (X.qa a E) pins σ H s):Inv X pins σ H s:=⟨ok,I.os,I.bare,I.base,I.loc,I.cell,I.free,I.jk,I.pin,I.bC,I.len⟩
abbrev Cx.pinned(X:Cx)(pn:aL)(E:Value→Shared→Prop):Cx:={X with pn:=X.pn++pn,xe:=E}
theorem Inv.Cn(I:Inv X pins σ H s)(E:Value→Shared→Prop):Inv (X.pinned pins E) [] σ H s:=
 ⟨⟨I.ok.mod,I.ok.kind,I.ok.glob,I.ok.blt,I.ok.above,I.ok.inj,I.ok.has,I.ok.Wh,I.ok.hd,I.ok.frames,I.ok.WR,I.ok.exf,I.ok.bs,I.ok.GX,I.ok.E9,I.ok.Ie,I.ok.se,I.ok.NR⟩,I.os,I.bare,I.base,I.loc,I.cell,I.free,I.jk,fun p hp=>I.pin p (by simpa using hp),I.bC,I.len⟩
theorem Inv.ofPinned{E:Value→Shared→Prop}{Ak :aL}(ok:X.Ok)(I:Inv (X.pinned pins E) Ak σ H s):Inv X pins σ H s:=
 ⟨ok,I.os,I.bare,I.base,I.loc,I.cell,I.free,I.jk,fun p hp=>I.pin p (List.mem_append_left _ hp),I.bC,I.len⟩
theorem Inv.Fz{h' :Heap}{t' i:Nat}{x:Str}{u:aH}{m:Str→aH}(I:Inv X pins σ H s)(hN:X.N.Nodup)(hi:X.N[i]? =some x)(hm:s.heap.Ns X.env.locals m)(hn:h'.Ns X.env.locals (fun y=>if y=x then u else m y))(sb:Heap.SameBut X.env.locals s.heap h'):
 Inv X pins (σ.set i none) H {s with heap:=h',toks:=t'}:=by
 have old:∀b o,X.fM.heap.get? b=some o→b≠X.env.locals:=fun b o q z=>absurd (Nat.lt_of_lt_of_le (Heap.lt_size q) (by rw[z];exact I.ok.above)) (Nat.lt_irrefl _);have X0:=I.free;refine⟨I.ok,I.os,I.bare,⟨fun b o q z hb hx=> ?_,fun b o q z hb hx=> ?_,I.base.free,fun b o q hx=> ?_,I.base.rF,I.base.pE,I.base.rY⟩,⟨_,hn,fun j y v e1 e2 e3=> ?_⟩,fun y c q=> ?_,I.free,I.jk,fun p hp=> ?_,fun b o q=> ?_,?_⟩
 ·exact(sb.2 b (old b o q)).trans (I.base.keep b o q z hb hx)
 ·obtain⟨sl,g⟩:=I.base.slot b o q z hb hx;exact⟨sl,(sb.2 b (old b o q)).trans g⟩
 ·obtain⟨o',g⟩:=I.base.there b o q hx;exact⟨o',(sb.2 b (old b o q)).trans g⟩
 ·have hj:j≠i:=fun z=>by
   subst z;by_cases hl:j<σ.length
   ·rw[List.getElem?_set_self hl] at e2;cases e2
   ·rw[List.getElem?_eq_none (by rw[List.length_set];lia)] at e2;cases e2
  rw[List.getElem?_set_ne (Ne.symm hj)] at e2;obtain⟨m0,hm0,hl⟩:=I.loc;obtain⟨w',D4,lk⟩:=hl j y v e1 e2 e3
  have hyx:y≠x:=fun z=>by
   subst z;have h1:=(List.getElem?_eq_some_iff.mp e1).1;exact hj ((List.getElem?_inj h1 hN).mp (e1.trans hi.symm))
  refine⟨w',D4,?_⟩;rcases lk with⟨k1,k2⟩|⟨k1,c,k2,k3⟩
  ·refine .inl ⟨k1,?_⟩;dsimp only;rw[if_neg hyx,show m=m0 from(Heap.Ns.eq_nsMap hm).trans (Heap.Ns.eq_nsMap hm0).symm];exact k2
  ·refine .inr ⟨k1,c,k2,?_⟩;obtain⟨o,g1,g2⟩:=k3;exact⟨o,(sb.2 c (I.P5 y c k2)).trans g1,g2⟩
 ·obtain⟨v,o,g1,g2⟩:=I.cell y c q;exact⟨v,o,(sb.2 c (I.P5 y c q)).trans g1,g2⟩
 ·obtain⟨g1,g2,g3,g4⟩:=I.pin p hp;exact⟨(sb.2 p.1 g3).trans g1,g2,g3,g4⟩
 ·refine(I.bC b o q).qQ (fun c v hc g=>(sb.2 c ?_).trans g) (fun _ g=>g) fun _ _ g=>g;rcases hc with z|z
  ·rw[z];exact fun z' =>by rw[z',X0] at q;cases q
  ·exact fun z' =>by rw[z',X0] at z;cases z
 ·rw[List.length_set];exact I.len
theorem z9{M:Model}{A:Around}{E:Value→Shared→Prop}{Q:Unit→Shared→Prop}(I:Inv X pins σ H s)(hd:OW X pins H s.heap a T)(h:∀s',Inv X pins σ H s'→OW X pins H s'.heap a T→Q () s'):
 wpAny M A (setFlight (.ref a) none) Q E s:=by
 obtain⟨⟨oe,he,⟨vs,hdv,h1⟩,ne,oT,ts,hT,d_,h3⟩,h0,hy,hp⟩:=hd;have hsz:3<ts.size:=(Array.getElem?_eq_some_iff.mp h3).1;refine wpAny_setFlight_none he hdv h1 hT d_ hsz ?_;obtain⟨m0,⟨oL,esL,epL,hL,Y0,rL⟩,_⟩:=id I.loc;have LT:T≠X.env.locals:=fun z=>by rw[←z,hT] at hL;cases hL;rw[d_] at Y0;cases Y0
 have I1:Inv X pins σ H {s with heap:=s.heap.update T (Obj.mapFields (·.setIfInBounds 3 .none))}:=I.turned (t' :=s.toks) (fun b o hb q=>by rw[Heap.get?_update_other _ _ (Ne.symm hb)];exact q) h0 LT (.inr hy)
  (fun x c q z=>by obtain⟨v,o,ho,hd⟩:=I.cell x c q;rw[z,hT] at ho;cases ho;rw[d_] at hd;cases hd) hp
 refine h _ I1 ⟨⟨oe,by show(s.heap.update T _).get? a=_;rw[Heap.get?_update_other _ _ ne];exact he,⟨vs,hdv,h1⟩,ne,_,_,Heap.get?_update_self _ hT (Obj.isFreed_of_fields (Obj.data_mapFields d_ _)),Obj.data_mapFields d_ _,by simp[hsz]⟩,h0,hy,hp⟩
end
section
variable{M:Model}{A:Around}{E:Value→Shared→Prop}
theorem vA{h:Heap}{g:Array GenState}{d:Drawn}{t:Nat}{os:OsState}{e C D N N' :Addr}{oe:Obj}{nm q nm' q' :Str}{bs bm bs' RZ :aA}{kI acE :Bool}{sn sn' :aX}{sub amf :aA}{ab ab' :Bool}{col akJ :Option Bool}{dd Ek :Option Addr}{k0 k1 k2 k3 k5 j0 j1 j2 j3 j5:aH}{i j:String}{Q:Bool→Shared→Prop}
 (hC:h.get? C=some (excClassObj nm q C N bs bm kI sn sub ab col dd k0 k1 k2 k3 k5 i)) (hD:h.get? D=some (excClassObj nm' q' D N' bs' RZ acE sn' amf ab' akJ Ek j0 j1 j2 j3 j5 j)) (he:h.get? e=some oe) (AK:oe.cls= .ref C) (ug:RZ.contains (.type "BaseException")=true)
 (HP:(Value.ref C::bm).contains (.ref D)=true) (hq:Q true ⟨h,g,d,t,os⟩):wpAny M A (excMatches (.ref e) (.ref D)) Q E ⟨h,g,d,t,os⟩:=by
 have Qe:(Value.ref D::RZ).contains (.type "BaseException")=true:=by rw[List.contains_cons,ug,Bool.or_true]
 have f:=tc_notTuple;unfold excMatches
 repeat (first|(with_reducible refine wpAny_loadPart_at he ?_;rw[AK])|with_reducible refine wpAny_loadPart_at hD ?_|(with_reducible refine wpAny_isSubtype_exc hD ?_;rw[Qe])|(with_reducible refine wpAny_isSubtype_exc hC ?_;rw[HP])|wp_step)
 exact hq
end
structure Under(K:Frag)(C D:Addr):Prop where
 ex:∃nm q N bs bm kI sn sub ab col dd k0 k1 k2 k3 k5 i,K.lookup C=some (excClassObj nm q C N bs bm kI sn sub ab col dd k0 k1 k2 k3 k5 i)∧(Value.ref C::bm).contains (.ref D)=true
section
variable{X:Cx}{body xI:List Stmt}{b0:Stmt}{rest:List ExceptHandler}{c nm:Str}{cp Az pos:Pos}{tb:XK→TS}{th:TS}{i:Nat}{D:Addr}
def AJ(i:Nat)(D:Ends):Ends where
 nx:=fun σ H=>D.nx (σ.set i none) H
 rt:=D.rt
 bk:=fun σ H=>D.bk (σ.set i none) H
 ct:=fun σ H=>D.ct (σ.set i none) H
def abZ(K:Frag)(len:Nat)(D:Addr)(i:Nat)(th:TS)(Ds:Ends):XK:=fun Cv dd H=>∃C,Cv= .ref C∧Under K C D∧∀(a:Addr) (σ:St),H a=some (.ext (cX a C dd false))→σ.length=len→th (AJ i Ds) (σ.set i (some (.ref a))) H
def aiY(K:Frag)(len:Nat)(D:Addr)(i:Nat)(tb:XK→TS)(th:TS):TS:=fun Ds σ H=>tb (abZ K len D i th Ds) Ds σ H
theorem DE(fE:X.stack=X.env::X.outer)(qJ:X.env.frame=some X.env.locals)(hN:X.N.Nodup)(hi:X.N[i]? =some nm)(E1:X.env.kindOf nm=some .local)(hg:Gl X c)(hm:X.mg c=some (.ref D))(hD:ExcC X.K D)
 (hb:∀(E:XK) (pn:aL) (W:Value→Shared→Prop),Di (X.pinned pn W) E→zr (X.pinned pn W) body (tb E)) (hs:∀a,zr (X.qa a fun _ _=>False) (b0::xI) th) (BU:(c==("__debug__" :Str))=false:=by decide):
 PS X (.Try body (.ExceptHandler (some (.Name c cp)) (some nm) (b0::xI) Az::rest) [] [] pos) (aiY X.K X.N.length D i tb th):=by
 intro pins s σ H Ds I h;refine wpAny_Try_except ?_
 have hw:Di (X.pinned pins fun e bE=>wpAny (model X.prog X.w) X.A (noteFrame e X.env) (fun _ pY=>wpAny (model X.prog X.w) X.A (setFlight e none) (fun _ vO=>wpAny (model X.prog X.w) X.A (handleBy e X.env (.ExceptHandler (some (.Name c cp)) (some nm) (b0::xI) Az::rest)) (SP X pins Ds) X.xe vO) X.xe pY) X.xe bE)
  (abZ X.K X.N.length D i th Ds):=by
  intro Ak cI H' s' a C dd n I' ea fl q;have J:Inv X pins cI H' s' :=I'.ofPinned I.ok
  have fl' :yb X pins H' s'.heap a:=by
   rcases fl with z|⟨T,oe,f,z1,z2,z3⟩
   ·exact .inl z
   ·exact .inr ⟨T,oe,f,z1,z2,fun p hp=>z3 p (List.mem_append_left _ hp)⟩
  obtain⟨C',eC,un,q⟩:=q;cases eC;refine z_ J fE qJ ea fl' fun s2 T I2 held=> ?_;have Ym:upd H' a (.ext (cX a C dd false)) a=some (.ext (cX a C dd false)):=ae;obtain⟨vs,he,hv,_⟩:=nT I2.bC Ym;refine wpAny_handleBy_cons (codeAny_handlers_test ?_) (by intro q;cases q);refine nE (I2.qa a fun _ _=>False) hg hm ?_ BU;obtain⟨nm1,q1,N1,bs1,bm1,IC,sn1,afJ,ab1,agI,dd1,k0,k1,k2,k3,k5,i1,lk,HP⟩:=un.ex;obtain⟨nm2,q2,N2,bs2,bm2,hd2,sn2,aoU,ab2,amX,dd2,j0,j1,j2,j3,j5,lk2,T2⟩:=hD.obj;have hC:=I2.lA _ _ lk;have hDD:=I2.lA _ _ lk2;obtain⟨w_,g2,d2,t2,os2⟩:=s2;refine vA hC hDD he rfl T2.hasBase HP ?_;refine codeAny_handlers_suite_as ?_;refine z9 I2 held fun s3 I3 Zd=> ?_;refine sU (X:=X.qa a fun _ _=>False) (I3.qa a fun _ _=>False) hN hi (.inl E1) (show RelV (.ref a) (.ref a) from rfl) (fun s4 I4=> ?_) (.inr E1);refine wpAny_mono (hs a pins s4 _ _ (AJ i Ds) I4 (q a cI Ym I3.len)) (fun f s5 z=> ?_) fun _ _ z=>z.elim;have AK:(X.env.scope.kind== .class||(X.env.scope.kind== .module&&X.env.locals !=X.env.globals))=false:=by rw[I.ok.kind];rfl
  have goes:∀{Fb:St} {H5:Hp} {Q:Unit→Shared→Prop},Inv X pins Fb H5 s5→(∀s6,Inv X pins (Fb.set i none) H5 s6→Q () s6)→wpAny (model X.prog X.w) X.A (do bindName X.env nm .none;unbindBehindTheSuite X.env nm Az) Q X.xe s5:=fun{Fb H5 Q} J5 hQ=>by
   obtain⟨m,hm5,_⟩:=id J5.loc;exact wpAny_nameGoes_keeps E1 hm5 AK fun h' v hn sb=>hQ _ (J5.Fz (t' :=s5.toks+1) hN hi hm5 hn sb)
  cases f with
  |next=>obtain⟨Fb,H5,I5,q5⟩:=z;exact goes (I5.qr I.ok) fun s6 I6=>⟨_,_,I6,q5⟩
  |brk=>obtain⟨Fb,H5,I5,q5⟩:=z;exact goes (I5.qr I.ok) fun s6 I6=>⟨_,_,I6,q5⟩
  |cont=>obtain⟨Fb,H5,I5,q5⟩:=z;exact goes (I5.qr I.ok) fun s6 I6=>⟨_,_,I6,q5⟩
  |ret u=>obtain⟨v,Fb,H5,I5,r5,q5⟩:=z;exact goes (I5.qr I.ok) fun s6 I6=>⟨v,_,_,I6,r5,q5⟩
 refine wpAny_mono (hb _ pins _ hw [] s σ H Ds (I.Cn _) h) (fun f s1 z=> ?_) fun _ _ z=>z
 cases f with
 |next=>obtain⟨cI,H',I',q⟩:=z;exact wpAny_execs_nil ⟨cI,H',I'.ofPinned I.ok,q⟩
 |brk=>obtain⟨cI,H',I',q⟩:=z;exact⟨cI,H',I'.ofPinned I.ok,q⟩
 |cont=>obtain⟨cI,H',I',q⟩:=z;exact⟨cI,H',I'.ofPinned I.ok,q⟩
 |ret u=>obtain⟨v,cI,H',I',r,q⟩:=z;exact⟨v,cI,H',I'.ofPinned I.ok,r,q⟩
end
section
variable{P:Program}{w:World}{K:Frag}{mg:Str→aH}{base:Heap}
theorem e8.Rb{x qual:Str}{st:Stmt}{f:Addr}{fd:FuncData}{N ps:aX}{k:Nat}{sp:Sp}(F:e8 K x qual st f fd)(S:aB N ps (av st))(len:∀vs H Q E,sp vs H Q E→vs.length=ps.length)
 (kU:∀(cF:Value) (A:Around) (outer:List Env) (s:Shared) (H:Hp) (vs:az) (Q:VK) (E:XK),eQ k (A.deeper (envOfC qual (av st) s.heap.objs.size f cF))→sp vs H Q E→
  ∃t,zr (B9 (vL P w) P w K mg base N qual (av st) f cF A outer s H E) (j_ st) t∧t {nx:=fun _ H' =>Q .bH H',rt:=Q} (zn N vs) H):aV P w K mg base (vL P w) (k+1) f fd ps sp:=by
 obtain⟨oc,od,kV,doc,pm,an,cF,ct,IF,rfl,lk,zF⟩:=F.ex;exact SJ lk zF S len fun A outer s H vs Q E hr NN=>kU cF A outer s H vs Q E hr NN
end
section
variable{X:Cx}
end
end L2
namespace My
open PySem PySem.NumText PyProof.Rows L2
end My
namespace L2
open PySem PySem.Spec PySem.SeqAt PyProof.Rows
section
variable{X:Cx}
theorem uE(hu:X.A.units+100<cLine):qD X (compareOp .NotEq) (fun x y H Q=>∃d e,Dat H x d∧Dat H y e∧shaped d=true∧shaped e=true∧noMix d e=true∧Q (.bl (!PySem.Spec.same d e)) H):=by
 intro pins s σ H x y v u Q I rx ry h;obtain⟨d,e,hd,he,s1,s2,m,q⟩:=h;obtain⟨⟨as,rd⟩,_⟩:=hd.reads I.bC rx;obtain⟨⟨bs,re⟩,_⟩:=he.reads I.bC ry;exact ne_dataH_same rd re s1 s2 (by lia) m ⟨.bl _,H,I,rfl,q⟩
theorem As:∀{qs:aY} {us:aA},Vals (qs.map V.ref) us→us=qs.map Value.ref
 |[],_,.nil=>rfl
 |a::r,_,.cons e q=>by
  cases e;rw[As q];rfl
end
section
variable{X:Cx}{e:Expr}{f:Str}{pos:Pos}{ta:TE}{K:Frag}
theorem sQ(hK:X.K=K)(he:PE X e ta)(hb:attributeBase e f X.env (eval e X.env)=eval e X.env):PE X (.Attribute e f pos) (R_ K ta f):=by
 subst hK;exact O7 he hb
end
section
variable{X:Cx}{e:Expr}{es:cQ}{st:Stmt}{Vg:List Stmt}{te:TE}{ta:TA}{t u:TS}
end
section
variable{P:Program}{w:World}{K:Frag}{mg:Str→aH}{base:Heap}
end
end L2
namespace L2
open PySem PySem.Spec PyProof.Rows PySem.Builtin.ObjectAttr
section
variable{K:Frag}{C:Addr}
variable{prog:Program}{w:World}{A:Around}{E:Value→Shared→Prop}{s:Shared}{x:Addr}{ox:Obj}{od:Option Obj}
end
section
variable{X:Cx}{K:Frag}
end
structure QN(k:Nat)(A:Around):Prop where
 dp:A.depth+3*k+5<recursionLimit
 un:A.units+16*k+200<cLine
 gd:A.guards=some []
theorem eQ.mark{k:Nat}{A:Around}(r:eQ k A)(v:aH):QN k (A.mark v):=⟨r.dp,r.un,r.gd⟩
structure Nw(P:Program)(w:World)(K:Frag)(mg:Str→aH)(base:Heap)(k:Nat)(f:Addr)(fd:FuncData)(ps:aX)(sp:Sp):Prop where
 len:∀vs H Q E,sp vs H Q E→vs.length=ps.length
 run:∀(A:Around) (outer:List Env) (s:Shared) (H:Hp) (args:Args) (us:aA) (vs:az) (Q:VK) (E:XK),QN k A→x_ P w K mg base A outer s H→BindsTo s fd args (ps.zip us)→Vals vs us→sp vs H Q E→
  codeAny (model P w) A (.call (.ref f) args) (CR eI outer P w H s Q E) s
theorem Nw.mono{P:Program}{w:World}{K:Frag}{mg:Str→aH}{base:Heap}{j k:Nat}{f:Addr}{fd:FuncData}{ps:aX}{sp:Sp}(F:Nw P w K mg base j f fd ps sp)(h:j≤k):Nw P w K mg base k f fd ps sp:=
 ⟨F.len,fun A outer s H args us vs Q E hr=>F.run A outer s H args us vs Q E ⟨by have:=hr.dp;lia,by have:=hr.un;omega,hr.gd⟩⟩
section
variable{X:Cx}{k:Nat}{f:Addr}{fd:FuncData}{ps:aX}{sp:Sp}{x:Str}{p pos:Pos}{e:Expr}{es:cQ}{t:TA}{K:Frag}
end
section
variable{X:Cx}
end
def Ay(CX:AS)(X:Cx)(E:St→XK):Prop:=∀(pins:aL) (σ:St) (H:Hp) (s:Shared) (e:Value) (s' :Shared),Inv X pins σ H s→CX X.stack H s (E σ) e s'→X.xe e s'
def EK(X:Cx)(E:St→XK):Prop:=∀(pins:aL) (σ:St) (H:Hp) (s:Shared) (a C:Addr) (dd:Option Addr) (n:Bool),Inv X pins σ H s→H a=some (.ext (cX a C dd n))→yb X pins H s.heap a→E σ (.ref C) dd (upd H a (.ext (cX a C dd false)))→X.xe (.ref a) s
theorem yg{X:Cx}{E:St→XK}(hw:EK X E):Ay (vL X.prog X.w) X E:=by
 intro pins σ H s e s' I h;obtain⟨a,C,dd,H',rfl,I',ea,fl,q⟩:=Ae I h;refine hw pins σ H' s' a C dd false I' ea fl ?_;rw[ub ea];exact q
section
variable{X:Cx}{CX:AS}{k:Nat}{f C:Addr}{fd:FuncData}{ps:aX}{sp:Sp}{qW:az}{ds:aA}{E:St→XK}{x m:Str}{p pos apos:Pos}{e o:Expr}{es:cQ}{ta:TE}{t:TA}
theorem Oy{pins:aL}{σ:St}{H:Hp}{s:Shared}{Q:VK}{us:aA}{vs:az}(F:aV X.prog X.w X.K X.mg X.base CX k f fd ps sp)(hr:eQ k X.A)(hb:Binds X.K fd ps ds)(hd:Vals qW ds)(hx:Ay CX X E)
 (I:Inv X pins σ H s) (r:Vals vs us) (h:sp (vs++qW) H Q (E σ)):wpAny (model X.prog X.w) X.A (call (.ref f) us) (EP X pins σ Q) X.xe s:=by
 have r2:Vals (vs++qW) (us++ds):=r.append hd;have hl:(us++ds).length=ps.length:=by rw[←r2.length];exact F.len _ _ _ _ h
 refine wpAny_call (codeAny_mono (F.run X.A X.stack s H ⟨us,[]⟩ (us++ds) (vs++qW) Q (E σ) hr I.PZ (hb s us I.lA hl) r2 h) fun r s' hq=> ?_)
 cases r with
 |error e=>exact hx pins σ H s e s' I hq
 |ok fl=>
  cases fl with
  |ret u=>exact I.after hq
  |next=>exact False.elim hq
  |brk=>exact False.elim hq
  |cont=>exact False.elim hq
def Va(C:Addr)(m:Str)(sp:Sp)(qW:az)(E:St→XK)(ta:TE)(t:TA):TE:=fun σ H Q=>ta σ H fun x H1=>∃a dx fs,x= .ref a∧H1 a=some (.ins C dx fs)∧fs.lookup m=none∧
 t σ H1 fun vs H2=>sp (x::(vs++qW)) H2 Q (E σ)
theorem Cp{pl:Sem Bool}(he:PE X o ta)(c:Ec X.K C)(hm:Meth X.K C m f)(F:aV X.prog X.w X.K X.mg X.base CX k f fd ps sp)(hr:eQ k X.A)(hb:Binds X.K fd ps ds)(hd:Vals qW ds)(hx:Ay CX X E)(ha:PA X (e::es) t)
 (fE:starEach (e::es) X.env=(false,eval e X.env)::starEach es X.env:=by rfl) (rR:(backTo pos (starEach es X.env)).any (·.1)=false:=by rfl)
 (ht:eval (.Call (.Attribute o m apos) (e::es) [] pos) X.env=(do
  let ov←eval o X.env
  standAt apos.atName
  let(f,first)←holding [ov] (getMethod ov m pl)
  callWith pos f first (backTo pos (starEach (e::es) X.env)) (backToKw pos (keywordEach [] X.env))):=by rfl):
 PE X (.Call (.Attribute o m apos) (e::es) [] pos) (Va C m sp qW E ta t):=by
 intro pins s σ H Q I h;refine methodCall_KW (pl:=pl) (ck (he pins s σ H _ I h) fun u s1 ⟨x,H1,I1,rx,a,dx,fs,ex,ea,l,q⟩=> ?_) ht;subst ex;obtain rfl:u=Value.ref a:=rx;refine oY I1 ea c hm l ?_;refine callWith_K (first:=[.ref a]) (h₀:=X.base) I.ok.mod.NV hm.kp (ck (ha pos pins s1 σ H1 _ I1 q) fun us s2 ⟨vs,H2,I2,r,q2⟩=>⟨I2.lA,?_⟩) fE rR;exact Oy (us:= .ref a::us) (vs:= .ref a::vs) F hr hb hd hx I2 (.cons rfl r) q2
end
section
variable{X:Cx}{body xI:List Stmt}{b0:Stmt}{rest:List ExceptHandler}{c nm:Str}{cp Az pos:Pos}{tb:(St→XK)→TS}{th:TS}{i:Nat}{D:Addr}
def RU(K:Frag)(D:Addr)(i:Nat)(th:TS)(Ds:Ends):St→XK:=fun σ Cv dd H=>∃C,Cv= .ref C∧Under K C D∧∀(a:Addr),H a=some (.ext (cX a C dd false))→th (AJ i Ds) (σ.set i (some (.ref a))) H
def aap(K:Frag)(D:Addr)(i:Nat)(tb:(St→XK)→TS)(th:TS):TS:=fun Ds σ H=>tb (RU K D i th Ds) Ds σ H
theorem Ao(fE:X.stack=X.env::X.outer)(qJ:X.env.frame=some X.env.locals)(hN:X.N.Nodup)(hi:X.N[i]? =some nm)(E1:X.env.kindOf nm=some .local)(hg:Gl X c)(hm:X.mg c=some (.ref D))(hD:ExcC X.K D)
 (hb:∀(E:St→XK) (pn:aL) (W:Value→Shared→Prop),EK (X.pinned pn W) E→zr (X.pinned pn W) body (tb E)) (hs:∀a,zr (X.qa a fun _ _=>False) (b0::xI) th) (BU:(c==("__debug__" :Str))=false:=by decide):
 PS X (.Try body (.ExceptHandler (some (.Name c cp)) (some nm) (b0::xI) Az::rest) [] [] pos) (aap X.K D i tb th):=by
 intro pins s σ H Ds I h;refine wpAny_Try_except ?_
 have hw:EK (X.pinned pins fun e bE=>wpAny (model X.prog X.w) X.A (noteFrame e X.env) (fun _ pY=>wpAny (model X.prog X.w) X.A (setFlight e none) (fun _ vO=>wpAny (model X.prog X.w) X.A (handleBy e X.env (.ExceptHandler (some (.Name c cp)) (some nm) (b0::xI) Az::rest)) (SP X pins Ds) X.xe vO) X.xe pY) X.xe bE)
  (RU X.K D i th Ds):=by
  intro Ak cI H' s' a C dd n I' ea fl q;have J:Inv X pins cI H' s' :=I'.ofPinned I.ok
  have fl' :yb X pins H' s'.heap a:=by
   rcases fl with z|⟨T,oe,f,z1,z2,z3⟩
   ·exact .inl z
   ·exact .inr ⟨T,oe,f,z1,z2,fun p hp=>z3 p (List.mem_append_left _ hp)⟩
  obtain⟨C',eC,un,q⟩:=q;cases eC;refine z_ J fE qJ ea fl' fun s2 T I2 held=> ?_;have Ym:upd H' a (.ext (cX a C dd false)) a=some (.ext (cX a C dd false)):=ae;obtain⟨vs,he,hv,_⟩:=nT I2.bC Ym;refine wpAny_handleBy_cons (codeAny_handlers_test ?_) (by intro q;cases q);refine nE (I2.qa a fun _ _=>False) hg hm ?_ BU;obtain⟨nm1,q1,N1,bs1,bm1,IC,sn1,afJ,ab1,agI,dd1,k0,k1,k2,k3,k5,i1,lk,HP⟩:=un.ex;obtain⟨nm2,q2,N2,bs2,bm2,hd2,sn2,aoU,ab2,amX,dd2,j0,j1,j2,j3,j5,lk2,T2⟩:=hD.obj;have hC:=I2.lA _ _ lk;have hDD:=I2.lA _ _ lk2;obtain⟨w_,g2,d2,t2,os2⟩:=s2;refine vA hC hDD he rfl T2.hasBase HP ?_;refine codeAny_handlers_suite_as ?_;refine z9 I2 held fun s3 I3 Zd=> ?_;refine sU (X:=X.qa a fun _ _=>False) (I3.qa a fun _ _=>False) hN hi (.inl E1) (show RelV (.ref a) (.ref a) from rfl) (fun s4 I4=> ?_) (.inr E1);refine wpAny_mono (hs a pins s4 _ _ (AJ i Ds) I4 (q a Ym)) (fun f s5 z=> ?_) fun _ _ z=>z.elim;have AK:(X.env.scope.kind== .class||(X.env.scope.kind== .module&&X.env.locals !=X.env.globals))=false:=by rw[I.ok.kind];rfl
  have goes:∀{Fb:St} {H5:Hp} {Q:Unit→Shared→Prop},Inv X pins Fb H5 s5→(∀s6,Inv X pins (Fb.set i none) H5 s6→Q () s6)→wpAny (model X.prog X.w) X.A (do bindName X.env nm .none;unbindBehindTheSuite X.env nm Az) Q X.xe s5:=fun{Fb H5 Q} J5 hQ=>by
   obtain⟨m,hm5,_⟩:=id J5.loc;exact wpAny_nameGoes_keeps E1 hm5 AK fun h' v hn sb=>hQ _ (J5.Fz (t' :=s5.toks+1) hN hi hm5 hn sb)
  cases f with
  |next=>obtain⟨Fb,H5,I5,q5⟩:=z;exact goes (I5.qr I.ok) fun s6 I6=>⟨_,_,I6,q5⟩
  |brk=>obtain⟨Fb,H5,I5,q5⟩:=z;exact goes (I5.qr I.ok) fun s6 I6=>⟨_,_,I6,q5⟩
  |cont=>obtain⟨Fb,H5,I5,q5⟩:=z;exact goes (I5.qr I.ok) fun s6 I6=>⟨_,_,I6,q5⟩
  |ret u=>obtain⟨v,Fb,H5,I5,r5,q5⟩:=z;exact goes (I5.qr I.ok) fun s6 I6=>⟨v,_,_,I6,r5,q5⟩
 refine wpAny_mono (hb _ pins _ hw [] s σ H Ds (I.Cn _) h) (fun f s1 z=> ?_) fun _ _ z=>z
 cases f with
 |next=>obtain⟨cI,H',I',q⟩:=z;exact wpAny_execs_nil ⟨cI,H',I'.ofPinned I.ok,q⟩
 |brk=>obtain⟨cI,H',I',q⟩:=z;exact⟨cI,H',I'.ofPinned I.ok,q⟩
 |cont=>obtain⟨cI,H',I',q⟩:=z;exact⟨cI,H',I'.ofPinned I.ok,q⟩
 |ret u=>obtain⟨v,cI,H',I',r,q⟩:=z;exact⟨v,cI,H',I'.ofPinned I.ok,r,q⟩
end
theorem HM:typeLookup (.type "list") "keys"=pure none:=by rw[typeLookup_type,builtinLookup_eq_fast];kernel_rfl
section
variable{prog:Program}{w:World}{A:Around}{E:Value→Shared→Prop}{s:Shared}
theorem tX{a:Addr}{o:Obj}{xs:Array Value}{k:Nat}{Q:aH→Shared→Prop}
 (hx:s.heap.get? a=some o) (hc:o.cls= .type "list") (aao:o.data= .seq xs k) (hd:o.dict=none) (hA:A.handled=none)
 (h:∀h' tk,(∀b q,s.heap.get? b=some q→h'.get? b=some q)→Q none {s with heap:=h',toks:=tk}):
 wpAny (model prog w) A (getAttr? (.ref a) "keys") Q E s:=by
 obtain⟨c,dct,dat,sl⟩:=o;simp only at hc aao hd;subst hc aao hd;obtain⟨hp,g,d,tk,os⟩:=s;have hT:∀DT,(⟨hp,g,d,DT,os⟩:Shared).TypeIs (.ref a) "list":=fun _=>⟨_,hx,rfl⟩;have f1:=sub_AttributeError;have f3:=F.slot_list_getattribute.lookup;have f4:=F.slot_list_getattribute.bind (.ref a);have f5:=am_list_getattr_none;unfold getAttr? getAttrBy? getAttrBy
 repeat (any_goals (first|assumption|exact hT _|((with_reducible show wpAny _ _ (call (Value.builtin "list.__getattribute__") _ _) _ _ _);refine call_meets F.slot_list_getattribute (hT _) am_entry_list_getattribute (F.args_list_getattribute_2 _ _) (meets_getattribute_miss_list a xs k sl "keys" _ HM (by decide+kernel) (by size_fits)) ⟨hx,hA,fun h' DT e T3 => ?_⟩)|wp_step))
 obtain⟨t',u',he⟩:=T3.there;show wpAny _ _ (getattributeRaised _ _ _ _ _ _ _) _ _ _;unfold getattributeRaised
 repeat (any_goals (first|assumption|wp_step))
 exact h _ _ T3.keeps
theorem gD:entryFor table "dict.update.loop"=some Builtin.«dict.update.loop» :=entryFor_of_tree (by kernel_rfl)
theorem cn:plainId "dict.update.loop"=true:=by decide+kernel
theorem W1{a:Addr}{x y:Value}{h:Value→Sem (aA)}{Q:aA→Shared→Prop}(ht:s.heap.IsTuple a #[x,y])(hq:Q [x,y] s):wpAny (model prog w) A ((Builtin.Dict.pairItems (.ref a)).tryCatch h) Q E s:=by
 obtain⟨o,ho,hc,n,hd⟩:=ht;have hT:s.TypeIs (.ref a) "tuple":=⟨_,ho,hc⟩;refine wpAny_tryCatch ?_;unfold Builtin.Dict.pairItems;refine wpAny_bind (wpAny_typeOf hT ?_);rw[if_pos (by decide)];refine wpAny_bind (wpAny_seqItems ho hd ?_);exact wpAny_pure hq
end
section
variable{prog:Program}{w:World}{A:Around}{R:Result→Shared→Prop}{I:Addr}{fp wr:aY}{G:Array GenState→Array GenState→Prop}{n:Nat}{P:Nat→Value→Prop}{St:Nat→Shared→Prop}{κ:Type}[DecidableEq κ]{knd:KeyKind prog w κ}
theorem G6(vs:List (κ×Value))(k:κ)(v:Value):(stored vs k v).length≤vs.length+1:=by
 unfold stored
 split
 ·rw[List.length_map];lia
 ·rw[List.length_append];simp
theorem C4(vs ps:List (κ×Value))(p:κ×Value):merged vs (ps++[p])=stored (merged vs ps) p.1 p.2:=by
 unfold merged;rw[List.foldl_append];rfl
theorem G1(ps:List (κ×Value)):∀vs:List (κ×Value),(merged vs ps).length≤vs.length+ps.length:=by
 induction ps with
 |nil=>intro vs;exact Nat.le_refl _
 |cons p r ih=>
  intro vs;have h:=ih (stored vs p.1 p.2);have h2:=G6 vs p.1 p.2;show(merged (stored vs p.1 p.2) r).length≤_;rw[List.length_cons]
  lia
theorem Ib(W:WalksS prog w A.in1 I fp wr G n P St)(D:Addr)(Qk:D∉fp)(ps:List (κ×Value))(hn:ps.length=n)(hb:n≤sizeLine):
 ∀(k i:Nat) (s:Shared),n - i=k→i≤n→St i s→s.heap.DictOf knd D (merged [] (ps.take i))→
  (∀i v,P i v→∃a key q x,v= .ref a∧ps[i]? =some (q,x)∧knd.is q key=true∧a∉D::wr∧s.heap.IsTuple a #[key,x])→
  (∀s',Moved (D::wr) G s s'→s'.heap.DictOf knd D (merged [] ps)→R (.ok (.ret .none)) s')→
  codeAny (model prog w) A (.builtin "dict.update.loop" ⟨[.ref D,.ref I,rawInt i,.none],[]⟩) R s:=by
 have ZY:D∉wr:=fun h=>Qk (W.sub _ h);have DO:∀b∈wr,b∈D::wr:=fun b hb=>List.mem_cons_of_mem _ hb;intro k
 induction k with
 |zero=>
  intro i s hk hi fE hS hT hR;have HP:i=n:=by lia
  subst HP;refine codeAny_builtin gD ?_;rw[Around.under_plainId cn _];show wpAny _ A.in1 (pyNext (.ref I)>>= _) _ _ s;refine wpAny_bind (W.done s _ _ fE fun s' hm=> ?_);show wpAny _ A.in1 (Builtin.Dict.addKeywords D []>>= fun _=>ret Value.none) _ _ s';refine wpAny_bind (wpAny_pure (wpAny_pure (hR s' (hm.mono DO) ?_)));obtain⟨o,es,ep,ho,rest⟩:=hS;rw[List.take_of_length_le (by lia)] at rest;exact⟨o,es,ep,hm.heap D _ ZY ho,rest⟩
 |succ k ih=>
  intro i s hk hi fE hS hT hR;have eO:i<n:=by lia
  refine codeAny_builtin gD ?_;rw[Around.under_plainId cn _];show wpAny _ A.in1 (pyNext (.ref I)>>= _) _ _ s;refine wpAny_bind (W.item i s _ _ eO fE fun v s' hP Um hm=> ?_);obtain⟨a,key,q,x,rfl,hq,AI,ha,ht⟩:=hT i v hP;have keep:∀{b:Addr} {o:Obj},b∉D::wr→s.heap.get? b=some o→s'.heap.get? b=some o:=fun{b o} hb e=>hm.heap b o (fun z=>hb (DO b z)) e
  have ht' :s'.heap.IsTuple a #[key,x]:=by
   obtain⟨o,ho,rest⟩:=ht;exact⟨o,keep ha ho,rest⟩
  have O5 :s'.heap.DictOf knd D (merged [] (ps.take i)):=by
   obtain⟨o,es,ep,ho,rest⟩:=hS;exact⟨o,es,ep,hm.heap D _ ZY ho,rest⟩
  have hle:=G1 (ps.take i) [];rw[List.length_take] at hle;show wpAny _ A.in1 (holding [Value.ref a] _>>= _) _ _ s';refine wpAny_bind (wpAny_holding ?_);refine wpAny_bind (W1 ht' ?_);show wpAny _ A.in1 (holding [key,x] (dictSet D key x)) _ _ s';refine wpAny_holding ?_;refine wpAny_dictSet_pairs AI O5 (fun h' zt ID => ?_) (by simp at hle;lia)
  have e1:ps.take (i+1)=ps.take i++[(q,x)]:=by
   rw[List.take_add_one,hq];rfl
  refine wpAny_pure ⟨plainId_quiet cn _,?_⟩;have e2:rawInt ((i:Int)+1)=rawInt ((i+1:Nat):Int):=by rw[Int.natCast_add];rfl
  show codeAny _ _ (.builtin "dict.update.loop" ⟨[.ref D,.ref I,rawInt ((i:Int)+1),.none],[]⟩) _ _;rw[e2]
  have zK:∀{b:Addr} {o:Obj},b∉D::wr→s'.heap.get? b=some o→h'.get? b=some o:=fun{b o} hb e=>by
   rw[ID.2 b (fun z=>hb (by rw[z];exact List.mem_cons_self))];exact e
  refine ih (i+1) _ (by lia) eO (W.frame _ s' _ _ Um (Nat.le_succ _) fun b hb o e=> ?_) ?_ (fun j u hu=> ?_) fun Lu Wf US => ?_
  ·rw[ID.2 b (fun z=>Qk (by rw[←z];exact hb))];exact e
  ·show h'.DictOf knd D (merged [] (ps.take (i+1)));rw[e1,C4];exact zt
  ·obtain⟨a',aeD,q',x',h1,h2,h3,h4,o,ho,rest⟩:=hT j u hu;exact⟨a',aeD,q',x',h1,h2,h3,h4,o,zK h4 (keep h4 ho),rest⟩
  ·refine hR Lu (Moved.trans W.gtrans ((hm.mono DO).then_heap (Nat.le_succ _) fun b o hb e=> ?_) Wf) US;exact zK hb e
end
section
variable{prog:Program}{w:World}{A:Around}{E:Value→Shared→Prop}{s:Shared}{κ:Type}[DecidableEq κ]{knd:KeyKind prog w κ}
theorem EM{l:Addr}{items:Array Value}{ps:List (κ×Value)}{Q:Value→Shared→Prop}(hh:A.handled=none)(hl:s.heap.IsList l items)(hld:∀o,s.heap.get? l=some o→o.dict=none)(hn:ps.length=items.size)(hb:items.size≤sizeLine)
 (hT:∀(i:Nat) v,items[i]? =some v→∃a key q x,v= .ref a∧ps[i]? =some (q,x)∧knd.is q key=true∧s.heap.IsTuple a #[key,x])
 (h:∀(h' :Heap) (tk:Nat),h'.DictOf knd s.heap.objs.size (merged [] ps)→(∀b o,s.heap.get? b=some o→h'.get? b=some o)→Q (.ref s.heap.objs.size) {s with heap:=h',toks:=tk}):
 wpAny (model prog w) A (call (.type "dict") [.ref l]) Q E s:=by
 refine callType_codes (Q₁:=fun obj bE=>obj= .ref s.heap.objs.size∧bE={s with heap:=s.heap.push {cls:= .type "dict",data:= .dict #[]}}) F.kt_called_dict (F.kt_typeCall_dict_1 _) F.entry_dict_init (kt_code_dict_new _ ⟨rfl,rfl⟩) ?_
 rintro obj bE ⟨rfl,rfl⟩
 have Cb:(s.heap.push {cls:= .type "dict",data:= .dict #[]}).DictOf knd s.heap.objs.size []:=Heap.DictOf.new s.heap;obtain⟨ol,NL,vB,nl,VD⟩:=id hl;have EV :(s.heap.push {cls:= .type "dict",data:= .dict #[]}).get? l=some ol:=Heap.get?_push_of_some _ NL;have YE:l<s.heap.objs.size:=Heap.lt_size NL;refine⟨Cb.typeIs,F.args_dict_init_2 _ _,?_⟩;unfold Builtin.«dict.__init__»;refine wpAny_bind ?_;unfold Builtin.Dict.selfAndRest;refine wpAny_bind (wpAny_notOrdered_dict Cb.typeIs ?_);show wpAny _ _ (pure (s.heap.objs.size,[Value.ref l])) _ _ _;refine wpAny_pure ?_;show wpAny _ _ (Builtin.Dict.updateFrom "dict.__init__" s.heap.objs.size (.ref l) [] .none) _ _ _;unfold Builtin.Dict.updateFrom;have hTl:Shared.TypeIs {s with heap:=s.heap.push {cls:= .type "dict",data:= .dict #[]}} (.ref l) "list":=⟨_,EV,vB⟩;refine wpAny_bind (wpAny_typeOf hTl ?_);rw[if_pos (by decide)];refine wpAny_bind (tX EV vB VD (hld _ NL) (by simp[hh]) fun h2 tk2 k2=> ?_);rw[if_pos (show(none:aH).isNone=true from rfl)];refine wpAny_bind (wpAny_rule ?_);have mW:h2.IsList l items:=⟨ol,k2 _ _ EV,vB,nl,VD⟩;refine wpAny_bind (wpAny_pyIter_list (s:={s with heap:=h2,toks:=tk2}) mW ?_);refine wpAny_pure ⟨plainId_quiet cn _,?_⟩;have hold:∀b o,s.heap.get? b=some o→(h2.push {cls:= .type "list_iterator",data:= .fields #[.ref l,.int 0 0]}).get? b=some o:=fun b o e=>Heap.get?_push_of_some _ (k2 _ _ (Heap.get?_push_of_some _ e));have hD2:h2.get? s.heap.objs.size=some {cls:= .type "dict",data:= .dict #[]}:=k2 _ _ (Heap.get?_push_size _ rfl);have zk:s.heap.objs.size<h2.objs.size:=Heap.lt_size hD2;have Wv:l≠h2.objs.size:=Nat.ne_of_lt (Nat.lt_trans YE zk)
 have Qk:s.heap.objs.size∉[h2.objs.size,l]:=by
  simp only[List.mem_cons,List.not_mem_nil,or_false,not_or];exact⟨Nat.ne_of_lt zk,Nat.ne_of_gt YE⟩
 refine Ib (knd:=knd) ((Walks.list (by simp[hh]) _ l Wv items).toS) s.heap.objs.size Qk ps hn hb (items.size - 0) 0 _ (by lia) (Nat.zero_le _) ⟨⟨_,Heap.get?_push_size _ rfl,rfl,rfl⟩,(mW.push _)⟩ ?_ (fun i v hv=> ?_) fun s' hm zt => ?_
 ·obtain⟨o,es,ep,ho,rest⟩:=Cb;exact⟨o,es,ep,Heap.get?_push_of_some _ (k2 _ _ ho),rest⟩
 ·obtain⟨a,key,q,x,h1,SS,h3,o,ho,rest⟩:=hT i v hv;have eO:a<s.heap.objs.size:=Heap.lt_size ho;refine⟨a,key,q,x,h1,SS,h3,?_,o,hold _ _ ho,rest⟩;simp only[List.mem_cons,List.not_mem_nil,or_false,not_or];exact⟨Nat.ne_of_lt eO,Nat.ne_of_lt (Nat.lt_trans eO zk)⟩
 ·obtain⟨h',g',d',DT,os'⟩:=s';have eg:g' =s.gens:=hm.gens;have ed:d' =s.drawn:=hm.drawn;have eo:os' =s.os:=hm.os;subst eg;subst ed;subst eo
  refine⟨rfl,h h' DT zt fun b o e=> ?_⟩;have hb1:b<s.heap.objs.size:=Heap.lt_size e;refine hm.heap b o ?_ (hold _ _ e);simp only[List.mem_cons,List.not_mem_nil,or_false,not_or];exact⟨Nat.ne_of_lt hb1,Nat.ne_of_lt (Nat.lt_trans hb1 zk)⟩
end
section
variable{X:Cx}
def Gv(H:Hp)(ys:az)(kvs:bJ):Prop:=ys.length=kvs.length∧∀(i:Nat) k v,kvs[i]? =some (k,v)→∃a,ys[i]? =some (.ref a)∧H a=some (.tup [kV k,v])
theorem jaC{kvs:bJ}:∀(R:Nat→wp→V→Value→Prop),(∀(i:Nat) k v,kvs[i]? =some (k,v)→∃x,RelV v x∧R i k v x)→∃ps:List (wp×Value),KV kvs ps∧∀(i:Nat) k v,kvs[i]? =some (k,v)→∃x,ps[i]? =some (k,x)∧R i k v x:=by
 induction kvs with
 |nil=>exact fun R _=>⟨[],.nil,fun i k v e=>by simp at e⟩
 |cons p r ih=>
  intro R h;obtain⟨k0,v0⟩:=p;obtain⟨x0,r0,h0⟩:=h 0 k0 v0 rfl;obtain⟨ps,Ku,hi⟩:=ih (fun i=>R (i+1)) fun i k v e=>h (i+1) k v (by simpa using e);refine⟨(k0,x0)::ps,.cons ⟨rfl,r0⟩ Ku,fun i k v e=> ?_⟩
  cases i with
  |zero=>
   simp at e;obtain⟨rfl,rfl⟩:=e;exact⟨x0,rfl,h0⟩
  |succ i=>
   obtain⟨x,e1,e2⟩:=hi i k v (by simpa using e);exact⟨x,by simpa using e1,e2⟩
theorem vU(hc:X.calm=true):f_ X (.type "dict") (fun xs H Q=>∃p ys kvs,xs=[.ref p]∧H p=some (.lst ys)∧Gv H ys kvs∧∀d,H d=none→Q (.ref d) (upd H d (.dK (mH [] kvs)))):=by
 intro pins s σ H xs us Q I r h;obtain⟨p,ys,kvs,rfl,hq,⟨hlen,hP⟩,q⟩:=h;obtain⟨u,rfl,rx⟩:=xL r;cases rx;obtain⟨hz,its,n,r',e0⟩:=(show bq X.prog X.w H s.heap p (.lst ys) from I.bC p _ hq);have hl:=r'.length
 obtain⟨ps,Ku,hi⟩:=jaC (kvs:=kvs) (fun i k v x=>∃a key,its[i]? =some (.ref a)∧RelV (kV k) key∧s.heap.IsTuple a #[key,x]) fun i k v e=>by
  obtain⟨a,ea,eH⟩:=hP i k v e;obtain⟨u,hu,ru⟩:=r'.get ea;cases ru;obtain⟨_,us,rus,o,h1,h2,n,h3⟩:=(show bq X.prog X.w H s.heap a (.tup [kV k,v]) from I.bC a _ eH);obtain⟨key,x,rfl,r1,r2⟩:=XV rus;exact⟨x,r2,a,key,hu,r1,o,h1,h2,n,h3⟩
 have rR:=Ku.length;refine EM (knd:=bI X.prog X.w) (I.ok.hd hc) ⟨_,e0,rfl,n,rfl⟩ (fun o e=> ?_) (ps:=ps) (by simp;lia) (by simp;lia) (fun i v hv=> ?_) fun h' tk hd kp=> ?_
 ·rw[e0] at e;cases e;rfl
 ·have hv:its[i]? =some v:=by simpa using hv
  have xG:i<kvs.length:=by
   have:=(List.getElem?_eq_some_iff.mp hv).1
   lia
  obtain⟨x,e1,a,key,e2,r1,ht⟩:=hi i kvs[i].1 kvs[i].2 (by simp[xG]);rw[e2] at hv;cases hv;exact⟨a,key,kvs[i].1,x,rfl,e1,vi r1,ht⟩
 ·have hle:=mr kvs [];simp at hle;exact⟨.ref s.heap.objs.size,_,I.laid (t' :=tk) kp (Nat.le_refl _) (wK (by lia) (qe (P:=X.prog) (w:=X.w) (H:=H) s.heap I.big).2.1 (Ku.merge .nil) hd),rfl,q _ (I.bC.fresh (Nat.le_refl _))⟩
theorem p4:f_ X (.type "dict") (fun xs H Q=>∃p kvs,xs=[.ref p]∧H p=some (.dK kvs)∧∀d,H d=none→Q (.ref d) (upd H d (.dK kvs))):=by
 intro pins s σ H xs us Q I r h;obtain⟨p,kvs,rfl,hq,q⟩:=h;obtain⟨u,rfl,rx⟩:=xL r;cases rx;obtain⟨hz,hs,vs,rel,dd⟩:=xl I.bC hq;have hl:=rel.length;refine kt_call_dict (knd:=bI X.prog X.w) hs dd (by lia) fun h' hd hsb=> ?_
 have kp:∀b o,s.heap.get? b=some o→h'.get? b=some o:=fun b o e=>by
  rw[hsb.2 b (Nat.ne_of_lt (Heap.lt_size e))];exact Heap.get?_push_of_some _ e
 exact⟨.ref s.heap.objs.size,_,I.laid (t' :=s.toks) kp (Nat.le_refl _) (wK hz (qe (P:=X.prog) (w:=X.w) (H:=H) s.heap I.big).2.1 rel hd),rfl,q _ (I.bC.fresh (Nat.le_refl _))⟩
end
def lJ(v d:Addr):HO:= .ext fun h=>h.IsItemsView v d
def Uq(x:V)(vs:az)(H:Hp)(Q:VK):Prop:=∃d kvs,x= .ref d∧vs=[]∧H d=some (.dK kvs)∧∀v,H v=none→Q (.ref v) (upd H v (lJ v d))
theorem Cf{X:Cx}:Pu X "dict.items" Uq:=by
 intro pins s σ H x vs v us Q I rx rv h;obtain⟨d,kvs,rfl,rfl,hH,q⟩:=h;cases rx;have Xj:=rv.zero;subst Xj;obtain⟨hz,hs,vs,rel,dd⟩:=xl I.bC hH;refine call_meetsIn slot_dict_items dd.typeIs entry_dict_items (args_dict_items_1 _) (meets_dict_items (bI X.prog X.w) d hs) ⟨⟨vs,dd⟩,?_⟩;refine⟨.ref s.heap.objs.size,_,I.laid (a:=s.heap.objs.size) (o:=lJ s.heap.objs.size d) (t' :=s.toks) (fun _ _ q=>Heap.get?_push_of_some _ q) (Nat.le_refl _) ?_,rfl,q _ (I.bC.fresh (Nat.le_refl _))⟩;refine⟨⟨_,Heap.get?_push_size _ rfl,rfl,rfl⟩,⟨_,Heap.get?_push_size _ rfl⟩,fun h1 h2 ⟨o,e,r⟩ k=>⟨o,k _ e,r⟩⟩
def W4(d:Addr)(o:Obj)(kvs:bJ):It:=
 ⟨fun i H=>i<kvs.length∧H d=some (.gE o (.dK kvs)),fun i H x H' =>∃T k v,x= .ref T∧H T=none∧H' =upd H T (.tup [kV k,v])∧kvs[i]? =some (k,v),fun i H=>kvs.length≤i∧H d=some (.gE o (.dK kvs))⟩
theorem V_{kvs:bJ}{vs:List (wp×Value)}(r:KV kvs vs):∀{i:Nat} {p:wp×V} {k:wp} {x:Value},kvs[i]? =some p→vs[i]? =some (k,x)→RelV p.2 x:=by
 unfold KV at r
 induction r with
 |nil=>intro i p k x h;simp at h
 | @cons a b as bs h t ih=>
  intro i p k x h1 h2
  cases i with
  |zero=>
   simp at h1 h2;subst h1 h2;exact h.2
  |succ i=>exact ih (by simpa using h1) (by simpa using h2)
theorem D3{P:Program}{w:World}{K:Frag}{elts:cQ}{kt:Nat}{pt:Pos}(d it:Addr)(o:Obj)(kvs:bJ)(ep:Nat)(es:Array DictEntry)(hd:o.data= .dict es ep):
 Turn P w K (.Tuple elts kt pt) (W4 d o kvs) [it] it (fun i h=>∃ok ov,IsItemIter h it d i kvs.length ep ok ov) where
 mem:=by simp
 obj:=fun i h st b hb=>by
  have e:b=it:=by simpa using hb
  subst e;obtain⟨ok,ov,e⟩:=st;exact⟨_,e,fun v z=>by cases z⟩
 keep:=fun i h h' st k=>by
  obtain⟨ok,ov,e⟩:=st;exact⟨ok,ov,k it (by simp) _ e⟩
 item:=by
  intro X hP hw hK hc i pins s σ H E I hf st hg;subst hP hw hK;obtain⟨hi,hq⟩:=hg;obtain⟨ho,z,hs,vs,rel,o',Pb,PR,g1,g2,g3,g4,g5,g6⟩:=(show bq X.prog X.w H s.heap d (.gE o (.dK kvs)) from I.bC d _ hq);rw[ho] at g1;cases g1;rw[hd] at g3;cases g3;have hl:=rel.length;obtain⟨⟨k,x⟩,hx⟩:∃p,vs[i]? =some p:=⟨vs[i],by simp[show i<vs.length by omega]⟩;obtain⟨f0,f1,f2,f3,f4,f5⟩:=hf it (by simp);obtain⟨ok,ov,st⟩:=st;rw[hl] at st;have JC:it<s.heap.objs.size:=Heap.lt_size st
  obtain⟨p,hp,Hj,w_⟩:∃p:wp×V,kvs[i]? =some p∧p.1=k∧RelV p.2 x:=by
   have:kvs[i]? =some kvs[i]:=by simp[hi]
   exact⟨_,this,JD rel this hx,V_ rel this hx⟩
  obtain⟨pk,pv⟩:=p;have Hj:pk=k:=Hj;subst Hj;refine wpAny_pyNext_items_item (knd:=bI X.prog X.w) st ⟨o,es,ho,g2,hd,g4,g5,g6⟩ hx fun key h' AI Vj hT hsz hk=> ?_;refine⟨.ref s.heap.objs.size,rfl,?_⟩;refine wpAny_letOwnedTupleGo_items Vj fun GI Li Ax => ?_;have zE:H s.heap.objs.size=none:=I.bC.fresh (Nat.le_refl _);have DV:s.heap.objs.size≠it:=Nat.ne_of_gt JC;have kk:∀b o,b≠it→s.heap.get? b=some o→GI.get? b=some o:=fun b o hb q=>(Ax.2 b hb).trans (hk b o hb q);have Kg :GI.get? s.heap.objs.size=some {cls:= .type "tuple",data:= .seq #[key,x]}:=(Ax.2 _ DV).trans hT;have jA:∀b u,H b=some u→b≠it:=fun b u q z=>by rw[z,f0] at q;cases q
  have I2:Inv X pins σ (upd H s.heap.objs.size (.tup [kV pk,pv])) {s with heap:=GI}:=by
   have new:bq X.prog X.w (upd H s.heap.objs.size (.tup [kV pk,pv])) GI s.heap.objs.size (.tup [kV pk,pv]):=⟨(show 2≤sizeLine by decide),[key,x],.cons (SY AI) (.cons w_ .nil),⟨_,Kg,rfl,_,rfl⟩⟩
   refine I.step (g' :=s.gens) (d' :=s.drawn) (ch:=[it]) (fun b hb=> ?_) (fun b o _ _ hc q _=>kk b o (fun z=>hc (by simp[z])) q) (fun b o _ _ hc q _=>⟨o.slots,kk b o (fun z=>hc (by simp[z])) q⟩)
    (fun b o _ q n=> ?_) (fun b o hc q=>⟨o,kk b o (fun z=>hc (by simp[z])) q⟩) (fun b ys q=> ?_) (fun b o ys q=> ?_) (fun b ps q=>⟨#[],?_⟩) (fun m hm=> ?_) (fun b u q=> ?_) I.bare
   ·have hb:b=it:=by simpa using hb
    subst hb;exact⟨f3,f1,f4,f5⟩
   ·rw[af (Nat.ne_of_lt (Heap.lt_size q))];exact n
   ·rw[af (ag q zE)];exact q
   ·rw[af (ag q zE)];exact q
   ·rw[af (ag q zE),q];simp
   ·obtain⟨o,es,ep,q,r⟩:=hm;exact⟨o,es,ep,kk _ o (Ne.symm f1) q,r⟩
   ·by_cases hb:b=s.heap.objs.size
    ·subst hb;rw[ae] at q;cases q;exact new
    ·rw[af hb] at q;refine(I.bC b u q).qQ (fun c v hc q' =>kk c v ?_ q') (fun c q' => ?_) fun c ys q' => ?_
     ·rcases hc with z|z
      ·rw[z];exact jA b u q
      ·exact jA c _ z
     ·rw[af (ag q' zE)];exact q'
     ·rw[af (ag q' zE)];exact q'
  refine⟨.ref s.heap.objs.size,_,I2,rfl,⟨_,pk,pv,rfl,zE,rfl,hp⟩,⟨_,_,by rw[hl];exact Li⟩,fun b hb=> ?_⟩;have hb:b=it:=by simpa using hb
  subst hb;rw[af (Ne.symm DV)];exact f0
 done:=by
  intro X hP hw hK hc i pins s σ H E I hf st hg;subst hP hw hK;obtain⟨hi,hq⟩:=hg;obtain⟨ho,z,hs,vs,rel,o',Pb,PR,g1,g2,g3,g4,g5,g6⟩:=(show bq X.prog X.w H s.heap d (.gE o (.dK kvs)) from I.bC d _ hq);rw[ho] at g1;cases g1;rw[hd] at g3;cases g3;have hl:=rel.length;obtain⟨f0,f1,f2,f3,f4,f5⟩:=hf it (by simp);obtain⟨ok,ov,st⟩:=st;rw[hl] at st;exact wpAny_pyNext_items_end (knd:=bI X.prog X.w) (I.ok.hd hc) st ⟨o,es,ho,g2,hd,g4,g5,g6⟩ (by simp;omega) fun h' eb=>⟨rfl,I.turned (t' :=s.toks) (fun b ob hb e=>eb b ob hb e) f0 f1 f3 f4 f5⟩
 self:=fun _ _ _ _ _ st h=>by
  obtain⟨ok,ov,st⟩:=st;exact kcp_self st h
section
variable{X:Cx}{e:Expr}{te:TE}{elts:cQ}{kt:Nat}{pt:Pos}
def UR(X:Cx)(te:TE):TI:=fun σ H R=>te σ H fun x H1=>∃v d kvs,x= .ref v∧H1 v=some (lJ v d)∧H1 d=some (.dK kvs)∧∀o,Jw X d→R (W4 d o kvs) (upd H1 d (.gE o (.dK kvs)))
theorem Cz(he:PE X e te):PI X (.Tuple elts kt pt) e (UR X te):=by
 intro pins s σ H R I h;refine ck (he pins s σ H _ I h) fun v s1 ⟨x,H1,I1,r1,v',a,kvs,ex,hv,hq,q⟩=> ?_;subst ex;cases r1;obtain⟨z,hs,vs,rel,o,es,ep,g1,g2,g3,g4,g5,g6⟩:=xl I1.bC hq;obtain⟨Lw,_⟩:=(show bq X.prog X.w H1 s1.heap v' (lJ v' a) from I1.bC v' _ hv);have hl:=rel.length;refine wpAny_pyIter_items (knd:=bI X.prog X.w) (kvs:=vs) (ep:=ep) Lw ⟨o,es,g1,g2,g3,g4,g5,g6⟩ ?_;have I2:=I1.freeze hq g1;have hn:H1 s1.heap.objs.size=none:=I1.bC.fresh (Nat.le_refl _);have hf:uH X pins (upd H1 a (.gE o (.dK kvs))) s1.heap.objs.size:=I1.BP (Nat.le_refl _) (by rw[af (fun z=>by rw[z,hq] at hn;cases hn)];exact hn);refine⟨s1.heap.objs.size,[s1.heap.objs.size],_,_,_,rfl,I2.kept (t' :=s1.toks) fun b ob e=>Heap.get?_push_of_some _ e,D3 a _ o kvs ep es g3,⟨_,_,by rw[hl];exact Heap.get?_push_size _ rfl⟩,fun b hb=> ?_,q o (I1.nfz hq)⟩;have e:b=s1.heap.objs.size:=by simpa using hb
 subst e;exact hf
def Wa(X:Cx)(t:TS):TS:=fun D σ H=>t {D with nx:=fun cI H' =>∃d o kvs,H' d=some (.gE o (.dK kvs))∧Jw X d∧D.nx cI (upd H' d (.dK kvs))} σ H
theorem Pq{st:Stmt}{t:TS}(h:PS X st t):PS X st (Wa X t):=by
 intro pins s σ H D I q;refine ck (h pins s σ H _ I q) fun f s1 q1=> ?_
 cases f with
 |next=>
  obtain⟨cI,H',I',d,o,kvs,ed,nf,q'⟩:=q1;exact⟨cI,_,I'.Zi ed nf,q'⟩
 |brk=>exact q1
 |cont=>exact q1
 |ret u=>exact q1
end
theorem DG{d:Addr}{o:Obj}{kvs:bJ}{H:Hp}(h:H d=some (.gE o (.dK kvs))):qd (W4 d o kvs) H kvs.length (fun i x H' =>∃T k v,x= .ref T∧H' T=some (.tup [kV k,v])∧kvs[i]? =some (k,v)) where
 go:=fun i H' s hi=>⟨hi,s _ _ h⟩
 wy:=fun i H' x lC s hi q=>by
  obtain⟨T,k,v,rfl,hT,rfl,hy⟩:=q;exact⟨au.upd hT,T,k,v,rfl,ae,hy⟩
 stop:=fun i H' s hi=>⟨hi,s _ _ h⟩
section
variable{prog:Program}{w:World}{A:Around}{E:Value→Shared→Prop}{s:Shared}
end
section
variable{X:Cx}{pos:Pos}
theorem Hs{d:Addr}{o:Obj}{kvs:bJ}{g:TG}{tb:TS}{D:Ends}{σ:St}{H:Hp}(Pv:Nat→St→Hp→Prop)(h0:Pv 0 σ H)(hl:∀i σ H,Pv i σ H→H d=some (.gE o (.dK kvs)))
 (hs:∀i k v T σ H,kvs[i]? =some (k,v)→H T=none→Pv i σ H→g (.ref T) σ (upd H T (.tup [kV k,v])) fun oB H2=>tb {D with nx:=Pv (i+1),ct:=Pv (i+1),bk:=D.nx} oB H2) (hd:∀σ H,Pv kvs.length σ H→D.nx σ H):
 ∃W:Nat→Nat→St→Hp→Prop,(∃m,W 0 m σ H)∧∀i m σ H,W i m σ H→
  ((W4 d o kvs).stop i H∧D.nx σ H)∨((W4 d o kvs).go i H∧∃N:St→Hp→Prop,(∀cI H',N cI H'→∃m',m' <m∧W (i+1) m' cI H')∧∀x H',(W4 d o kvs).wy i H x H'→g x σ H' fun oB H2=>tb {D with nx:=N,ct:=N,bk:=D.nx} oB H2):=by
 refine⟨fun i m σ H=>m=kvs.length - i∧i≤kvs.length∧Pv i σ H,⟨kvs.length,by simp,Nat.zero_le _,h0⟩,?_⟩
 rintro i m σ H ⟨rfl,hi,p⟩
 have q:=hl i σ H p;by_cases eO:i<kvs.length
 ·refine .inr ⟨⟨eO,q⟩,Pv (i+1),fun cI H' p' =>⟨kvs.length - (i+1),by lia,rfl,eO,p'⟩,fun x H' y=> ?_⟩;obtain⟨T,k,v,rfl,hT,rfl,e⟩:=y;exact hs i k v T σ _ e hT p
 ·have e:i=kvs.length:=by lia
  subst e;exact .inl ⟨⟨Nat.le_refl _,q⟩,hd σ H p⟩
theorem rq{K:Frag}(hK:X.K=K):f_ X (.type "list") (fun xs H Q=>∃p ys,xs=[.ref p]∧(bA K H p ys∨qS K H p ys)∧∀l,H l=none→Q (.ref l) (upd H l (.lst ys))):=by
 subst hK;exact g_
end
section
variable{X:Cx}{e hi Zz:Expr}{te th ts:TE}{pos p2:Pos}
end
section
variable{X:Cx}
theorem pR{K:Frag}(hK:X.K=K):f_ X (.type "tuple") (fun xs H Q=>∃p ys,xs=[.ref p]∧((bA K H p ys∧∀l,H l=none→Q (.ref l) (upd H l (.tup ys)))∨(qS K H p ys∧Q (.ref p) H))):=by
 subst hK;exact gv
variable{o e:Expr}{es:cQ}{to:TE}{t:TA}{name:Str}{apos fk:Pos}{T id:String}{r:V→az→Hp→VK→Prop}
theorem Mh{K:Frag}(hK:X.K=K)(pa:PlainAttrs T)(slot:Slot T name id)(XX:typeOf (.builtin id)=pure (.type "method_descriptor"))(hm:Pu X id r)(ho:PE X o to)(ha:PA X (e::es) t)
 (ug:attributeBase o name X.env (eval o X.env)=eval o X.env:=by rfl)
 (U8:((backTo fk (starEach (e::es) X.env)).all (fun x=> !x.1)&&(backToKw fk (keywordEach [] X.env)).all (fun x=>x.1.isSome)
  &&decide ((e::es).length+([]:List Keyword).length+(if([]:List Keyword).isEmpty then 0 else 1)<30))=true:=by rfl)
 (Dx:(apos.endLine==fk.line)=true:=by rfl) (hs:starEach (e::es) X.env=(false,eval e X.env)::starEach es X.env:=by rfl) (EZ:(backTo fk (starEach es X.env)).any (·.1)=false:=by rfl):
 PE X (.Call (.Attribute o name apos) (e::es) [] fk) (tBM K T r to t):=by
 subst hK;exact vy pa slot XX hm ho ha ug U8 Dx hs EZ
end
end L2
namespace L2
open PySem PySem.Spec PySem.SeqAt PyProof.Rows
section
variable{X:Cx}
def Vr(H:Hp)(i j:Int):Value→Bool
 | .ref a=>match H a with
  |some (.tup [.int x,.int y])=>x==i&&y==j
  |_=>false
 |_=>false
theorem E3{A:Around}{s:Shared}{a t:Addr}{x y i j:Int}{t1 t2 t3 t4:Tok}(ha:s.heap.IsTuple a #[.int x t1,.int y t2])(ht:s.heap.IsTuple t #[.int i t3,.int j t4])(hu:A.units<cLine)(jA:a≠t):EqAt A s (.ref a) (.ref t) (x==i&&y==j):=by
 have h:=EqAt.of_refs jA (RcAt.tuples (e:=fun k=>if k=0 then x==i else y==j) ha ht hu fun k h1 h2=> ?_)
 ·have e:((List.range (min (#[Value.int x t1,Value.int y t2]:Array Value).size (#[Value.int i t3,Value.int j t4]:Array Value).size)).all (fun k=>if k=0 then x==i else y==j)&&(#[Value.int x t1,Value.int y t2]:Array Value).size==(#[Value.int i t3,Value.int j t4]:Array Value).size)=(x==i&&y==j):=by
   show((List.range 2).all (fun k=>if k=0 then x==i else y==j)&&true)=_;rw[Bool.and_true];show((x==i)&&((y==j)&&true))=_;rw[Bool.and_true]
  rw[e] at h;exact h
 ·have hk:k<2:=h1
  match k,hk with
  |0,_=>exact EqAt.int_int x t1 i t3
  |1,_=>exact EqAt.int_int y t2 j t4
theorem CI{x y:Int}{its:aA}(r:Vals [V.int x,V.int y] its):∃t1 t2,its=[.int x t1,.int y t2]:=by
 cases r with
 |cons r1 r=>
  cases r with
  |cons r2 r=>
   cases r;obtain⟨t1,rfl⟩:=r1;obtain⟨t2,rfl⟩:=r2;exact⟨t1,t2,rfl⟩
theorem CA(hu:X.A.units+100<cLine):qD X (compareOp .NotIn) (fun x y H Q=>∃(t p:Addr) (i j:Int) (qs:aY),x= .ref t∧y= .ref p∧H t=some (.tup [.int i,.int j])∧H p=some (.lst (qs.map V.ref))∧(∀a∈qs,∃i' j' :Int,H a=some (.tup [.int i',.int j']))∧Q (.bl (!qs.any fun a=>Vr H i j (.ref a))) H):=by
 intro pins s σ H x y v u Q I rx ry h;obtain⟨t,p,i,j,qs,rfl,rfl,ht,hp,hq,q⟩:=h;cases rx;cases ry;obtain⟨its,r,pl,hz⟩:=I.list (bA.of hp);obtain⟨itt,rt,pt,_⟩:=I.tuple (qS.of ht);have e1:=As r;subst e1;obtain⟨t1,t2,rfl⟩:=CI rt;refine SeqAt.notIn_listAt (Vr H i j) pl.isList (fun w hw=> ?_) ⟨.bl _,H,I,rfl,?_⟩
 ·have hw:w∈qs.map Value.ref:=by simpa using hw
  obtain⟨a,ha,rfl⟩:=List.mem_map.mp hw;obtain⟨x,y,hx⟩:=hq a ha
  have hb:Vr H i j (.ref a)=(x==i&&y==j):=by
   show(match H a with|some (.tup [.int x,.int y])=>x==i&&y==j|_=>false)=_;rw[hx]
  rw[hb]
  have sN:X.A.in1.units<cLine:=by
   show X.A.units+1<cLine
   lia
  by_cases jA:a=t
  ·subst jA;rw[ht] at hx;cases hx;rw[beq_self_eq_true,beq_self_eq_true];exact EqAt.same _
  ·obtain⟨itx,rx,px,_⟩:=I.tuple (qS.of hx);obtain⟨t3,t4,rfl⟩:=CI rx;exact E3 px pt sN jA
 ·have e:(qs.map Value.ref).toArray.any (Vr H i j)=qs.any fun a=>Vr H i j (.ref a):=by
   rw[List.any_toArray,List.any_map];rfl
  rw[e];exact q
end
section
variable{prog:Program}{w:World}{A:Around}{E:Value→Shared→Prop}{s:Shared}
structure VP(h:Heap)(d:Addr)(o:Obj)(es:Array DictEntry)(ep:Nat):Prop where
 at_:h.get? d=some o
 ex:o.ExactDict
 da:o.data= .dict es ep
theorem GS(d:Addr)(hd:(d==sysModules)=false):MeetsIn prog w (Builtin.«dict.items» ⟨[.ref d],[]⟩) (fun _ R s=>s.TypeIs (.ref d) "dict" ∧R (.ok (.ret (.ref s.heap.objs.size))) {s with heap:=s.heap.push {cls:= .type "dict_items",data:= .fields #[.ref d]}}):= .of_wp fun A R s ⟨ht,h⟩=>by
 have hn:¬((d==sysModules)=true):=by rw[hd];decide
 unfold Builtin.«dict.items»;refine wpAny_bind ?_
 unfold Builtin.Dict.noArgs;refine wpAny_bind (wpAny_notOrdered_dict ht ?_)
 refine wpAny_pure ?_;show wpAny _ _ (Builtin.Dict.showsAll d>>= _) _ _ s
 unfold Builtin.Dict.showsAll;rw[if_neg hn]
 refine wpAny_bind (wpAny_pure (wpAny_bind (wpAny_newObj_type (wpAny_pure ⟨_,rfl,h⟩))))
theorem L3{v d:Addr}{o:Obj}{es:Array DictEntry}{ep:Nat}{Q:Value→Shared→Prop}(hv:s.heap.IsItemsView v d)(hm:VP s.heap d o es ep)
 (hQ:Q (.ref s.heap.objs.size) {s with heap:=s.heap.push {cls:= .type "dict_itemiterator",data:= .fields #[.none,.bool false,.ref d,.int 0 0,.int es.size 0,.int ep 0,.none,.none]}}):
 wpAny (model prog w) A (pyIter (.ref v)) Q E s:=by
 obtain⟨ov,v1,v2,v3⟩:=id hv;refine wpAny_pyIter_slot hv.typeIs F.slot_dict_items_iter (wpAny_call_entry F.slot_dict_items_iter hv.typeIs F.entry_dict_items_iter ?_ (F.args_dict_items_iter_1 _));unfold Builtin.«dict_items.__iter__»;refine wpAny_bind (wpAny_pure (wpAny_bind ?_))
 unfold Builtin.Dict_items.dictOf;refine wpAny_bind (wpAny_field v1 v3 (x:= .ref d) rfl (wpAny_pure (wpAny_bind ?_)))
 unfold Builtin.Dict_items.newIterator;refine wpAny_bind (wpAny_dictEntries hm.at_ hm.da (wpAny_bind (wpAny_dictEpoch hm.at_ hm.da ?_)))
 simp only[show Builtin.Dict_items.ownsTuple "dict_itemiterator"=true by decide,if_true];refine wpAny_newObj_type (wpAny_pure ⟨_,rfl,"dict_itemiterator",_,⟨_,Heap.get?_push_size _ rfl,rfl⟩,F.slot_dict_itemiterator_next.lookup,by simpa[rawInt,Builtin.Dict_items.ownedTupleFields] using hQ⟩) ?_;simp only[sizeOk,Builtin.Dict_items.ownedTupleFields,List.size_toArray,List.length_append,List.length_cons,List.length_nil,sizeLine_eq];lia
theorem MH{it d:Addr}{i ep:Nat}{o:Obj}{es:Array DictEntry}{en:DictEntry}{ok ov:Value}{Q:aH→Shared→Prop}(hit:IsItemIter s.heap it d i es.size ep ok ov)(hm:VP s.heap d o es ep)(hx:es[i]? =some en)
 (hQ:∀h',IsItemIterOut h' it d (i+1) es.size ep en.key en.val s.heap.objs.size→h'.get? s.heap.objs.size=some {cls:= .type "tuple",data:= .seq #[en.key,en.val]}→h'.objs.size=s.heap.objs.size+1→(∀b o,b≠it→s.heap.get? b=some o→h'.get? b=some o)→Q (some (.ref s.heap.objs.size)) {s with heap:=h'}):
 wpAny (model prog w) A (pyNext (.ref it)) Q E s:=by
 obtain⟨hp,g,dr,tk,os⟩:=s;have hT:Shared.TypeIs ⟨hp,g,dr,tk,os⟩ (.ref it) "dict_itemiterator":=⟨_,hit,rfl⟩;have eO:i<es.size:=(Array.getElem?_eq_some_iff.mp hx).1;have VY:Builtin.Dict_items.ownsTuple "dict_itemiterator"=true:=by decide
 have jA:¬((Value.ref d==Value.none)=true):=Bool.false_ne_true;have HP:¬((i:Int)<0):=by lia
 unfold pyNext;refine wpAny_bind (wpAny_attempt (wpAny_callSpecial?_slot (name:=Str.ofString "__next__") hT F.slot_dict_itemiterator_next (wpAny_call_entry F.slot_dict_itemiterator_next hT F.entry_dict_itemiterator_next ?_ (F.args_dict_itemiterator_next_1 _))))
 refine wpAny_bind (wpAny_pure (wpAny_bind (wpAny_bind ?_)))
 first|refine wpAny_bind (wpAny_typeNameOfWhole_itemiter hT (wpAny_pure (wpAny_bind (wpAny_fieldsOf hit rfl ?_))))|refine wpAny_bind (wpAny_typeNameOf_itemiter hT (wpAny_pure (wpAny_bind (wpAny_fieldsOf hit rfl ?_))))
 simp only[VY,if_true];show wpAny _ _ (if(Value.ref d==Value.none)=true then _ else _) _ _ _;rw[if_neg jA]
 refine wpAny_bind (wpAny_pure (wpAny_bind (wpAny_dictEntries hm.at_ hm.da ?_)));rw[if_neg (by simp)]
 refine wpAny_bind (wpAny_pure (wpAny_bind (wpAny_dictEpoch hm.at_ hm.da ?_)));rw[if_neg (by simp)]
 refine wpAny_pure ?_;simp only[HP,if_false,Int.toNat_natCast,hx]
 refine wpAny_bind ?_
 first|refine wpAny_bind (wpAny_typeNameOfWhole_itemiter hT (wpAny_pure (wpAny_bind (wpAny_isOneOf_itemiter hT ?_))))|refine wpAny_bind (wpAny_typeNameOf_itemiter hT (wpAny_pure (wpAny_bind (wpAny_isOneOf_itemiter hT ?_))))
 show wpAny _ _ (setField (.ref it) 3 (rawInt ((i:Int)+1))>>= _) _ _ ⟨hp,g,dr,tk,os⟩;refine wpAny_bind (wpAny_setField_rec hit (by simp) fun h1 e1 s1=> ?_);replace s1:Heap.SameBut it hp h1:=s1
 replace e1:IsItemIter h1 it d (i+1) es.size ep ok ov:=by
  have e:((i+1:Nat):Int)=(i:Int)+1:=by lia
  unfold IsItemIter;rw[e];simpa[rawInt] using e1
 have T1:Shared.TypeIs ⟨h1,g,dr,tk,os⟩ (.ref it) "dict_itemiterator":=⟨_,e1,rfl⟩;refine wpAny_bind (wpAny_holding (wpAny_bind (wpAny_isOneOf_itemiter T1 (wpAny_bind (wpAny_isOneOf_itemiter T1 ?_)))));show wpAny _ _ (Builtin.Dict_items.pairFromOwner (.ref it) 6 en.key en.val) _ _ ⟨h1,g,dr,tk,os⟩;unfold Builtin.Dict_items.pairFromOwner;refine wpAny_bind (wpAny_newTuple ?_)
 have z1:h1.objs.size=hp.objs.size:=s1.1;have e2:IsItemIter (h1.push {cls:= .type "tuple",data:= .seq #[en.key,en.val]}) it d (i+1) es.size ep ok ov:=Heap.get?_push_of_some _ e1;have t2:(h1.push {cls:= .type "tuple",data:= .seq #[en.key,en.val]}).get? hp.objs.size=some {cls:= .type "tuple",data:= .seq #[en.key,en.val]}:=by rw[←z1];exact Heap.get?_push_size _ rfl
 have z2:(h1.push {cls:= .type "tuple",data:= .seq #[en.key,en.val]}).objs.size=hp.objs.size+1:=by rw[Heap.size_push,z1]
 have k2:∀b o,b≠it→hp.get? b=some o→(h1.push {cls:= .type "tuple",data:= .seq #[en.key,en.val]}).get? b=some o:=fun b o hb e=>Heap.get?_push_of_some _ (s1.extBut b o hb e);show wpAny _ _ (Builtin.Dict_items.ownedTupleIsFree (.ref it)>>= _) _ _ ⟨h1.push {cls:= .type "tuple",data:= .seq #[en.key,en.val]},g,dr,tk,os⟩;rw[z1];generalize h1.push {cls:= .type "tuple",data:= .seq #[en.key,en.val]}=h2 at e2 t2 z2 k2 ⊢;have nit:hp.objs.size≠it:=Nat.ne_of_gt (Heap.lt_size hit);refine wpAny_bind ?_;unfold Builtin.Dict_items.ownedTupleIsFree;refine wpAny_bind (wpAny_field e2 rfl (x:= .none) rfl (wpAny_pure ?_))
 simp only[if_true];refine wpAny_bind (wpAny_field e2 rfl (x:=ok) rfl (wpAny_bind (wpAny_field e2 rfl (x:=ov) rfl ?_)));refine wpAny_bind (wpAny_setField_rec e2 (by simp) fun h3 e3 s3=> ?_);replace s3:Heap.SameBut it h2 h3:=s3;replace e3:IsItemIter h3 it d (i+1) es.size ep en.key ov:=e3;refine wpAny_bind (wpAny_setField_rec e3 (by simp) fun h4 e4 s4=> ?_);replace s4:Heap.SameBut it h3 h4:=s4;replace e4:IsItemIter h4 it d (i+1) es.size ep en.key en.val:=e4;refine wpAny_bind (wpAny_setField_rec e4 (by simp) fun h5 e5 s5=> ?_);replace s5:Heap.SameBut it h4 h5:=s5;replace e5:IsItemIterOut h5 it d (i+1) es.size ep en.key en.val hp.objs.size:=e5;refine wpAny_bind (wpAny_setField_rec e5 (by simp) fun h6 e6 s6=> ?_);replace s6:Heap.SameBut it h5 h6:=s6;replace e6:IsItemIterOut h6 it d (i+1) es.size ep en.key en.val hp.objs.size:=e6;have al:∀b o,b≠it→h2.get? b=some o→h6.get? b=some o:=fun b o hb e=>s6.extBut b o hb (s5.extBut b o hb (s4.extBut b o hb (s3.extBut b o hb e)));refine wpAny_bind (wpAny_letGo (wpAny_pure (wpAny_pure ⟨_,rfl,wpAny_pure (hQ h6 e6 (al _ _ nit t2) ?_ fun b o hb e=>al b o hb (k2 b o hb e))⟩)));show h6.objs.size=hp.objs.size+1;rw[s6.1,s5.1,s4.1,s3.1,z2]
theorem P9{it d:Addr}{i ep:Nat}{o:Obj}{es:Array DictEntry}{ok ov:Value}{Q:aH→Shared→Prop}(hh:A.handled=none)(hit:IsItemIter s.heap it d i es.size ep ok ov)(hm:VP s.heap d o es ep)(hx:es.size≤i)
 (hQ:∀h',Heap.ExtBut it s.heap h'→Q none {s with heap:=h'}):wpAny (model prog w) A (pyNext (.ref it)) Q E s:=by
 have hT:s.TypeIs (.ref it) "dict_itemiterator":=⟨_,hit,rfl⟩;have VY:Builtin.Dict_items.ownsTuple "dict_itemiterator"=true:=by decide
 have jA:¬((Value.ref d==Value.none)=true):=Bool.false_ne_true;have HP:¬((i:Int)<0):=by lia
 unfold pyNext;refine wpAny_bind (wpAny_attempt (wpAny_callSpecial?_slot (name:=Str.ofString "__next__") hT F.slot_dict_itemiterator_next (wpAny_call_entry F.slot_dict_itemiterator_next hT F.entry_dict_itemiterator_next ?_ (F.args_dict_itemiterator_next_1 _))))
 refine wpAny_bind (wpAny_pure (wpAny_bind (wpAny_bind ?_)))
 first|refine wpAny_bind (wpAny_typeNameOfWhole_itemiter hT (wpAny_pure (wpAny_bind (wpAny_fieldsOf hit rfl ?_))))|refine wpAny_bind (wpAny_typeNameOf_itemiter hT (wpAny_pure (wpAny_bind (wpAny_fieldsOf hit rfl ?_))))
 simp only[VY,if_true];show wpAny _ _ (if(Value.ref d==Value.none)=true then _ else _) _ _ s;rw[if_neg jA]
 refine wpAny_bind (wpAny_pure (wpAny_bind (wpAny_dictEntries hm.at_ hm.da ?_)));rw[if_neg (by simp)]
 refine wpAny_bind (wpAny_pure (wpAny_bind (wpAny_dictEpoch hm.at_ hm.da ?_)));rw[if_neg (by simp)]
 refine wpAny_pure ?_;simp only[HP,if_false,Int.toNat_natCast,Array.getElem?_eq_none hx]
 refine wpAny_bind ?_
 first|refine wpAny_bind (wpAny_typeNameOfWhole_itemiter hT (wpAny_pure ?_))|refine wpAny_bind (wpAny_typeNameOf_itemiter hT (wpAny_pure ?_))
 show wpAny _ _ (setField (.ref it) 2 .none>>= _) _ _ s;refine wpAny_bind (wpAny_setField hit rfl (by simp) ?_)
 show wpAny _ _ (newExc (.type "StopIteration") []>>= _) _ _ _;refine wpAny_bind ?_
 simp only[newExc,newTuple];refine wpAny_bind (wpAny_newObj_type ?_ (by size_fits))
 refine wpAny_bind (m:=firstArgMember _ _) (wpAny_of_eq (a:=Value.none) (by first|rfl|(simp only[firstArgMember];rfl)) (wpAny_newObj_type ?_ (by size_fits)));simp only[raiseNew];refine wpAny_bind (wpAny_handled ?_);rw[show A.in1.handled=none from hh]
 refine wpAny_bind (wpAny_pure (wpAny_throw ?_));refine wpAny_bind (wpAny_isInstance (T:="StopIteration") (b:=true) ⟨_,Heap.get?_push_size _ rfl,rfl⟩ isSubtype_stop ?_)
 exact wpAny_pure (hQ _ (((Heap.SameBut.update ..).extBut.push _).push _))
end
section
variable{X:Cx}{pins:aL}{σ:St}{H:Hp}{s:Shared}{d:Addr}{kvs:dJ}
theorem Inv.aaO(I:Inv X pins σ H s)(e:H d=some (.dT kvs)):Jw X d:=fun o u q=>by
 have:=I.base.pE d o u q;rw[e] at this;cases this
theorem Inv.Qp{o:Obj}(I:Inv X pins σ H s)(e:H d=some (.dT kvs))(ho:s.heap.get? d=some o):Inv X pins σ (upd H d (.gE o (.dT kvs))) s:=
 I.swap e (I.aaO e) (fun _ z=>nomatch z) (fun _ z=>nomatch z) (fun _ z=>nomatch z) ⟨ho,(show bq X.prog X.w H s.heap d (.dT kvs) from I.bC d _ e).qQ (fun _ _ _ q=>q) (fun b q=>by rw[af (aK q e (fun z=>nomatch z))];exact q) fun b ys q=>by rw[af (aK q e (fun z=>nomatch z))];exact q⟩
theorem Inv.abS{o:Obj}(I:Inv X pins σ H s)(e:H d=some (.gE o (.dT kvs)))(nf:Jw X d):Inv X pins σ (upd H d (.dT kvs)) s:=by
 have bC:=(show bq X.prog X.w H s.heap d (.gE o (.dT kvs)) from I.bC d _ e).2;exact I.swap e nf (fun _ z=>nomatch z) (fun _ z=>nomatch z) (fun _ z=>nomatch z) (bC.qQ (fun _ _ _ q=>q) (fun b q=>by rw[af (aK q e (fun z=>nomatch z))];exact q) fun b ys q=>by rw[af (aK q e (fun z=>nomatch z))];exact q)
end
def OA(x:V)(vs:az)(H:Hp)(Q:VK):Prop:=∃d kvs,x= .ref d∧vs=[]∧H d=some (.dT kvs)∧∀v,H v=none→Q (.ref v) (upd H v (lJ v d))
theorem Hn{X:Cx}:Pu X "dict.items" OA:=by
 intro pins s σ H x vs v us Q I rx rv h;obtain⟨d,kvs,rfl,rfl,hH,q⟩:=h;cases rx;have Xj:=rv.zero;subst Xj;obtain⟨hz,hs,xs,rel,o,es,ep,g1,g2,g3,g4,g5⟩:=(show bq X.prog X.w H s.heap d (.dT kvs) from I.bC d _ hH);have ht:s.TypeIs (.ref d) "dict":=⟨o,g1,g2.1⟩;refine call_meetsIn slot_dict_items ht entry_dict_items (args_dict_items_1 _) (GS d hs) ⟨ht,?_⟩;refine⟨.ref s.heap.objs.size,_,I.laid (a:=s.heap.objs.size) (o:=lJ s.heap.objs.size d) (t' :=s.toks) (fun _ _ q=>Heap.get?_push_of_some _ q) (Nat.le_refl _) ?_,rfl,q _ (I.bC.fresh (Nat.le_refl _))⟩;refine⟨⟨_,Heap.get?_push_size _ rfl,rfl,rfl⟩,⟨_,Heap.get?_push_size _ rfl⟩,fun h1 h2 ⟨o,e,r⟩ k=>⟨o,k _ e,r⟩⟩
def Vx(d:Addr)(o:Obj)(kvs:dJ)(bs:aY):It:=
 ⟨fun i H=>i<kvs.length∧H d=some (.gE o (.dT kvs)),fun i H x H' =>∃T k b v,x= .ref T∧H T=none∧bs[i]? =some b∧H' =upd H T (.tup [.ref b,v])∧kvs[i]? =some (k,v),fun i H=>kvs.length≤i∧H d=some (.gE o (.dT kvs))⟩
theorem nJ{α β:Type}{F:α→β→Prop}{CG:List α}{C3:List β}(r:Paired F CG C3):CG.length=C3.length:=by
 induction r with
 |nil=>rfl
 |cons _ _ ih=>rw[List.length_cons,List.length_cons,ih]
theorem wV{α β:Type}{F:α→β→Prop}{CG:List α}{C3:List β}(r:Paired F CG C3):∀{i:Nat} {p:α} {q:β},CG[i]? =some p→C3[i]? =some q→F p q:=by
 induction r with
 |nil=>intro i p q h;simp at h
 | @cons a b as bs h t ih=>
  intro i p q h1 h2
  cases i with
  |zero=>
   simp at h1 h2;subst h1 h2;exact h
  |succ i=>exact ih (by simpa using h1) (by simpa using h2)
theorem Df{P:Program}{w:World}{K:Frag}{elts:cQ}{kt:Nat}{pt:Pos}(d it:Addr)(o:Obj)(kvs:dJ)(bs:aY)(ep:Nat)(es:Array DictEntry)(hd:o.data= .dict es ep)(hbs:es.toList.map (·.key)=bs.map Value.ref):
 Turn P w K (.Tuple elts kt pt) (Vx d o kvs bs) [it] it (fun i h=>∃ok ov,IsItemIter h it d i kvs.length ep ok ov) where
 mem:=by simp
 obj:=fun i h st b hb=>by
  have e:b=it:=by simpa using hb
  subst e;obtain⟨ok,ov,e⟩:=st;exact⟨_,e,fun v z=>by cases z⟩
 keep:=fun i h h' st k=>by
  obtain⟨ok,ov,e⟩:=st;exact⟨ok,ov,k it (by simp) _ e⟩
 item:=by
  intro X hP hw hK hc i pins s σ H E I hf st hg;subst hP hw hK;obtain⟨hi,hq⟩:=hg;obtain⟨ho,z,hs,xs,rel,o',Pb,PR,g1,g2,g3,g4,g5⟩:=(show bq X.prog X.w H s.heap d (.gE o (.dT kvs)) from I.bC d _ hq);rw[ho] at g1;cases g1;rw[hd] at g3;cases g3;have hl:=nJ rel;have W7:es.size=xs.length:=size_of_entries g4;obtain⟨⟨k,b,x⟩,hx⟩:∃p,xs[i]? =some p:=⟨xs[i],by simp[show i<xs.length by lia]⟩;obtain⟨f0,f1,f2,f3,f4,f5⟩:=hf it (by simp);obtain⟨ok,ov,st⟩:=st;rw[hl,←W7] at st;have JC:it<s.heap.objs.size:=Heap.lt_size st;have hp:kvs[i]? =some kvs[i]:=by simp[hi]
  have hF:=wV rel hp hx
  have hen:es[i]? =some ⟨(tupleKind (bI X.prog X.w)).hash k,.ref b,x⟩:=by
   rw[entry_at g4 i,hx];rfl
  have hbi:bs[i]? =some b:=by
   have e1:(es.toList.map (·.key))[i]? =some (.ref b):=by rw[List.getElem?_map,Array.getElem?_toList,hen];rfl
   rw[hbs,List.getElem?_map] at e1
   cases e2:bs[i]? with
   |none=>rw[e2] at e1;cases e1
   |some b' =>rw[e2] at e1;cases e1;rfl
  generalize kvs[i]=p at hp hF;obtain⟨pk,pv⟩:=p;obtain⟨Hj,hb,w_⟩:=hF;refine MH st ⟨ho,g2,hd⟩ hen fun h' Vj hT hsz hk=> ?_;refine⟨.ref s.heap.objs.size,rfl,?_⟩;refine wpAny_letOwnedTupleGo_items Vj fun GI Li Ax => ?_;have zE:H s.heap.objs.size=none:=I.bC.fresh (Nat.le_refl _);have DV:s.heap.objs.size≠it:=Nat.ne_of_gt JC;have kk:∀b o,b≠it→s.heap.get? b=some o→GI.get? b=some o:=fun b o hb q=>(Ax.2 b hb).trans (hk b o hb q);have Kg :GI.get? s.heap.objs.size=some {cls:= .type "tuple",data:= .seq #[.ref b,x]}:=(Ax.2 _ DV).trans hT;have jA:∀b u,H b=some u→b≠it:=fun b u q z=>by rw[z,f0] at q;cases q
  have I2:Inv X pins σ (upd H s.heap.objs.size (.tup [.ref b,pv])) {s with heap:=GI}:=by
   have new:bq X.prog X.w (upd H s.heap.objs.size (.tup [.ref b,pv])) GI s.heap.objs.size (.tup [.ref b,pv]):=⟨(show 2≤sizeLine by decide),[.ref b,x],.cons rfl (.cons w_ .nil),⟨_,Kg,rfl,_,rfl⟩⟩
   refine I.step (g' :=s.gens) (d' :=s.drawn) (ch:=[it]) (fun b hb=> ?_) (fun b o _ _ hc q _=>kk b o (fun z=>hc (by simp[z])) q) (fun b o _ _ hc q _=>⟨o.slots,kk b o (fun z=>hc (by simp[z])) q⟩)
    (fun b o _ q n=> ?_) (fun b o hc q=>⟨o,kk b o (fun z=>hc (by simp[z])) q⟩) (fun b ys q=> ?_) (fun b o ys q=> ?_) (fun b ps q=>⟨#[],?_⟩) (fun m hm=> ?_) (fun b u q=> ?_) I.bare
   ·have hb:b=it:=by simpa using hb
    subst hb;exact⟨f3,f1,f4,f5⟩
   ·rw[af (Nat.ne_of_lt (Heap.lt_size q))];exact n
   ·rw[af (ag q zE)];exact q
   ·rw[af (ag q zE)];exact q
   ·rw[af (ag q zE),q];simp
   ·obtain⟨o,es,ep,q,r⟩:=hm;exact⟨o,es,ep,kk _ o (Ne.symm f1) q,r⟩
   ·by_cases hb:b=s.heap.objs.size
    ·subst hb;rw[ae] at q;cases q;exact new
    ·rw[af hb] at q;refine(I.bC b u q).qQ (fun c v hc q' =>kk c v ?_ q') (fun c q' => ?_) fun c ys q' => ?_
     ·rcases hc with z|z
      ·rw[z];exact jA b u q
      ·exact jA c _ z
     ·rw[af (ag q' zE)];exact q'
     ·rw[af (ag q' zE)];exact q'
  refine⟨.ref s.heap.objs.size,_,I2,rfl,⟨_,pk,b,pv,rfl,zE,hbi,rfl,hp⟩,⟨_,_,by rw[hl,←W7];exact Li⟩,fun b hb=> ?_⟩;have hb:b=it:=by simpa using hb
  subst hb;rw[af (Ne.symm DV)];exact f0
 done:=by
  intro X hP hw hK hc i pins s σ H E I hf st hg;subst hP hw hK;obtain⟨hi,hq⟩:=hg;obtain⟨ho,z,hs,xs,rel,o',Pb,PR,g1,g2,g3,g4,g5⟩:=(show bq X.prog X.w H s.heap d (.gE o (.dT kvs)) from I.bC d _ hq);rw[ho] at g1;cases g1;rw[hd] at g3;cases g3;have hl:=nJ rel;have W7:es.size=xs.length:=size_of_entries g4;obtain⟨f0,f1,f2,f3,f4,f5⟩:=hf it (by simp);obtain⟨ok,ov,st⟩:=st;rw[hl,←W7] at st;exact P9 (I.ok.hd hc) st ⟨ho,g2,hd⟩ (by lia) fun h' eb=>⟨rfl,I.turned (t' :=s.toks) (fun b ob hb e=>eb b ob hb e) f0 f1 f3 f4 f5⟩
 self:=fun _ _ _ _ _ st h=>by
  obtain⟨ok,ov,st⟩:=st;exact kcp_self st h
theorem C5{H:Hp}{kvs:dJ}{xs:List (List wp×Addr×Value)}(r:KT H kvs xs):kvs.map (·.1)=xs.map (·.1):=by
 unfold KT at r
 induction r with
 |nil=>rfl
 |cons h _ ih=>rw[List.map_cons,List.map_cons,ih,h.1]
section
variable{X:Cx}{e:Expr}{te:TE}{elts:cQ}{kt:Nat}{pt:Pos}
def OX(X:Cx)(te:TE):TI:=fun σ H R=>te σ H fun x H1=>∃v d kvs,x= .ref v∧H1 v=some (lJ v d)∧H1 d=some (.dT kvs)∧∀o bs,Jw X d→(kvs.map (·.1)).Nodup→bs.length=kvs.length→(∀(i:Nat) k v b,kvs[i]? =some (k,v)→bs[i]? =some b→H1 b=some (.tup (k.map kV)))→R (Vx d o kvs bs) (upd H1 d (.gE o (.dT kvs)))
theorem Hv(he:PE X e te):PI X (.Tuple elts kt pt) e (OX X te):=by
 intro pins s σ H R I h;refine ck (he pins s σ H _ I h) fun v s1 ⟨x,H1,I1,r1,v',a,kvs,ex,hv,hq,q⟩=> ?_;subst ex;cases r1;obtain⟨hz,hs,xs,rel,o,es,ep,g1,g2,g3,g4,g5⟩:=(show bq X.prog X.w H1 s1.heap a (.dT kvs) from I1.bC a _ hq);obtain⟨Lw,_⟩:=(show bq X.prog X.w H1 s1.heap v' (lJ v' a) from I1.bC v' _ hv);have hl:=nJ rel;have W7:es.size=xs.length:=size_of_entries g4;have RI:(kvs.map (·.1)).Nodup:=by rw[C5 rel];exact g5
 refine L3 Lw ⟨g1,g2,g3⟩ ?_;have I2:=I1.Qp hq g1;have hn:H1 s1.heap.objs.size=none:=I1.bC.fresh (Nat.le_refl _);have hf:uH X pins (upd H1 a (.gE o (.dT kvs))) s1.heap.objs.size:=I1.BP (Nat.le_refl _) (by rw[af (fun z=>by rw[z,hq] at hn;cases hn)];exact hn);refine⟨s1.heap.objs.size,[s1.heap.objs.size],_,_,_,rfl,I2.kept (t' :=s1.toks) fun b ob e=>Heap.get?_push_of_some _ e,Df a _ o kvs (xs.map fun x=>x.2.1) ep es g3 (by rw[g4,List.map_map,List.map_map];rfl),⟨_,_,by rw[hl,←W7];exact Heap.get?_push_size _ rfl⟩,fun b hb=> ?_,q o _ (I1.aaO hq) RI (by rw[List.length_map];exact hl.symm) fun i k v b e1 e2=> ?_⟩
 rotate_left
 ·rw[List.getElem?_map] at e2
  cases e3:xs[i]? with
  |none=>rw[e3] at e2;cases e2
  |some x=>
   rw[e3] at e2;cases e2;exact(wV rel e1 e3).2.1
 have e:b=s1.heap.objs.size:=by simpa using hb
 subst e;exact hf
def Wr(X:Cx)(t:TE):TE:=fun σ H Q=>t σ H fun v H' =>∃d o kvs,H' d=some (.gE o (.dT kvs))∧Jw X d∧Q v (upd H' d (.dT kvs))
theorem Lx{t:TE}(he:PE X e t):PE X e (Wr X t):=by
 intro pins s σ H Q I h;refine ck (he pins s σ H _ I h) fun u s1 ⟨v,H1,I1,r1,d,o,kvs,ed,nf,q⟩=> ?_;exact⟨v,_,I1.abS ed nf,r1,q⟩
end
theorem A_{d:Addr}{o:Obj}{kvs:dJ}{bs:aY}{H:Hp}(h:H d=some (.gE o (.dT kvs))):qd (Vx d o kvs bs) H kvs.length (fun i x H' =>∃T k b v,x= .ref T∧bs[i]? =some b∧H' T=some (.tup [.ref b,v])∧kvs[i]? =some (k,v)) where
 go:=fun i H' s hi=>⟨hi,s _ _ h⟩
 wy:=fun i H' x lC s hi q=>by
  obtain⟨T,k,b,v,rfl,hT,hb,rfl,hy⟩:=q;exact⟨au.upd hT,T,k,b,v,rfl,hb,ae,hy⟩
 stop:=fun i H' s hi=>⟨hi,s _ _ h⟩
section
variable{prog:Program}{w:World}{A:Around}{R:Result→Shared→Prop}{I:Addr}{fp wr:aY}{G:Array GenState→Array GenState→Prop}{n:Nat}{P:Nat→Value→Prop}{St:Nat→Shared→Prop}{κ:Type}[DecidableEq κ]{knd:HeapKind prog w κ}
def gz(xs ps:List (κ×Addr×Value)):List (κ×Addr×Value):=ps.foldl (fun m p=>storedH m p.1 p.2.1 p.2.2) xs
theorem D6(xs:List (κ×Addr×Value))(k:κ)(a:Addr)(v:Value):(storedH xs k a v).length≤xs.length+1:=by
 unfold storedH
 split
 ·rw[List.length_map];lia
 ·rw[List.length_append];simp
theorem Ee(ps:List (κ×Addr×Value)):∀xs:List (κ×Addr×Value),(gz xs ps).length≤xs.length+ps.length:=by
 induction ps with
 |nil=>intro xs;exact Nat.le_refl _
 |cons p r ih=>
  intro xs;have h:=ih (storedH xs p.1 p.2.1 p.2.2);have h2:=D6 xs p.1 p.2.1 p.2.2;show(gz (storedH xs p.1 p.2.1 p.2.2) r).length≤_;rw[List.length_cons]
  lia
theorem tT(xs ps:List (κ×Addr×Value))(p:κ×Addr×Value):gz xs (ps++[p])=storedH (gz xs ps) p.1 p.2.1 p.2.2:=by
 unfold gz;rw[List.foldl_append];rfl
theorem DY(hu:knd.room A.in1)(xh:∀{h h' :Heap} {k:κ} {a:Addr},knd.is h k a→(∀o,h.get? a=some o→h'.get? a=some o)→knd.is h' k a)(W:WalksS prog w A.in1 I fp wr G n P St)(D:Addr)(Qk:D∉fp)(ps:List (κ×Addr×Value))(hn:ps.length=n)(hb:n≤sizeLine):
 ∀(k i:Nat) (s:Shared),n - i=k→i≤n→St i s→s.heap.DictOfH knd D (gz [] (ps.take i))→
  (∀x∈gz [] (ps.take i),x.2.1∉D::wr)→
  (∀i v,P i v→∃a q b x,v= .ref a∧ps[i]? =some (q,b,x)∧knd.is s.heap q b∧b∉D::wr∧a∉D::wr∧s.heap.IsTuple a #[.ref b,x])→
  (∀s',Moved (D::wr) G s s'→s'.heap.DictOfH knd D (gz [] ps)→R (.ok (.ret .none)) s')→
  codeAny (model prog w) A (.builtin "dict.update.loop" ⟨[.ref D,.ref I,rawInt i,.none],[]⟩) R s:=by
 have ZY:D∉wr:=fun h=>Qk (W.sub _ h);have DO:∀b∈wr,b∈D::wr:=fun b hb=>List.mem_cons_of_mem _ hb;intro k
 induction k with
 |zero=>
  intro i s hk hi fE hS hO hT hR;have HP:i=n:=by lia
  subst HP;refine codeAny_builtin gD ?_;rw[Around.under_plainId cn _];show wpAny _ A.in1 (pyNext (.ref I)>>= _) _ _ s;refine wpAny_bind (W.done s _ _ fE fun s' hm=> ?_);show wpAny _ A.in1 (Builtin.Dict.addKeywords D []>>= fun _=>ret Value.none) _ _ s';refine wpAny_bind (wpAny_pure (wpAny_pure (hR s' (hm.mono DO) ?_)));rw[List.take_of_length_le (by lia)] at hS hO;obtain⟨o,es,ep,ho,r1,r2,r3,r4,r5⟩:=hS;exact⟨o,es,ep,hm.heap D _ ZY ho,r1,r2,r3,fun x hx=>xh (r4 x hx) fun o e=>hm.heap _ _ (fun z=>hO x hx (DO _ z)) e,r5⟩
 |succ k ih=>
  intro i s hk hi fE hS hO hT hR;have eO:i<n:=by lia
  refine codeAny_builtin gD ?_;rw[Around.under_plainId cn _];show wpAny _ A.in1 (pyNext (.ref I)>>= _) _ _ s;refine wpAny_bind (W.item i s _ _ eO fE fun v s' hP Um hm=> ?_);obtain⟨a,q,b,x,rfl,hq,AI,hbD,ha,ht⟩:=hT i v hP;have keep:∀{b:Addr} {o:Obj},b∉D::wr→s.heap.get? b=some o→s'.heap.get? b=some o:=fun{b o} hb e=>hm.heap b o (fun z=>hb (DO b z)) e
  have ht' :s'.heap.IsTuple a #[.ref b,x]:=by
   obtain⟨o,ho,rest⟩:=ht;exact⟨o,keep ha ho,rest⟩
  have O5 :s'.heap.DictOfH knd D (gz [] (ps.take i)):=by
   obtain⟨o,es,ep,ho,r1,r2,r3,r4,r5⟩:=hS;exact⟨o,es,ep,hm.heap D _ ZY ho,r1,r2,r3,fun x hx=>xh (r4 x hx) fun o e=>keep (hO x hx) e,r5⟩
  have hle:=Ee (ps.take i) [];rw[List.length_take] at hle;show wpAny _ A.in1 (holding [Value.ref a] _>>= _) _ _ s';refine wpAny_bind (wpAny_holding ?_);refine wpAny_bind (W1 ht' ?_);show wpAny _ A.in1 (holding [Value.ref b,x] (dictSet D (.ref b) x)) _ _ s';refine wpAny_holding ?_;refine wpAny_dictSet_heap (knd:=knd) hu (xh AI fun o e=>keep hbD e) O5 (fun h' zt ID => ?_) (by simp at hle;lia)
  have e1:ps.take (i+1)=ps.take i++[(q,b,x)]:=by
   rw[List.take_add_one,hq];rfl
  refine wpAny_pure ⟨plainId_quiet cn _,?_⟩;have e2:rawInt ((i:Int)+1)=rawInt ((i+1:Nat):Int):=by rw[Int.natCast_add];rfl
  show codeAny _ _ (.builtin "dict.update.loop" ⟨[.ref D,.ref I,rawInt ((i:Int)+1),.none],[]⟩) _ _;rw[e2]
  have zK:∀{b:Addr} {o:Obj},b∉D::wr→s'.heap.get? b=some o→h'.get? b=some o:=fun{b o} hb e=>by
   rw[ID.2 b (fun z=>hb (by rw[z];exact List.mem_cons_self))];exact e
  refine ih (i+1) _ (by lia) eO (W.frame _ s' _ _ Um (Nat.le_add_right _ _) fun b hb o e=> ?_) ?_ (fun y hy=> ?_) (fun j u hu=> ?_) fun Lu Wf US => ?_
  ·rw[ID.2 b (fun z=>Qk (by rw[←z];exact hb))];exact e
  ·show h'.DictOfH knd D (gz [] (ps.take (i+1)));rw[e1,tT];exact zt
  ·rw[e1,tT] at hy;unfold storedH at hy
   split at hy
   ·obtain⟨y0,hy0,rfl⟩:=List.mem_map.mp hy;unfold putAt
    split<;>exact hO y0 hy0
   ·rcases List.mem_append.mp hy with hy|hy
    ·exact hO y hy
    ·have hy:y=(q,b,x):=by simpa using hy
     subst hy;exact hbD
  ·obtain⟨a',q',b',x',h1,h2,h3,h4,h5,o,ho,rest⟩:=hT j u hu;exact⟨a',q',b',x',h1,h2,xh h3 (fun o e=>zK h4 (keep h4 e)),h4,h5,o,zK h5 (keep h5 ho),rest⟩
  ·refine hR Lu (Moved.trans W.gtrans ((hm.mono DO).then_heap (Nat.le_add_right _ _) fun b o hb e=> ?_) Wf) US;exact zK hb e
end
section
variable{prog:Program}{w:World}{A:Around}{E:Value→Shared→Prop}{s:Shared}{κ:Type}[DecidableEq κ]{knd:HeapKind prog w κ}
theorem Co{l:Addr}{items:Array Value}{ps:List (κ×Addr×Value)}{Q:Value→Shared→Prop}(hu:knd.room A.in1.in1)(xh:∀{h h' :Heap} {k:κ} {a:Addr},knd.is h k a→(∀o,h.get? a=some o→h'.get? a=some o)→knd.is h' k a)(eO:∀{h:Heap} {k:κ} {a:Addr},knd.is h k a→a<h.objs.size)(hh:A.handled=none)(hl:s.heap.IsList l items)(hld:∀o,s.heap.get? l=some o→o.dict=none)(hn:ps.length=items.size)(hb:items.size≤sizeLine)
 (hT:∀(i:Nat) v,items[i]? =some v→∃a q b x,v= .ref a∧ps[i]? =some (q,b,x)∧knd.is s.heap q b∧s.heap.IsTuple a #[.ref b,x])
 (h:∀(h' :Heap) (tk:Nat),h'.DictOfH knd s.heap.objs.size (gz [] ps)→(∀b o,s.heap.get? b=some o→h'.get? b=some o)→Q (.ref s.heap.objs.size) {s with heap:=h',toks:=tk}):
 wpAny (model prog w) A (call (.type "dict") [.ref l]) Q E s:=by
 refine callType_codes (Q₁:=fun obj bE=>obj= .ref s.heap.objs.size∧bE={s with heap:=s.heap.push {cls:= .type "dict",data:= .dict #[]}}) F.kt_called_dict (F.kt_typeCall_dict_1 _) F.entry_dict_init (kt_code_dict_new _ ⟨rfl,rfl⟩) ?_
 rintro obj bE ⟨rfl,rfl⟩
 have Cb:(s.heap.push {cls:= .type "dict",data:= .dict #[]}).DictOfH knd s.heap.objs.size []:=Heap.DictOfH.new s.heap;have hnt:Shared.TypeIs {s with heap:=s.heap.push {cls:= .type "dict",data:= .dict #[]}} (.ref s.heap.objs.size) "dict":=Cb.typeIs;obtain⟨ol,NL,vB,nl,VD⟩:=id hl;have EV :(s.heap.push {cls:= .type "dict",data:= .dict #[]}).get? l=some ol:=Heap.get?_push_of_some _ NL;have YE:l<s.heap.objs.size:=Heap.lt_size NL;refine⟨hnt,F.args_dict_init_2 _ _,?_⟩;unfold Builtin.«dict.__init__»;refine wpAny_bind ?_;unfold Builtin.Dict.selfAndRest;refine wpAny_bind (wpAny_notOrdered_dict hnt ?_);show wpAny _ _ (pure (s.heap.objs.size,[Value.ref l])) _ _ _;refine wpAny_pure ?_;show wpAny _ _ (Builtin.Dict.updateFrom "dict.__init__" s.heap.objs.size (.ref l) [] .none) _ _ _;unfold Builtin.Dict.updateFrom;have hTl:Shared.TypeIs {s with heap:=s.heap.push {cls:= .type "dict",data:= .dict #[]}} (.ref l) "list":=⟨_,EV,vB⟩;refine wpAny_bind (wpAny_typeOf hTl ?_);rw[if_pos (by decide)];refine wpAny_bind (tX EV vB VD (hld _ NL) (by simp[hh]) fun h2 tk2 k2=> ?_);rw[if_pos (show(none:aH).isNone=true from rfl)];refine wpAny_bind (wpAny_rule ?_);have mW:h2.IsList l items:=⟨ol,k2 _ _ EV,vB,nl,VD⟩;refine wpAny_bind (wpAny_pyIter_list (s:={s with heap:=h2,toks:=tk2}) mW ?_);refine wpAny_pure ⟨plainId_quiet cn _,?_⟩;have hold:∀b o,s.heap.get? b=some o→(h2.push {cls:= .type "list_iterator",data:= .fields #[.ref l,.int 0 0]}).get? b=some o:=fun b o e=>Heap.get?_push_of_some _ (k2 _ _ (Heap.get?_push_of_some _ e));have hD2:h2.get? s.heap.objs.size=some {cls:= .type "dict",data:= .dict #[]}:=k2 _ _ (Heap.get?_push_size _ rfl);have zk:s.heap.objs.size<h2.objs.size:=Heap.lt_size hD2;have Wv:l≠h2.objs.size:=Nat.ne_of_lt (Nat.lt_trans YE zk)
 have Qk:s.heap.objs.size∉[h2.objs.size,l]:=by
  simp only[List.mem_cons,List.not_mem_nil,or_false,not_or];exact⟨Nat.ne_of_lt zk,Nat.ne_of_gt YE⟩
 refine DY (knd:=knd) hu xh ((Walks.list (by simp[hh]) _ l Wv items).toS) s.heap.objs.size Qk ps hn hb (items.size - 0) 0 _ (by lia) (Nat.zero_le _) ⟨⟨_,Heap.get?_push_size _ rfl,rfl,rfl⟩,(mW.push _)⟩ ?_ (fun x hx=>nomatch hx) (fun i v hv=> ?_) fun s' hm zt => ?_
 ·obtain⟨o,es,ep,ho,r1,r2,r3,r4,r5⟩:=Cb;exact⟨o,es,ep,Heap.get?_push_of_some _ (k2 _ _ ho),r1,r2,r3,(fun x (hx:x∈([]:List (κ×Addr×Value)))=>absurd hx List.not_mem_nil),r5⟩
 ·obtain⟨a,q,b,x,h1,SS,h3,o,ho,rest⟩:=hT i v hv;have TC:a<s.heap.objs.size:=Heap.lt_size ho;have hlb:b<s.heap.objs.size:=eO h3;refine⟨a,q,b,x,h1,SS,xh h3 (fun o e=>hold _ _ e),?_,?_,o,hold _ _ ho,rest⟩
  ·simp only[List.mem_cons,List.not_mem_nil,or_false,not_or];exact⟨Nat.ne_of_lt hlb,Nat.ne_of_lt (Nat.lt_trans hlb zk)⟩
  ·simp only[List.mem_cons,List.not_mem_nil,or_false,not_or];exact⟨Nat.ne_of_lt TC,Nat.ne_of_lt (Nat.lt_trans TC zk)⟩
 ·obtain⟨h',g',d',DT,os'⟩:=s';have eg:g' =s.gens:=hm.gens;have ed:d' =s.drawn:=hm.drawn;have eo:os' =s.os:=hm.os;subst eg;subst ed;subst eo
  refine⟨rfl,h h' DT zt fun b o e=> ?_⟩;have hb1:b<s.heap.objs.size:=Heap.lt_size e;refine hm.heap b o ?_ (hold _ _ e);simp only[List.mem_cons,List.not_mem_nil,or_false,not_or];exact⟨Nat.ne_of_lt hb1,Nat.ne_of_lt (Nat.lt_trans hb1 zk)⟩
end
section
variable{X:Cx}
def CC(H:Hp)(ys:az)(kvs:dJ):Prop:=ys.length=kvs.length∧∀(i:Nat) k v,kvs[i]? =some (k,v)→∃a b,ys[i]? =some (.ref a)∧H a=some (.tup [.ref b,v])∧H b=some (.tup (k.map kV))
def pU(kvs more:dJ):dJ:=more.foldl (fun acc kv=>v4 acc kv.1 kv.2) kvs
theorem qY:∀(more kvs:dJ),(pU kvs more).length≤kvs.length+more.length
 |[],kvs=>by show kvs.length≤kvs.length+0;lia
 |p::r,kvs=>by
  have h1:=qY r (v4 kvs p.1 p.2);have h2:=dI kvs p.1 p.2;show(pU (v4 kvs p.1 p.2) r).length≤_;rw[List.length_cons]
  lia
theorem KT.merge{H:Hp}{more:dJ}{rs:List (List wp×Addr×Value)}(r:KT H more rs):∀{kvs:dJ} {xs:List (List wp×Addr×Value)},KT H kvs xs→KT H (pU kvs more) (gz xs rs):=by
 unfold KT at r
 induction r with
 |nil=>intro kvs xs q;exact q
 | @cons p q ps qs h t ih=>
  intro kvs xs z;obtain⟨h1,h2,h3⟩:=h;have:=KT.put z p.1 h2 h3;rw[show storedH xs p.1 q.2.1 q.2.2=storedH xs q.1 q.2.1 q.2.2 by rw[h1]] at this;exact ih this
theorem Yd{kvs:dJ}:∀(F:List wp×V→List wp×Addr×Value→Prop) (R:Nat→List wp→V→Addr→Value→Prop),(∀(i:Nat) k v,kvs[i]? =some (k,v)→∃b x,F (k,v) (k,b,x)∧R i k v b x)→∃ps:List (List wp×Addr×Value),Paired F kvs ps∧∀(i:Nat) k v,kvs[i]? =some (k,v)→∃b x,ps[i]? =some (k,b,x)∧R i k v b x:=by
 induction kvs with
 |nil=>exact fun F R _=>⟨[],.nil,fun i k v e=>by simp at e⟩
 |cons p r ih=>
  intro F R h;obtain⟨k0,v0⟩:=p;obtain⟨b0,x0,r0,h0⟩:=h 0 k0 v0 rfl;obtain⟨ps,Ku,hi⟩:=ih F (fun i=>R (i+1)) fun i k v e=>h (i+1) k v (by simpa using e);refine⟨(k0,b0,x0)::ps,.cons r0 Ku,fun i k v e=> ?_⟩
  cases i with
  |zero=>
   simp at e;obtain⟨rfl,rfl⟩:=e;exact⟨b0,x0,rfl,h0⟩
  |succ i=>
   obtain⟨b,x,e1,e2⟩:=hi i k v (by simpa using e);exact⟨b,x,by simpa using e1,e2⟩
theorem u9(hc:X.calm=true)(hu:X.A.units+100<cLine):f_ X (.type "dict") (fun xs H Q=>∃p ys kvs,xs=[.ref p]∧H p=some (.lst ys)∧CC H ys kvs∧∀d,H d=none→Q (.ref d) (upd H d (.dT (pU [] kvs)))):=by
 intro pins s σ H xs us Q I r h;obtain⟨p,ys,kvs,rfl,hq,⟨hlen,hP⟩,q⟩:=h;obtain⟨u,rfl,rx⟩:=xL r;cases rx;obtain⟨hz,its,n,r',e0⟩:=(show bq X.prog X.w H s.heap p (.lst ys) from I.bC p _ hq);have hl:=r'.length
 obtain⟨ps,Ku,hi⟩:=Yd (kvs:=kvs) (fun p q=>p.1=q.1∧H q.2.1=some (.tup (p.1.map kV))∧RelV p.2 q.2.2) (fun i k v b x=>∃a,its[i]? =some (.ref a)∧s.heap.IsTuple a #[.ref b,x]∧H b=some (.tup (k.map kV))) fun i k v e=>by
  obtain⟨a,b,ea,eH,eb⟩:=hP i k v e;obtain⟨u,hu,ru⟩:=r'.get ea;cases ru;obtain⟨_,us,rus,o,h1,h2,n,h3⟩:=(show bq X.prog X.w H s.heap a (.tup [.ref b,v]) from I.bC a _ eH);obtain⟨key,x,rfl,r1,r2⟩:=XV rus;cases r1;exact⟨b,x,⟨rfl,eb,r2⟩,a,hu,⟨o,h1,h2,n,h3⟩,eb⟩
 have rR:=nJ Ku;refine Co (knd:=tupleKind (bI X.prog X.w)) ?_ (fun{h h' k a} hk e=> ?_) (fun{h k a} hk=> ?_) (I.ok.hd hc) ⟨_,e0,rfl,n,rfl⟩ (fun o e=> ?_) (ps:=ps) (by simp;lia) (by simp;lia) (fun i v hv=> ?_) fun h' tk hd kp=> ?_
 ·exact tupleKind_room_in1 (by show X.A.in1.units+1<cLine;have e:X.A.in1.units=X.A.units+1:=rfl;lia)
 ·obtain⟨o,items,m,h1,h2⟩:=hk;exact⟨o,items,m,e _ h1,h2⟩
 ·obtain⟨o,items,m,h1,h2⟩:=hk;exact Heap.lt_size h1
 ·rw[e0] at e;cases e;rfl
 ·have hv:its[i]? =some v:=by simpa using hv
  have xG:i<kvs.length:=by
   have:=(List.getElem?_eq_some_iff.mp hv).1
   lia
  obtain⟨b,x,e1,a,e2,ht,eb⟩:=hi i kvs[i].1 kvs[i].2 (by simp[xG]);rw[e2] at hv;cases hv;exact⟨a,kvs[i].1,b,x,rfl,e1,u4 I.bC eb,ht⟩
 ·have hle:=qY kvs [];simp at hle;obtain⟨o,es,ep,g1,g2,g3,g4,g5,g6⟩:=hd;have qJ:H s.heap.objs.size=none:=I.bC.fresh (Nat.le_refl _);have new:bq X.prog X.w (upd H s.heap.objs.size (.dT (pU [] kvs))) h' s.heap.objs.size (.dT (pU [] kvs)):=⟨by lia,(qe (P:=X.prog) (w:=X.w) (H:=H) s.heap I.big).2.1,_,(KT.merge (H:=H) Ku .nil).keeps fun b ys e=>by rw[af (ag e qJ)];exact e,o,es,ep,g1,g2,g3,g4,g6⟩;exact⟨.ref s.heap.objs.size,_,I.laid (t' :=tk) kp (Nat.le_refl _) new,rfl,q _ qJ⟩
end
structure OV(K:Frag)(C:Addr):Prop where
 ha:PySem.W.findIn K (.ref C) "__class__"=some (some (.builtin "object.__class__"))
 hn:PySem.W.specialIn K (.builtin "object.__class__") "__get__"=some (some (.builtin "getset_descriptor.__get__"))
 tk:PySem.W.takesIn K (.builtin "object.__class__")=some true
 hm:PySem.W.mroIn K C (.type "object")=some true
theorem OV.ty{K:Frag}{H:Hp}{a C dx:Addr}{fs:iM}(c:OV K C)(k:Ec K C)(e:H a=some (.ins C dx fs)):sF K H (.ref a) (.ref C):= .ins e k c.ha c.hn c.tk c.hm
theorem tD{X:Cx}{K:Frag}(hK:X.K=K):f_ X (.builtin "isinstance") (fun xs H Q=>∃x D t b,xs=[x,.ref D]∧sF K H x t∧kitOne K t (.ref D)=some b∧Q (.bl b) H):=by
 subst hK;intro pins s σ H xs us Q I r h;obtain⟨x,D,t,b,rfl,ty,e,q⟩:=h;obtain⟨u,v,rfl,ru,rv⟩:=XV r;cases rv;exact zM I ru ty e fun tk=>⟨.bl b,H,I.tok tk,rfl,q⟩
theorem GH{K:Frag}{C:Addr}:kitOne K (.ref C) (.ref C)=some true:=by
 unfold kitOne;rw[if_pos (beq_self_eq_true _)]
theorem Tq{K:Frag}{C D:Addr}{b:Bool}(ne:(Value.ref C==Value.ref D)=false)(hd:PySem.W.hasDictIn K D=true)(tt:PySem.W.typeIn K (.ref D)=some (.type "type"))(mi:PySem.W.mroIn K C (.ref D)=some b):kitOne K (.ref C) (.ref D)=some b:=by
 obtain⟨cd,hc,_⟩:=any_some hd;unfold kitOne;rw[if_neg (by rw[ne];exact Bool.false_ne_true)];show(if((PySem.W.clsIn K D).isSome&&PySem.W.typeIn K (.ref D)==some (.type "type"))=true then PySem.W.subIn K (.ref C) (.ref D) else none)=some b;rw[hc,tt,if_pos (by rw[Option.isSome_some,Bool.true_and];exact beq_self_eq_true _)];exact mi
end L2
namespace My
open PySem L2 PyProof.Rows
theorem pF:aB ["self","text"] ["self","text"] (av cC):=⟨rfl,rfl,rfl,by decide+kernel,rfl,by decide+kernel,by decide+kernel⟩
theorem qT:aB ["self","found"] ["self","found"] (av cZ):=⟨rfl,rfl,rfl,by decide+kernel,rfl,by decide+kernel,by decide+kernel⟩
theorem uV:aB ["self","found","by"] ["self","found","by"] (av eK):=⟨rfl,rfl,rfl,by decide+kernel,rfl,by decide+kernel,by decide+kernel⟩
theorem sV:aB ["self","found"] ["self","found"] (av dX):=⟨rfl,rfl,rfl,by decide+kernel,rfl,by decide+kernel,by decide+kernel⟩
theorem sM:aB ["self","found"] ["self","found"] (av dm):=⟨rfl,rfl,rfl,by decide+kernel,rfl,by decide+kernel,by decide+kernel⟩
theorem t9:aB ["thing"] ["thing"] (av jb):=⟨rfl,rfl,rfl,by decide+kernel,rfl,by decide+kernel,by decide+kernel⟩
theorem Du:aB ["thing","low","high"] ["thing","low","high"] (av lj):=⟨rfl,rfl,rfl,by decide+kernel,rfl,by decide+kernel,by decide+kernel⟩
theorem DF:aB ["thing"] ["thing"] (av lu):=⟨rfl,rfl,rfl,by decide+kernel,rfl,by decide+kernel,by decide+kernel⟩
theorem E6:aB ["thing"] ["thing"] (av mM):=⟨rfl,rfl,rfl,by decide+kernel,rfl,by decide+kernel,by decide+kernel⟩
theorem rQ:aB ["self"] ["self"] (av dC):=⟨rfl,rfl,rfl,by decide+kernel,rfl,by decide+kernel,by decide+kernel⟩
theorem vF:aB ["self","frame"] ["self","frame"] (av fu):=⟨rfl,rfl,rfl,by decide+kernel,rfl,by decide+kernel,by decide+kernel⟩
theorem i5:aB ["self","frame","ended","number"] ["self","frame"] (av eJ):=⟨rfl,rfl,rfl,by decide+kernel,rfl,by decide+kernel,by decide+kernel⟩
theorem xy:aB ["self","frame"] ["self","frame"] (av gk):=⟨rfl,rfl,rfl,by decide+kernel,rfl,by decide+kernel,by decide+kernel⟩
theorem u0:aB ["self","frame"] ["self","frame"] (av eM):=⟨rfl,rfl,rfl,by decide+kernel,rfl,by decide+kernel,by decide+kernel⟩
theorem i8:aB ["self","frame","outward","step"] ["self","frame"] (av iA):=⟨rfl,rfl,rfl,by decide+kernel,rfl,by decide+kernel,by decide+kernel⟩
theorem r_:aB ["self","frame"] ["self","frame"] (av dk):=⟨rfl,rfl,rfl,by decide+kernel,rfl,by decide+kernel,by decide+kernel⟩
theorem uG:aB ["self","thing"] ["self","thing"] (av eU):=⟨rfl,rfl,rfl,by decide+kernel,rfl,by decide+kernel,by decide+kernel⟩
theorem r8:aB ["self"] ["self"] (av dH):=⟨rfl,rfl,rfl,by decide+kernel,rfl,by decide+kernel,by decide+kernel⟩
theorem vQ:aB ["self"] ["self"] (av fJ):=⟨rfl,rfl,rfl,by decide+kernel,rfl,by decide+kernel,by decide+kernel⟩
theorem qN:aB ["self","thing"] ["self","thing"] (av cU):=⟨rfl,rfl,rfl,by decide+kernel,rfl,by decide+kernel,by decide+kernel⟩
theorem qk:aB ["self","thing"] ["self","thing"] (av cL):=⟨rfl,rfl,rfl,by decide+kernel,rfl,by decide+kernel,by decide+kernel⟩
theorem mR:aB ["self","thing"] ["self","thing"] (av cb):=⟨rfl,rfl,rfl,by decide+kernel,rfl,by decide+kernel,by decide+kernel⟩
theorem mI:aB ["self","thing"] ["self","thing"] (av bZ):=⟨rfl,rfl,rfl,by decide+kernel,rfl,by decide+kernel,by decide+kernel⟩
theorem lS:aB ["self","thing"] ["self","thing"] (av b7):=⟨rfl,rfl,rfl,by decide+kernel,rfl,by decide+kernel,by decide+kernel⟩
theorem tK:aB ["self","limit"] ["self","limit"] (av dW):=⟨rfl,rfl,rfl,by decide+kernel,rfl,by decide+kernel,by decide+kernel⟩
theorem i_:aB ["self","frame","size","spare","place","floor"] ["self","frame","size"] (av ib):=⟨rfl,rfl,rfl,by decide+kernel,rfl,by decide+kernel,by decide+kernel⟩
theorem fU:aB ["self","way","k","room"] ["self","way","k"] (av jx):=⟨rfl,rfl,rfl,by decide+kernel,rfl,by decide+kernel,by decide+kernel⟩
theorem km:aB ["self","way","k","value","room"] ["self","way","k","value"] (av jt):=⟨rfl,rfl,rfl,by decide+kernel,rfl,by decide+kernel,by decide+kernel⟩
theorem lZ:aB ["self","way"] ["self","way"] (av hU):=⟨rfl,rfl,rfl,by decide+kernel,rfl,by decide+kernel,by decide+kernel⟩
theorem yi:aB ["self","way"] ["self","way"] (av gh):=⟨rfl,rfl,rfl,by decide+kernel,rfl,by decide+kernel,by decide+kernel⟩
theorem zg:aB ["self"] ["self"] (av iJ):=⟨rfl,rfl,rfl,by decide+kernel,rfl,by decide+kernel,by decide+kernel⟩
theorem yH:aB ["self"] ["self"] (av ig):=⟨rfl,rfl,rfl,by decide+kernel,rfl,by decide+kernel,by decide+kernel⟩
theorem xj:aB ["self"] ["self"] (av gq):=⟨rfl,rfl,rfl,by decide+kernel,rfl,by decide+kernel,by decide+kernel⟩
theorem ui:aB ["self"] ["self"] (av dY):=⟨rfl,rfl,rfl,by decide+kernel,rfl,by decide+kernel,by decide+kernel⟩
theorem xS:aB ["self","frame"] ["self","frame"] (av gr):=⟨rfl,rfl,rfl,by decide+kernel,rfl,by decide+kernel,by decide+kernel⟩
theorem uS:aB ["self"] ["self"] (av eS):=⟨rfl,rfl,rfl,by decide+kernel,rfl,by decide+kernel,by decide+kernel⟩
theorem qR:aB ["self","frame"] ["self","frame"] (av cV):=⟨rfl,rfl,rfl,by decide+kernel,rfl,by decide+kernel,by decide+kernel⟩
theorem i6:aB ["self","other","frame","floor"] ["self"] (av ip):=⟨rfl,rfl,rfl,by decide+kernel,rfl,by decide+kernel,by decide+kernel⟩
theorem pz:aB ["self","thing"] ["self","thing"] (av fB):=⟨rfl,rfl,rfl,by decide+kernel,rfl,by decide+kernel,by decide+kernel⟩
theorem lG:aB ["self","thing"] ["self","thing"] (av d6):=⟨rfl,rfl,rfl,by decide+kernel,rfl,by decide+kernel,by decide+kernel⟩
theorem cY:aB ["self","thing","taker"] ["self","thing"] (av dE):=⟨rfl,rfl,rfl,by decide+kernel,rfl,by decide+kernel,by decide+kernel⟩
theorem ud:aB ["room","thing"] ["room","thing"] (av jF):=⟨rfl,rfl,rfl,by decide+kernel,rfl,by decide+kernel,by decide+kernel⟩
theorem Bq:aB ["_law_script","_law_k"] ["_law_script","_law_k"] (av jg):=⟨rfl,rfl,rfl,by decide+kernel,rfl,by decide+kernel,by decide+kernel⟩
theorem Dq:aB ["_law_cell_here"] ["_law_cell_here"] (av kA):=⟨rfl,rfl,rfl,by decide+kernel,rfl,by decide+kernel,by decide+kernel⟩
theorem kc:aB ["_law_box_here","_law_many","_law_digit","_law_one_here","_law_other"] ["_law_box_here","_law_many"] (av jD):=⟨rfl,rfl,rfl,by decide+kernel,rfl,by decide+kernel,by decide+kernel⟩
theorem y_:aB ["_law_limit"] ["_law_limit"] (av iw):=⟨rfl,rfl,rfl,by decide+kernel,rfl,by decide+kernel,by decide+kernel⟩
theorem u6:aB ["_law_model"] ["_law_model"] (av eP):=⟨rfl,rfl,rfl,by decide+kernel,rfl,by decide+kernel,by decide+kernel⟩
theorem ql:aB ["_law_model","_law_frame","_law_found"] ["_law_model","_law_frame"] (av kZ):=⟨rfl,rfl,rfl,by decide+kernel,rfl,by decide+kernel,by decide+kernel⟩
theorem yz:aB ["_law_model","_law_frame"] ["_law_model","_law_frame"] (av hX):=⟨rfl,rfl,rfl,by decide+kernel,rfl,by decide+kernel,by decide+kernel⟩
theorem lg:aB ["_law_model","_law_frame","_law_ended","_law_k"] ["_law_model","_law_frame"] (av gu):=⟨rfl,rfl,rfl,by decide+kernel,rfl,by decide+kernel,by decide+kernel⟩
theorem yW:aB ["_law_model","_law_frame"] ["_law_model","_law_frame"] (av il):=⟨rfl,rfl,rfl,by decide+kernel,rfl,by decide+kernel,by decide+kernel⟩
theorem By:aB ["_law_model"] ["_law_model"] (av jn):=⟨rfl,rfl,rfl,by decide+kernel,rfl,by decide+kernel,by decide+kernel⟩
theorem ue:aB ["_law_model","_law_frame","_law_size","_law_way"] ["_law_model","_law_frame","_law_size"] (av jf):=⟨rfl,rfl,rfl,by decide+kernel,rfl,by decide+kernel,by decide+kernel⟩
theorem pQ:aB ["_law_box_here","_law_some","_law_way","_law_at"] ["_law_box_here","_law_some"] (av lr):=⟨rfl,rfl,rfl,by decide+kernel,rfl,by decide+kernel,by decide+kernel⟩
theorem mx:aB ["_law_box_here","_law_model","_law_way","_law_number"] ["_law_box_here","_law_model"] (av ie):=⟨rfl,rfl,rfl,by decide+kernel,rfl,by decide+kernel,by decide+kernel⟩
theorem A2:aB ["_law_model"] ["_law_model"] (av jo):=⟨rfl,rfl,rfl,by decide+kernel,rfl,by decide+kernel,by decide+kernel⟩
theorem ek:aB ["_law_box_here","_law_house_here","_law_model","_law_act","_law_frame","_law_size","_law_way","_law_k","_law_value_here"] ["_law_box_here","_law_house_here","_law_model"] (av jq):=⟨rfl,rfl,rfl,by decide+kernel,rfl,by decide+kernel,by decide+kernel⟩
theorem gy:aB ["_law_model","_law_frames","_law_frame","_law_rooms"] ["_law_model"] (av fG):=⟨rfl,rfl,rfl,by decide+kernel,rfl,by decide+kernel,by decide+kernel⟩
theorem oy:aB ["_law_model","_law_found","_law_word"] ["_law_model"] (av jr):=⟨rfl,rfl,rfl,by decide+kernel,rfl,by decide+kernel,by decide+kernel⟩
theorem oA:aB ["_law_house_here","_law_way","_law_found","e"] ["_law_house_here","_law_way"] (av mN):=⟨rfl,rfl,rfl,by decide+kernel,rfl,by decide+kernel,by decide+kernel⟩
theorem fi:aB ["_law_house_here","_law_rooms","_law_way","_law_found","e","_law_room"] ["_law_house_here","_law_rooms","_law_way"] (av gp):=⟨rfl,rfl,rfl,by decide+kernel,rfl,by decide+kernel,by decide+kernel⟩
theorem i7:aB ["_law_house_here","_law_model","_law_others","_law_rooms","_law_other","_law_way"] ["_law_house_here","_law_model","_law_others"] (av ik):=⟨rfl,rfl,rfl,by decide+kernel,rfl,by decide+kernel,by decide+kernel⟩
theorem gC:aB ["_law_house_here","_law_way","_law_k","_law_found","e"] ["_law_house_here","_law_way","_law_k"] (av fj):=⟨rfl,rfl,rfl,by decide+kernel,rfl,by decide+kernel,by decide+kernel⟩
theorem dO:aB ["_law_house_here","_law_model","_law_k","_law_way","_law_cells"] ["_law_house_here","_law_model"] (av df):=⟨rfl,rfl,rfl,by decide+kernel,rfl,by decide+kernel,by decide+kernel⟩
theorem eV:aB ["_law_house_here","_law_model","_law_used_here","_law_due","_law_found","_law_way","_law_frame"] ["_law_house_here","_law_model"] (av h_):=⟨rfl,rfl,rfl,by decide+kernel,rfl,by decide+kernel,by decide+kernel⟩
theorem jO:aB ["_law_script","_law_limit","_law_houses","_law_models","_law_k","_law_box_here","_law_at","_law_other","_law_twins","_law_turn","_law_asked"] ["_law_script"] (av Dn):=⟨rfl,rfl,rfl,by decide+kernel,rfl,by decide+kernel,by decide+kernel⟩
set_option genInjectivity false in
set_option genSizeOf false in
structure pH where
 dF:Addr
 fq:FuncData
 eh:Addr
 gP:FuncData
 gA:Addr
 jK:FuncData
 fN:Addr
 iZ:FuncData
 eZ:Addr
 iH:FuncData
 jG:Addr
 jw:FuncData
 rP:Addr
 rG:FuncData
 rV:Addr
 so:FuncData
 uL:Addr
 uQ:FuncData
 e_:Addr
 ir:FuncData
 kS:Addr
 lx:FuncData
 j4:Addr
 jP:FuncData
 me:Addr
 mD:FuncData
 jN:Addr
 jV:FuncData
 oU:Addr
 oq:FuncData
 ij:Addr
 iL:FuncData
 jJ:Addr
 jQ:FuncData
 iK:Addr
 iC:FuncData
 kJ:Addr
 kD:FuncData
 gM:Addr
 gS:FuncData
 fX:Addr
 fY:FuncData
 eD:Addr
 eE:FuncData
 d8:Addr
 dU:FuncData
 d4:Addr
 d5:FuncData
 iU:Addr
 iR:FuncData
 oh:Addr
 nG:FuncData
 gW:Addr
 gU:FuncData
 jv:Addr
 ju:FuncData
 eA:Addr
 eB:FuncData
 md:Addr
 l_:FuncData
 nX:Addr
 nU:FuncData
 nR:Addr
 nS:FuncData
 mh:Addr
 mG:FuncData
 iQ:Addr
 iY:FuncData
 ma:Addr
 mw:FuncData
 jX:Addr
 jU:FuncData
 gN:Addr
 gJ:FuncData
 nq:Addr
 oX:FuncData
 ix:Addr
 iz:FuncData
 fT:Addr
 fP:FuncData
 bR:Addr
 bT:FuncData
 jy:Addr
 jl:FuncData
 pK:Addr
 qt:FuncData
 sq:Addr
 sv:FuncData
 p_:Addr
 qz:FuncData
 oZ:Addr
 nM:FuncData
 jT:Addr
 jZ:FuncData
 rX:Addr
 sk:FuncData
 nK:Addr
 oP:FuncData
 mC:Addr
 mv:FuncData
 nL:Addr
 oK:FuncData
 p8:Addr
 p6:FuncData
 pX:Addr
 qq:FuncData
 rZ:Addr
 rE:FuncData
 nF:Addr
 nY:FuncData
 qi:Addr
 qf:FuncData
 pT:Addr
 qv:FuncData
 ll:Addr
 kE:FuncData
 qy:Addr
 qw:FuncData
 u2:Addr
 uN:FuncData
 mj:Addr
 mB:FuncData
 oH:Addr
 oI:FuncData
 lq:Addr
 kY:FuncData
 gG:Addr
 gH:FuncData
 nC:Addr
 nQ:FuncData
 KC:Addr
 BZ:FuncData
 cD:Addr
 cv:Addr
 fw:Addr
 eG:Addr
 cK:Addr
 eN:Addr
 aj:Addr
structure Txt(K:Frag)(mg:Str→aH)(A:pH):Prop where
 qp:e8 K "__init__" "RoomError.__init__" cC A.dF A.fq
 dG:Binds K A.fq ["self","text"] []
 sf:e8 K "__init__" "NoValue.__init__" cZ A.eh A.gP
 si:Binds K A.gP ["self","found"] []
 vY:e8 K "__init__" "Gone.__init__" eK A.gA A.jK
 vG:Binds K A.jK ["self","found","by"] []
 uO:e8 K "__init__" "NoWay.__init__" dX A.fN A.iZ
 u7:Binds K A.iZ ["self","found"] []
 tS:e8 K "__init__" "NoCell.__init__" dm A.eZ A.iH
 tH:Binds K A.iH ["self","found"] []
 lP:mg "is_number"=some (.ref A.jG)
 g7:e8 K "is_number" "is_number" jb A.jG A.jw
 lF:Binds K A.jw ["thing"] []
 kM:mg "is_whole"=some (.ref A.rP)
 iV:e8 K "is_whole" "is_whole" lj A.rP A.rG
 ly:Binds K A.rG ["thing","low","high"] []
 wH:mg "is_count"=some (.ref A.rV)
 sd:e8 K "is_count" "is_count" lu A.rV A.so
 xW:Binds K A.so ["thing"] []
 Af:mg "is_pair"=some (.ref A.uL)
 uA:e8 K "is_pair" "is_pair" mM A.uL A.uQ
 zB:Binds K A.uQ ["thing"] []
 tY:e8 K "__init__" "Frames.__init__" dC A.e_ A.ir
 sS:Binds K A.ir ["self"] []
 xo:e8 K "begin" "Frames.begin" fu A.kS A.lx
 wY:Binds K A.lx ["self","frame"] []
 wJ:Meth K A.aj "begin" A.kS
 vT:e8 K "finish" "Frames.finish" eJ A.j4 A.jP
 v_:Binds K A.jP ["self","frame"] []
 vK:Meth K A.aj "finish" A.j4
 yE:e8 K "part" "Frames.part" gk A.me A.mD
 yC:Binds K A.mD ["self","frame"] []
 yt:Meth K A.aj "part" A.me
 vM:e8 K "inside" "Frames.inside" eM A.jN A.jV
 pq:Binds K A.jV ["self","frame"] []
 pB:Meth K A.aj "inside" A.jN
 Bn:e8 K "row" "Frames.row" iA A.oU A.oq
 ur:Binds K A.oq ["self","frame"] []
 tq:Meth K A.aj "row" A.oU
 tU:e8 K "ended_by" "Frames.ended_by" dk A.ij A.iL
 ia:Binds K A.iL ["self","frame"] []
 iD:Meth K A.aj "ended_by" A.ij
 v5:e8 K "stands" "Frames.stands" eU A.jJ A.jQ
 vJ:Binds K A.jQ ["self","thing"] []
 vE:Meth K A.aj "stands" A.jJ
 tN:e8 K "standing" "Frames.standing" dH A.iK A.iC
 e7:Binds K A.iC ["self"] []
 fc:Meth K A.aj "standing" A.iK
 wG:e8 K "begun" "Frames.begun" fJ A.kJ A.kD
 hZ:Binds K A.kD ["self"] []
 iq:Meth K A.aj "begun" A.kJ
 rN:e8 K "was_begun" "Frames.was_begun" cU A.gM A.gS
 kN:Binds K A.gS ["self","thing"] []
 lh:Meth K A.aj "was_begun" A.gM
 qM:e8 K "want_begun" "Frames.want_begun" cL A.fX A.fY
 dP:Binds K A.fY ["self","thing"] []
 dQ:Meth K A.aj "want_begun" A.fX
 oF:e8 K "want_standing" "Frames.want_standing" cb A.eD A.eE
 cM:Binds K A.eE ["self","thing"] []
 cN:Meth K A.aj "want_standing" A.eD
 mP:e8 K "want_beginning" "Frames.want_beginning" bZ A.d8 A.dU
 nc:Binds K A.dU ["self","thing"] []
 m9:Meth K A.aj "want_beginning" A.d8
 m8:e8 K "want_finishing" "Frames.want_finishing" b7 A.d4 A.d5
 m6:Binds K A.d5 ["self","thing"] []
 nh:Meth K A.aj "want_finishing" A.d4
 u3:e8 K "__init__" "House.__init__" dW A.iU A.iR
 fV:Binds K A.iR ["self","limit"] []
 BC:e8 K "make" "House.make" ib A.oh A.nG
 sT:Binds K A.nG ["self","frame","size"] []
 t7:Meth K A.aj "make" A.oh
 pS:e8 K "get" "House.get" jx A.gW A.gU
 CJ:Binds K A.gU ["self","way","k"] []
 Dj:Meth K A.aj "get" A.gW
 vC:e8 K "put" "House.put" jt A.jv A.ju
 vk:Binds K A.ju ["self","way","k","value"] []
 vh:Meth K A.aj "put" A.jv
 nP:e8 K "size" "House.size" hU A.eA A.eB
 nI:Binds K A.eB ["self","way"] []
 n8:Meth K A.aj "size" A.eA
 zc:e8 K "cells" "House.cells" gh A.md A.l_
 qZ:Binds K A.l_ ["self","way"] []
 rp:Meth K A.aj "cells" A.md
 BF:e8 K "used" "House.used" iJ A.nX A.nU
 oW:Binds K A.nU ["self"] []
 oi:Meth K A.aj "used" A.nX
 BD:e8 K "left" "House.left" ig A.nR A.nS
 tJ:Binds K A.nS ["self"] []
 uc:Meth K A.aj "left" A.nR
 zv:e8 K "limit" "House.limit" gq A.mh A.mG
 yu:Binds K A.mG ["self"] []
 yQ:Meth K A.aj "limit" A.mh
 uK:e8 K "greatest" "House.greatest" dY A.iQ A.iY
 uX:Binds K A.iY ["self"] []
 uy:Meth K A.aj "greatest" A.iQ
 zm:e8 K "rooms" "House.rooms" gr A.ma A.mw
 zz:Binds K A.mw ["self","frame"] []
 yB:Meth K A.aj "rooms" A.ma
 vI:e8 K "picture" "House.picture" eS A.jX A.jU
 jL:Binds K A.jU ["self"] []
 jM:Meth K A.aj "picture" A.jX
 sy:e8 K "picture_of" "House.picture_of" cV A.gN A.gJ
 sL:Binds K A.gJ ["self","frame"] []
 sj:Meth K A.aj "picture_of" A.gN
 Bl:e8 K "twin" "House.twin" ip A.nq A.oX
 AD:Binds K A.oX ["self"] []
 BI:Meth K A.aj "twin" A.nq
 qb:e8 K "is_way" "House.is_way" fB A.ix A.iz
 fC:Binds K A.iz ["self","thing"] []
 fD:Meth K A.aj "is_way" A.ix
 mO:e8 K "is_value" "House.is_value" d6 A.fT A.fP
 mK:Binds K A.fP ["self","thing"] []
 mX:Meth K A.aj "is_value" A.fT
 hV:e8 K "want_room" "House.want_room" dE A.bR A.bT
 bL:Binds K A.bT ["self","thing"] []
 bM:Meth K A.aj "want_room" A.bR
 lM:mg "want_cell"=some (.ref A.jy)
 gZ:e8 K "want_cell" "want_cell" jF A.jy A.jl
 lE:Binds K A.jl ["room","thing"] []
 ve:mg "_law_cell"=some (.ref A.pK)
 p9:e8 K "_law_cell" "_law_cell" jg A.pK A.qt
 vd:Binds K A.qt ["_law_script","_law_k"] []
 xZ:mg "_law_box"=some (.ref A.sq)
 rK:e8 K "_law_box" "_law_box" kA A.sq A.sv
 wR:Binds K A.sv ["_law_cell_here"] []
 bY:mg "_law_take"=some (.ref A.p_)
 bS:e8 K "_law_take" "_law_take" jD A.p_ A.qz
 bW:Binds K A.qz ["_law_box_here","_law_many"] []
 oN:mg "_law_house"=some (.ref A.oZ)
 ko:e8 K "_law_house" "_law_house" iw A.oZ A.nM
 nN:Binds K A.nM ["_law_limit"] []
 eL:mg "_law_standing"=some (.ref A.jT)
 dj:e8 K "_law_standing" "_law_standing" eP A.jT A.jZ
 eR:Binds K A.jZ ["_law_model"] []
 xC:mg "_law_row"=some (.ref A.rX)
 sE:e8 K "_law_row" "_law_row" kZ A.rX A.sk
 xD:Binds K A.sk ["_law_model","_law_frame"] []
 Bi:mg "_law_begin"=some (.ref A.nK)
 tO:e8 K "_law_begin" "_law_begin" hX A.nK A.oP
 A3:Binds K A.oP ["_law_model","_law_frame"] []
 yX:mg "_law_finish"=some (.ref A.mC)
 rb:e8 K "_law_finish" "_law_finish" gu A.mC A.mv
 zd:Binds K A.mv ["_law_model","_law_frame"] []
 s_:mg "_law_given"=some (.ref A.nL)
 nu:e8 K "_law_given" "_law_given" il A.nL A.oK
 uj:Binds K A.oK ["_law_model","_law_frame"] []
 lI:mg "_law_used"=some (.ref A.p8)
 ji:e8 K "_law_used" "_law_used" jn A.p8 A.p6
 lH:Binds K A.p6 ["_law_model"] []
 vm:mg "_law_make"=some (.ref A.pX)
 pP:e8 K "_law_make" "_law_make" jf A.pX A.qq
 vj:Binds K A.qq ["_law_model","_law_frame","_law_size"] []
 r9:mg "_law_one"=some (.ref A.rZ)
 nW:e8 K "_law_one" "_law_one" lr A.rZ A.rE
 rO:Binds K A.rE ["_law_box_here","_law_some"] []
 Bu:mg "_law_value"=some (.ref A.nF)
 tV:e8 K "_law_value" "_law_value" ie A.nF A.nY
 AE:Binds K A.nY ["_law_box_here","_law_model"] []
 lK:mg "_law_here"=some (.ref A.qi)
 jz:e8 K "_law_here" "_law_here" jo A.qi A.qf
 lO:Binds K A.qf ["_law_model"] []
 Dr:mg "_law_deed"=some (.ref A.pT)
 vg:e8 K "_law_deed" "_law_deed" jq A.pT A.qv
 CD:Binds K A.qv ["_law_box_here","_law_house_here","_law_model"] []
 kR:mg "_law_picture"=some (.ref A.ll)
 iE:e8 K "_law_picture" "_law_picture" fG A.ll A.kE
 kQ:Binds K A.kE ["_law_model"] []
 DB:mg "_law_copy"=some (.ref A.qy)
 vq:e8 K "_law_copy" "_law_copy" jr A.qy A.qw
 Dh:Binds K A.qw ["_law_model"] []
 HI:mg "_law_by"=some (.ref A.u2)
 z8:e8 K "_law_by" "_law_by" mN A.u2 A.uN
 HH:Binds K A.uN ["_law_house_here","_law_way"] []
 yU:mg "_law_caught"=some (.ref A.mj)
 rg:e8 K "_law_caught" "_law_caught" gp A.mj A.mB
 zx:Binds K A.mB ["_law_house_here","_law_rooms","_law_way"] []
 BB:mg "_law_apart"=some (.ref A.oH)
 sX:e8 K "_law_apart" "_law_apart" ik A.oH A.oI
 BA:Binds K A.oI ["_law_house_here","_law_model","_law_others"] []
 xi:mg "_law_no_cell"=some (.ref A.lq)
 qc:e8 K "_law_no_cell" "_law_no_cell" fj A.lq A.kY
 xB:Binds K A.kY ["_law_house_here","_law_way","_law_k"] []
 rJ:mg "_law_rooms_right"=some (.ref A.gG)
 kX:e8 K "_law_rooms_right" "_law_rooms_right" df A.gG A.gH
 sA:Binds K A.gH ["_law_house_here","_law_model"] []
 BL:mg "_law_right"=some (.ref A.nC)
 sO:e8 K "_law_right" "_law_right" h_ A.nC A.nQ
 BM:Binds K A.nQ ["_law_house_here","_law_model"] []
 aah:mg "law"=some (.ref A.KC)
 acs:e8 K "law" "law" Dn A.KC A.BZ
 asd:Binds K A.BZ ["_law_script"] []
 lQ:mg "RoomError"=some (.ref A.cD)
 Tn:xO K A.cD A.dF
 dz:yh K A.cD "__init__" A.dF
 Sn:DC K A.cD
 TL:ET K A.cD
 BV:Under K A.cD A.cD
 zR:mg "NoValue"=some (.ref A.cv)
 qE:xO K A.cv A.eh
 EX:yh K A.cv "__init__" A.eh
 HK:DC K A.cv
 GY:ET K A.cv
 tE:Under K A.cv A.cv
 DU:Under K A.cv A.cD
 pC:cP K A.cv "found"
 Jx:mg "Gone"=some (.ref A.fw)
 BO:xO K A.fw A.gA
 Iw:yh K A.fw "__init__" A.gA
 LZ:DC K A.fw
 Ut:ET K A.fw
 DL:Under K A.fw A.fw
 Hk:Under K A.fw A.cD
 Au:cP K A.fw "by"
 BG:cP K A.fw "found"
 Gy:mg "NoWay"=some (.ref A.eG)
 wz:xO K A.eG A.fN
 Hu:yh K A.eG "__init__" A.fN
 PY:DC K A.eG
 PD:ET K A.eG
 zj:Under K A.eG A.eG
 Gj:Under K A.eG A.cD
 rj:cP K A.eG "found"
 Dk:mg "NoCell"=some (.ref A.cK)
 ua:xO K A.cK A.eZ
 Ft:yh K A.cK "__init__" A.eZ
 ML:DC K A.cK
 Ma:ET K A.cK
 vZ:Under K A.cK A.cK
 E7:Under K A.cK A.cD
 pM:cP K A.cK "found"
 DM:mg "Frames"=some (.ref A.eN)
 aaY:Ec K A.eN
 abd:Mk K A.eN A.e_
 uf:yh K A.eN "__init__" A.e_
 HD:cP K A.eN "parents"
 Ip:cP K A.eN "takers"
 ZT:OV K A.eN
 IA:kitOne K (.ref A.eN) (.ref A.eN)=some true
 JW:kitOne K (.ref A.eN) (.ref A.aj)=some false
 uh:mg "House"=some (.ref A.aj)
 ar:Ec K A.aj
 wm:Mk K A.aj A.iU
 gj:cP K A.aj "bound"
 cE:cP K A.aj "floors"
 di:cP K A.aj "lengths"
 cJ:cP K A.aj "parents"
 fO:cP K A.aj "peak"
 cA:cP K A.aj "takers"
 FU:OV K A.aj
 xH:kitOne K (.ref A.aj) (.ref A.eN)=some true
 yM:kitOne K (.ref A.aj) (.ref A.aj)=some true
 ZQ:∀(s:Shared) (u:Value),BindsTo s A.BZ ⟨[u],[]⟩ [("_law_script",u)]
 pe:mg "ValueError"=none
 BH:mg "bool"=none
 uJ:mg "dict"=none
 qj:mg "enumerate"=none
 Fl:mg "int"=none
 cO:mg "isinstance"=none
 ee:mg "len"=none
 nZ:mg "list"=none
 zO:mg "max"=none
 IV:mg "min"=none
 kg:mg "range"=none
 fZ:mg "repr"=none
 ny:mg "reversed"=none
 CP:mg "sum"=none
 ki:mg "tuple"=none
 tL:∃u,RelV (V.int 0) u∧mg "GROUND"=some u
 nz:∃u,RelV (V.int 1000) u∧mg "MOST_CELLS"=some u
 fF:∃u,RelV (V.int 6) u∧mg "MOST_CELLS_OF_ROOM"=some u
 mE:∃u,RelV (V.int 100) u∧mg "MOST_FRAMES"=some u
def oV:Option Nat→V
 |none=> .bH
 |some n=> .int n
theorem aby:¬(("parents" :Str)="takers"):=by decide+kernel
structure HX where
 bd:V
 fa:V
 la:V
 pk:V
def lL(pa ta:Addr):iM:=cq "takers" (.ref ta) (cq "parents" (.ref pa) [])
def du(pa ta:Addr)(z:HX):iM:=cq "peak" z.pk (cq "lengths" z.la (cq "floors" z.fa (cq "bound" z.bd (lL pa ta))))
theorem w4(pa ta:Addr)(z:HX):(du pa ta z).lookup ("parents" :Str)=some (.ref pa):=by
 unfold du lL;rw[aJ,if_neg (by decide+kernel),aJ,if_neg (by decide+kernel),aJ,if_neg (by decide+kernel),aJ,if_neg (by decide+kernel),aJ,if_neg aby,aJ,if_pos rfl]
theorem uU(pa ta:Addr)(z:HX):(du pa ta z).lookup ("takers" :Str)=some (.ref ta):=by
 unfold du lL;rw[aJ,if_neg (by decide+kernel),aJ,if_neg (by decide+kernel),aJ,if_neg (by decide+kernel),aJ,if_neg (by decide+kernel),aJ,if_pos rfl]
theorem Bk(pa ta:Addr)(z:HX):(du pa ta z).lookup ("bound" :Str)=some z.bd:=by
 unfold du;rw[aJ,if_neg (by decide+kernel),aJ,if_neg (by decide+kernel),aJ,if_neg (by decide+kernel),aJ,if_pos rfl]
theorem su(pa ta:Addr)(z:HX):(du pa ta z).lookup ("floors" :Str)=some z.fa:=by
 unfold du;rw[aJ,if_neg (by decide+kernel),aJ,if_neg (by decide+kernel),aJ,if_pos rfl]
theorem Bj(pa ta:Addr)(z:HX):(du pa ta z).lookup ("lengths" :Str)=some z.la:=by
 unfold du;rw[aJ,if_neg (by decide+kernel),aJ,if_pos rfl]
theorem Ep(pa ta:Addr)(z:HX):(du pa ta z).lookup ("peak" :Str)=some z.pk:=by
 unfold du;rw[aJ,if_pos rfl]
theorem aC{pa ta:Addr}{z:HX}{m:Str}(h:¬m="peak" ∧¬m="lengths" ∧¬m="floors" ∧¬m="bound" ∧¬m="takers" ∧¬m="parents"):(du pa ta z).lookup m=none:=by
 obtain⟨h1,h2,h3,h4,h5,h6⟩:=h;unfold du lL;rw[aJ,if_neg h1,aJ,if_neg h2,aJ,if_neg h3,aJ,if_neg h4,aJ,if_neg h5,aJ,if_neg h6]
 all_goals rfl
structure ke(C:Addr)(H:Hp)(f pa ta:Addr)(ps ts:aO):Prop where
 ob:∃dx z,H f=some (.ins C dx (du pa ta z))
 pl:H pa=some (.lst (ps.map oV))
 tl:H ta=some (.lst (ts.map oV))
 ne:pa≠ta
theorem ke.same{C:Addr}{H H' :Hp}{f pa ta:Addr}{ps ts:aO}(F:ke C H f pa ta ps ts)(s:au H H'):ke C H' f pa ta ps ts:=by
 obtain⟨⟨dx,z,h⟩,h1,h2,h3⟩:=F;exact⟨⟨dx,z,s _ _ h⟩,s _ _ h1,s _ _ h2,h3⟩
structure WF(ps ts:aO):Prop where
 len:ps.length=ts.length
 pos:0<ps.length
 le:ps.length≤101
 root:ps[0]? =some none
 par:∀i,0<i→i<ps.length→∃j,ps[i]? =some (some j)∧j<i
 tk:∀(i j:Nat),ts[i]? =some (some j)→j<ps.length
def iT(ps:aO)(t:Int):Bool:=decide (0≤t)&&decide (t≤(ps.length:Int) - 1)
def cT(ts:aO)(t:Int):Bool:=decide (0≤t)&&(ts[t.toNat]? ==some none)
theorem jS{xs:aO}{i:Nat}{o:Option Nat}(h:xs[i]? =some o):Ir (xs.map oV) (i:Int)=some (oV o):=dD (by rw[List.getElem?_map,h];rfl)
section
variable{P:Program}{w:World}{K:Frag}{mg:Str→aH}{base:Heap}{A:pH}
def LG:Sp:=fun vs H Q _=>∃i:Int,vs=[.int i]∧Q (.bl true) H
theorem kh(T:Txt K mg A):aV P w K mg base eI 1 A.jG A.jw ["thing"] LG:=by
 refine T.g7.ok t9 (fun vs H Q E h=> ?_) (fun cF Ar outer s H vs Q E hr h=> ?_)
 ·obtain⟨v,rfl,_⟩:=h;rfl
 ·obtain⟨i,rfl,k⟩:=h;refine⟨_,(aq (aG (oJ (aE je (by rfl) T.cO Boot.«isinstance» (aa (pv 0) (aa (tQ (v:= .ty "int") rfl T.Fl Boot.«int» rfl) ah))) (lW (Nd (aE je (by rfl) T.cO Boot.«isinstance» (aa (pv 0) (aa (tQ (v:= .ty "bool") rfl T.BH Boot.«bool» rfl) ah)))))))),?_⟩;exact⟨_,rfl,_,_,_,_,rfl,.int i,rfl,_,rfl,kj ⟨_,rfl,_,_,_,_,rfl,.int i,rfl,_,rfl,k⟩⟩
def Lp:Sp:=fun vs H Q _=>∃i lo hi:Int,vs=[.int i,.int lo,.int hi]∧Q (.bl (decide (lo≤i)&&decide (i≤hi))) H
theorem J4{lo hi i:Int}{Q:Bool→Prop}(k:Q (decide (lo≤i)&&decide (i≤hi)))(A1:Prop)(h:Q (decide (i≤hi))→A1):if decide (lo≤i)=true then A1 else Q false:=by
 by_cases q:lo≤i
 ·rw[decide_eq_true q] at k ⊢;exact kj (h (by simpa using k))
 ·rw[decide_eq_false q] at k ⊢;exact g8 (by simpa using k)
theorem jm(T:Txt K mg A):aV P w K mg base eI 2 A.rP A.rG ["thing","low","high"] Lp:=by
 have fz:=kh (P:=P) (w:=w) (base:=base) T;refine T.iV.ok Du (fun vs H Q E h=> ?_) (fun cF Ar outer s H vs Q E hr h=> ?_)
 ·obtain⟨v,lo,hi,rfl,_⟩:=h;rfl
 ·obtain⟨i,lo,hi,rfl,k⟩:=h;refine⟨_,(aq (aG (oJ (ay fz hr rfl T.lP T.g7.kp T.lF .nil aw (aa (pv 0) ah)) (lW (Ny F8 F8 (pv 1) (pv 0) (pv 2)))))),?_⟩;refine⟨_,rfl,i,rfl,_,rfl,?_⟩;exact kj ⟨_,rfl,_,rfl,lo,i,rfl,rfl,_,rfl,J4 (Q:=fun b=>Q (.bl b) H) k _ fun q=>⟨_,rfl,i,hi,rfl,rfl,q⟩⟩
def O8(C:Addr):Sp:=fun vs H Q _=>∃f pa ta ps ts,vs=[.ref f]∧ke C H f pa ta ps ts∧Q (.int ((ps.length:Int) - 1)) H
theorem gB(T:Txt K mg A):aV P w K mg base eI 1 A.kJ A.kD ["self"] (O8 A.aj):=by
 refine T.wG.ok vQ (fun vs H Q E h=> ?_) (fun cF Ar outer s H vs Q E hr h=> ?_)
 ·obtain⟨f,pa,ta,ps,ts,rfl,_⟩:=h;rfl
 ·obtain⟨f,pa,ta,ps,ts,rfl,F,k⟩:=h;obtain⟨⟨dx,z,ho⟩,hp,ht,ne⟩:=id F;refine⟨_,(aq (aG (bF j6 (aE aU (by rfl) T.ee Boot.«len» (aa (b8 (pv 0) rfl) ah)) ax))),?_⟩;refine⟨_,rfl,f,A.aj,dx,_,_,rfl,ho,T.ar,T.cJ,w4 _ _ _,pa,_,rfl,.inl (bA.of hp),_,1,rfl,rfl,?_⟩;rw[List.length_map];exact k
def aad(C:Addr):Sp:=fun vs H Q _=>∃f pa ta ps ts,∃t:Int,vs=[.ref f,.int t]∧ke C H f pa ta ps ts∧Q (.bl (iT ps t)) H
theorem j7(T:Txt K mg A):aV P w K mg base eI 3 A.gM A.gS ["self","thing"] (aad A.aj):=by
 have ez:=jm (P:=P) (w:=w) (base:=base) T;have cS:=(gB (P:=P) (w:=w) (base:=base) T).mono (by decide:_≤2);refine T.rN.ok qN (fun vs H Q E h=> ?_) (fun cF Ar outer s H vs Q E hr h=> ?_)
 ·obtain⟨f,pa,ta,ps,ts,t,rfl,_⟩:=h;rfl
 ·obtain⟨f,pa,ta,ps,ts,t,rfl,F,k⟩:=h;obtain⟨⟨dx,z,ho⟩,hp,ht,ne⟩:=id F;obtain⟨u1,qm⟩:=T.tL;refine⟨_,(aq (aG (ay ez hr rfl T.kM T.iV.kp T.ly .nil aw (aa (pv 1) (aa (n9 rfl qm.2 qm.1) (aa (b_ (pv 0) T.ar T.iq cS hr T.hZ .nil aw) ah)))))),?_⟩;exact⟨_,rfl,_,rfl,f,dx,_,rfl,ho,aC (by decide+kernel),f,pa,ta,ps,ts,rfl,F,t,0,_,rfl,k⟩
def OM(C:Addr):Sp:=fun vs H Q _=>∃f pa ta ps ts,∃t:Int,vs=[.ref f,.int t]∧ke C H f pa ta ps ts∧iT ps t=true∧Q .bH H
theorem dq(T:Txt K mg A):aV P w K mg base eI 4 A.fX A.fY ["self","thing"] (OM A.aj):=by
 have gL:=j7 (P:=P) (w:=w) (base:=base) T;refine T.qM.ok qk (fun vs H Q E h=> ?_) (fun cF Ar outer s H vs Q E hr h=> ?_)
 ·obtain⟨f,pa,ta,ps,ts,t,rfl,_⟩:=h;rfl
 ·obtain⟨f,pa,ta,ps,ts,t,rfl,F,hb,k⟩:=h;obtain⟨⟨dx,z,ho⟩,hp,ht,ne⟩:=id F;refine⟨_,(aq (cg (fH (eY (aR (pv 0) T.ar T.lh gL hr T.kN .nil aw (aa (pv 1) ah)))) (aq eT) bp)),?_⟩;refine⟨_,rfl,f,dx,_,rfl,ho,aC (by decide+kernel),_,rfl,f,pa,ta,ps,ts,t,rfl,F,_,rfl,?_⟩;rw[hb];exact k
def Mp(C:Addr):Sp:=fun vs H Q _=>∃f pa ta ps ts,∃t:Int,vs=[.ref f,.int t]∧ke C H f pa ta ps ts∧ps.length=ts.length∧Q (.bl (cT ts t)) H
theorem uW(T:Txt K mg A):aV P w K mg base eI 4 A.jJ A.jQ ["self","thing"] (Mp A.aj):=by
 have gL:=j7 (P:=P) (w:=w) (base:=base) T;refine T.v5.ok uG (fun vs H Q E h=> ?_) (fun cF Ar outer s H vs Q E hr h=> ?_)
 ·obtain⟨f,pa,ta,ps,ts,t,rfl,_⟩:=h;rfl
 ·obtain⟨f,pa,ta,ps,ts,t,rfl,F,hl,k⟩:=h;obtain⟨⟨dx,z,ho⟩,hp,ht,ne⟩:=id F;refine⟨_,(aq (aG (oJ (aR (pv 0) T.ar T.lh gL hr T.kN .nil aw (aa (pv 1) ah)) (lW (lN rT (bB bj (b8 (pv 0) rfl) (pv 1) (fun _ _=>rfl)) cW (bu _)))))),?_⟩;refine⟨_,rfl,f,dx,_,rfl,ho,aC (by decide+kernel),_,rfl,f,pa,ta,ps,ts,t,rfl,F,_,rfl,?_⟩
  cases hb:iT ps t with
  |true=>
   unfold iT at hb;rw[Bool.and_eq_true,decide_eq_true_iff,decide_eq_true_iff] at hb;obtain⟨j,rfl⟩:∃j:Nat,t=j:=⟨t.toNat,by omega⟩;have hj:j<ts.length:=by omega
   have hx:ts[j]? =some ts[j]:=by simp[hj]
   refine kj ⟨_,rfl,f,A.aj,dx,_,_,rfl,ho,T.ar,T.cA,uU _ _ _,_,rfl,ta,_,_,_,rfl,rfl,bA.of ht,jS hx,rfl,?_⟩
   have e:cT ts (j:Int)=decide (oV ts[j]= .bH):=by
    unfold cT;rw[decide_eq_true hb.1,Int.toNat_natCast,hx,Bool.true_and]
    cases ts[j] with
    |none=>rfl
    |some n=>rfl
   rw[←e];exact k
  |false=>
   have e:cT ts t=false:=by
    unfold cT;unfold iT at hb;by_cases h0:0≤t
    ·rw[decide_eq_true h0,Bool.true_and] at hb ⊢;have h1:=of_decide_eq_false hb;have:ts[t.toNat]? =none:=List.getElem?_eq_none (by omega);rw[this];rfl
    ·rw[decide_eq_false h0];rfl
   rw[e] at k;exact g8 k
theorem Dg{ps ts:aO}{t:Int}(hl:ps.length=ts.length)(h:cT ts t=true):iT ps t=true:=by
 unfold cT at h;rw[Bool.and_eq_true,decide_eq_true_iff] at h;have h1:=eq_of_beq h.2;have h2:=(List.getElem?_eq_some_iff.mp h1).1;unfold iT;rw[decide_eq_true h.1,decide_eq_true (show t≤(ps.length:Int) - 1 by omega)];rfl
def OZ(C:Addr):Sp:=fun vs H Q _=>∃f pa ta ps ts,∃t:Int,vs=[.ref f,.int t]∧ke C H f pa ta ps ts∧ps.length=ts.length∧cT ts t=true∧Q .bH H
theorem cG(T:Txt K mg A):aV P w K mg base eI 5 A.eD A.eE ["self","thing"] (OZ A.aj):=by
 have bQ:=dq (P:=P) (w:=w) (base:=base) T;have vW:=uW (P:=P) (w:=w) (base:=base) T;refine T.oF.ok mR (fun vs H Q E h=> ?_) (fun cF Ar outer s H vs Q E hr h=> ?_)
 ·obtain⟨f,pa,ta,ps,ts,t,rfl,_⟩:=h;rfl
 ·obtain⟨f,pa,ta,ps,ts,t,rfl,F,hl,hb,k⟩:=h;obtain⟨⟨dx,z,ho⟩,hp,ht,ne⟩:=id F;refine⟨_,(ak (aZ (aR (pv 0) T.ar T.dQ bQ hr T.dP .nil aw (aa (pv 1) ah))) (aq (cg (fH (eY (aR (pv 0) T.ar T.vE vW hr T.vJ .nil aw (aa (pv 1) ah)))) (aq eT) bp))),?_⟩;refine⟨_,rfl,f,dx,_,rfl,ho,aC (by decide+kernel),_,rfl,f,pa,ta,ps,ts,t,rfl,F,Dg hl hb,?_⟩;refine⟨_,rfl,f,dx,_,rfl,ho,aC (by decide+kernel),_,rfl,f,pa,ta,ps,ts,t,rfl,F,hl,_,rfl,?_⟩;rw[hb];exact k
def amc(C:Addr):Sp:=fun vs H Q _=>∃f pa ta ps ts,∃(t:Nat) (o:Option Nat),vs=[.ref f,.int t]∧ke C H f pa ta ps ts∧ps.length=ts.length∧ts[t]? =some o∧Q (oV o) H
theorem gR(T:Txt K mg A):aV P w K mg base eI 5 A.ij A.iL ["self","frame"] (amc A.aj):=by
 have bQ:=dq (P:=P) (w:=w) (base:=base) T;refine T.tU.ok r_ (fun vs H Q E h=> ?_) (fun cF Ar outer s H vs Q E hr h=> ?_)
 ·obtain⟨f,pa,ta,ps,ts,t,o,rfl,_⟩:=h;rfl
 ·obtain⟨f,pa,ta,ps,ts,t,o,rfl,F,hl,hx,k⟩:=h;obtain⟨⟨dx,z,ho⟩,hp,ht,ne⟩:=id F;have hj:t<ts.length:=(List.getElem?_eq_some_iff.mp hx).1
  have hb:iT ps (t:Int)=true:=by
   unfold iT;rw[decide_eq_true (show(0:Int)≤t by omega),decide_eq_true (show(t:Int)≤(ps.length:Int) - 1 by omega)];rfl
  refine⟨_,(ak (aZ (aR (pv 0) T.ar T.dQ bQ hr T.dP .nil aw (aa (pv 1) ah))) (aq (aG (bB bj (b8 (pv 0) rfl) (pv 1) (fun _ _=>rfl))))),?_⟩;refine⟨_,rfl,f,dx,_,rfl,ho,aC (by decide+kernel),_,rfl,f,pa,ta,ps,ts,t,rfl,F,hb,?_⟩;exact⟨_,rfl,f,A.aj,dx,_,_,rfl,ho,T.ar,T.cA,uU _ _ _,_,rfl,ta,_,_,_,rfl,rfl,bA.of ht,jS hx,k⟩
end
def aQ(ts:aO):List Nat:=(List.range ts.length).filter fun i=>ts[i]? ==some none
def nV(n:Nat):V:= .int n
def Bm(ps:aO):Nat→Nat→List Nat
 |0,f=>[f]
 |n+1,f=>f::(match ps[f]? with|some (some j)=>Bm ps n j|_=>[])
def AM(ps:aO)(f:Nat):List Nat:=Bm ps f f
theorem FQ{ps ts:aO}(W:WF ps ts)(n:Nat):Bm ps n 0=[0]:=by
 cases n with
 |zero=>rfl
 |succ n=>
  show 0::(match ps[0]? with|some (some j)=>Bm ps n j|_=>[])=[0];rw[W.root]
theorem N8{ps ts:aO}(W:WF ps ts)(f:Nat):f<ps.length→∀n m,f≤n→f≤m→Bm ps n f=Bm ps m f:=by
 induction f using Nat.strongRecOn with
 |_ f ih=>
  intro hf n m hn hm
  cases f with
  |zero=>rw[FQ W,FQ W]
  |succ g=>
   obtain⟨j,e,hj⟩:=W.par (g+1) (by lia) hf;obtain⟨n',rfl⟩:∃n',n=n' +1:=⟨n - 1,by lia⟩;obtain⟨m',rfl⟩:∃m',m=m' +1:=⟨m - 1,by lia⟩;show(g+1)::(match ps[g+1]? with|some (some j)=>Bm ps n' j|_=>[])=(g+1)::(match ps[g+1]? with|some (some j)=>Bm ps m' j|_=>[]);rw[e];show(g+1)::Bm ps n' j=(g+1)::Bm ps m' j;rw[ih j hj (by lia) n' m' (by lia) (by lia)]
def W5(ps:aO):Option Nat→List Nat
 |none=>[]
 |some j=>AM ps j
theorem uo{ps ts:aO}(W:WF ps ts){f:Nat}{o:Option Nat}(h:ps[f]? =some o):AM ps f=f::W5 ps o:=by
 have hf:f<ps.length:=(List.getElem?_eq_some_iff.mp h).1
 cases f with
 |zero=>
  rw[W.root] at h;cases h;rfl
 |succ g=>
  obtain⟨j,e,hj⟩:=W.par (g+1) (by lia) hf;rw[e] at h;cases h;show(g+1)::(match ps[g+1]? with|some (some j)=>Bm ps g j|_=>[])=(g+1)::AM ps j;rw[e];show(g+1)::Bm ps g j=(g+1)::Bm ps j j;rw[N8 W j (by lia) g j (by lia) (Nat.le_refl _)]
theorem A5(ps:aO):∀(n f:Nat),(Bm ps n f).length≤n+1
 |0,f=>Nat.le_refl _
 |n+1,f=>by
  show(match ps[f]? with|some (some j)=>Bm ps n j|_=>[]).length+1≤n+1+1
  split
  ·have:=A5 ps n ‹_›
   lia
  ·simp
def lT(ps:aO)(f:Nat):List Nat:=(AM ps f).reverse
section
variable{P:Program}{w:World}{K:Frag}{mg:Str→aH}{base:Heap}{A:pH}
def Fg(C:Addr):Sp:=fun vs H Q _=>∃f pa ta ps ts,vs=[.ref f]∧ke C H f pa ta ps ts∧ts.length≤1000∧∀l H',H l=none→au H H'→H' l=some (.lst ((aQ ts).map nV))→Q (.ref l) H'
theorem eF(T:Txt K mg A):aV P w K mg base eI 1 A.iK A.iC ["self"] (Fg A.aj):=by
 refine T.tN.ok r8 (fun vs H Q E h=> ?_) (fun cF Ar outer s H vs Q E hr h=> ?_)
 ·obtain⟨f,pa,ta,ps,ts,rfl,_⟩:=h;rfl
 ·obtain⟨f,pa,ta,ps,ts,rfl,F,hle,k⟩:=h;obtain⟨⟨dx,z,ho⟩,hp,ht,ne⟩:=id F;refine⟨_,(aq (aG (dA (N:=["number","taker"]) (k:=2) (js:=[]) rfl (bP (by kernel_rfl)) (Bv rfl T.qj (aa (b8 (pv 0) rfl) ah)) (fun _ _ _ _ _=>⟨(Bx (K:=K) (n:=2) rfl rfl (jc (bc (i:=0) (show(["number","taker"]:aX).Nodup by decide+kernel) rfl (Or.inl rfl) (Or.inr rfl)) (jc (bc (i:=1) (show(["number","taker"]:aX).Nodup by decide+kernel) rfl (Or.inl rfl) (Or.inr rfl)) wb)) rfl rfl),(Bw (ba rT (pv 1) cW (bu _))),(pv 0)⟩)))),?_⟩;refine⟨_,rfl,f,A.aj,dx,_,_,rfl,ho,T.ar,T.cA,uU _ _ _,ta,_,rfl,ht,?_⟩;refine eX (fun i=>ts[i]? ==some none) nV (EG (bA.of ht)) ?_ ?_ fun p H' hp sm hl=>k p H' hp sm ?_
  ·rw[List.length_map];exact Nat.le_trans hle (by decide)
  ·rintro i x H' C1 C0 hi sm ⟨t,y,rfl,hT,hy⟩ c1 c0
   rw[List.getElem?_map] at hy
   cases eo:ts[i]? with
   |none=>rw[eo] at hy;cases hy
   |some o=>
    rw[eo] at hy c1 c0;cases hy;refine⟨t,_,rfl,qS.of hT,rfl,_,_,rfl,_,_,rfl,rfl,((gw.refl _).own (by decide)).own (by decide),_,rfl,rfl,_,rfl,?_⟩
    cases o with
    |none=>exact⟨_,rfl,c1 rfl H' (au.refl H')⟩
    |some n=>exact c0 rfl H' (au.refl H')
  ·rw[List.length_map] at hl;exact hl
def acb(C:Addr):Sp:=fun vs H Q _=>∃f pa ta ps ts,∃t:Nat,vs=[.ref f,.int t]∧ke C H f pa ta ps ts∧WF ps ts∧t<ps.length∧∀l H',H l=none→au H H'→H' l=some (.lst ((lT ps t).map nV))→Q (.ref l) H'
theorem G2{ps:aO}{t:Nat}(h:t<ps.length):iT ps (t:Int)=true:=by
 unfold iT;rw[decide_eq_true (show(0:Int)≤t by lia),decide_eq_true (show(t:Int)≤(ps.length:Int) - 1 by lia)];rfl
theorem rA(T:Txt K mg A):aV P w K mg base eI 5 A.oU A.oq ["self","frame"] (acb A.aj):=by
 have bQ:=dq (P:=P) (w:=w) (base:=base) T;refine T.Bn.ok i8 (fun vs H Q E h=> ?_) (fun cF Ar outer s H vs Q E hr h=> ?_)
 ·obtain⟨f,pa,ta,ps,ts,t,rfl,_⟩:=h;rfl
 ·obtain⟨f,pa,ta,ps,ts,t,rfl,F,W,eO,k⟩:=h;obtain⟨⟨dx,z,ho⟩,hp,ht,ne⟩:=id F;refine⟨_,(ak (aZ (aR (pv 0) T.ar T.dQ bQ hr T.dP .nil aw (aa (pv 1) ah))) (ak (a_ (i:=2) i8.nd rfl (Or.inl rfl) (bN ah)) (ak (a_ (i:=3) i8.nd rfl (Or.inl rfl) (pv 1)) (ak (CO PassesOwn.never (ba we (pv 3) cW (bu _)) (ak (aZ (vy plainAttrs_list PySem.F.slot_list_append PySem.F.type_list_append eW (pv 2) (aa (pv 3) ah))) (aq (a_ (i:=3) i8.nd rfl (Or.inl rfl) (bB bj (b8 (pv 0) rfl) (pv 3) (fun _ _=>rfl)))))) (aq (aG (Ej rfl rfl T.nZ rfl T.ny (aa (pv 2) ah)))))))),?_⟩;refine⟨_,rfl,f,dx,_,rfl,ho,aC (by decide+kernel),_,rfl,f,pa,ta,ps,ts,t,rfl,F,G2 eO,?_⟩;refine⟨Nat.zero_le _,fun l hl=> ?_⟩;refine⟨_,rfl,?_⟩
  have KU:(AM ps t).length≤101:=by
   have:=A5 ps t t;have:=W.le;show(Bm ps t t).length≤101
   lia
  refine⟨fun m σ H' =>∃(acc:List Nat) (o:Option Nat),σ=[some (.ref f),some (.int t),some (.ref l),some (oV o)]∧H' =upd H l (.lst (acc.map nV))∧acc++W5 ps o=AM ps t∧(∀j,o=some j→j<ps.length)∧m=(match o with|none=>0|some j=>j+1),⟨t+1,[],some t,rfl,rfl,rfl,?_,rfl⟩,?_⟩
  ·intro j e;cases e;exact eO
  ·rintro m σ H' ⟨acc,o,rfl,rfl,Dy,hj,rfl⟩
   have sm:=au.upd (o:= .lst (acc.map nV)) hl;refine⟨_,rfl,rfl,_,rfl,?_⟩
   cases o with
   |none=>
    refine⟨_,rfl,l,_,rfl,bA.of ae,fun l2 mW=> ?_⟩;have s2:=au.upd (o:= .lst (acc.map nV).reverse) mW;refine k l2 _ (sm.free mW) (sm.trans s2) ?_;have e:acc=AM ps t:=by simpa[W5] using Dy
    rw[ae,e,←List.map_reverse];rfl
   |some j=>
    have Gr:=hj j rfl;have hx:ps[j]? =some ps[j]:=by simp[Gr]
    have est:=uo W hx;have TM:acc++AM ps j=AM ps t:=Dy
    have hal:acc.length<101:=by
     have e1:(acc++AM ps j).length≤101:=by rw[TM];exact KU
     rw[est,List.length_append,List.length_cons] at e1
     lia
    refine⟨fun cI H' =>∃m',m' <j+1∧∃(acc:List Nat) (o:Option Nat),cI =[some (.ref f),some (.int t),some (.ref l),some (oV o)]∧H' =upd H l (.lst (acc.map nV))∧acc++W5 ps o=AM ps t∧(∀j,o=some j→j<ps.length)∧m' =(match o with|none=>0|some j=>j+1),fun cI H' h=>h,?_⟩;refine⟨_,rfl,.inl ⟨rfl,_,bA.of ae⟩,_,rfl,l,_,_,rfl,rfl,ae,?_,?_⟩
    ·rw[List.length_map];exact Nat.lt_of_lt_of_le hal (by decide)
    rw[wc];have s3:=au.upd (o:= .lst (acc.map nV++[oV (some j)])) hl;refine⟨_,rfl,f,A.aj,dx,_,_,rfl,s3 _ _ ho,T.ar,T.cJ,w4 _ _ _,_,rfl,pa,_,_,_,rfl,rfl,bA.of (s3 _ _ hp),jS hx,?_⟩
    have Yv:∀i,ps[j]=some i→i<j:=fun i e=>by
     rw[e] at hx
     cases j with
     |zero=>rw[W.root] at hx;cases hx
     |succ g=>
      obtain⟨i',e',yk⟩:=W.par (g+1) (by lia) Gr;rw[e'] at hx;cases hx;exact yk
    refine⟨(match ps[j] with|none=>0|some i=>i+1),?_,acc++[j],ps[j],rfl,?_,?_,fun i e=> ?_,rfl⟩
    ·cases e:ps[j] with
     |none=>show 0<j+1;lia
     |some i=>have:=Yv i e;show i+1<j+1;lia
    ·rw[List.map_append];rfl
    ·rw[List.append_assoc,←TM,est];rfl
    ·have:=Yv i e
     lia
end
def jC(pa ta:Addr)(H H' :Hp):Prop:=∀c o,c≠pa→c≠ta→H c=some o→H' c=some o
theorem jC.refl(pa ta:Addr)(H:Hp):jC pa ta H H:=fun _ _ _ _ e=>e
theorem jC.trans{pa ta:Addr}{H H1 H2:Hp}(h:jC pa ta H H1)(h' :jC pa ta H1 H2):jC pa ta H H2:=fun c o h1 h2 e=>h' c o h1 h2 (h c o h1 h2 e)
def iX(ps ts:aO)(t:Nat):List Nat:=(aQ ts).reverse.filter fun n=>decide (t∈lT ps n)
def xz(t:Nat):List Nat→aO→aO
 |[],ts=>ts
 |n::r,ts=>xz t r (ts.set n (some t))
theorem qh(t:Nat):∀(E:List Nat) (ts:aO),(xz t E ts).length=ts.length
 |[],ts=>rfl
 |n::r,ts=>by
  show(xz t r (ts.set n (some t))).length=ts.length;rw[qh t r,List.length_set]
theorem uI(t n:Nat):∀(E:List Nat) (ts:aO),xz t (E++[n]) ts=(xz t E ts).set n (some t)
 |[],ts=>rfl
 |m::r,ts=>uI t n r (ts.set m (some t))
theorem xw{ts:aO}{n:Nat}(h:n∈aQ ts):n<ts.length:=List.mem_range.mp (List.mem_filter.mp h).1
theorem Ik{ts:aO}{n:Nat}:n∈aQ ts↔cT ts (n:Int)=true:=by
 unfold aQ cT;rw[List.mem_filter,List.mem_range,decide_eq_true (show(0:Int)≤n by lia),Bool.true_and,Int.toNat_natCast];constructor
 ·exact fun h=>h.2
 ·intro h;exact⟨(List.getElem?_eq_some_iff.mp (eq_of_beq h)).1,h⟩
theorem Nl{ps ts:aO}{t n:Nat}(h:n∈iX ps ts t):n<ts.length:=xw (List.mem_reverse.mp (List.mem_filter.mp h).1)
theorem EC(S:List Nat):S=(List.range S.length).map fun i=>S.getD i 0:=by
 apply List.ext_getElem?;intro i;rw[List.getElem?_map];by_cases h:i<S.length
 ·rw[List.getElem?_range h];simp[List.getD_eq_getElem?_getD,h]
 ·rw[List.getElem?_eq_none (by lia),List.getElem?_eq_none (by rw[List.length_range];lia)];rfl
theorem tf(S:List Nat)(p:Nat→Bool)(g:Nat→V):((List.range S.length).filter fun i=>p (S.getD i 0)).map (fun i=>g (S.getD i 0))=(S.filter p).map g:=by
 conv=>rhs;rw[EC S]
 rw[List.filter_map,List.map_map];rfl
theorem LL(t:Nat)(R:List Nat):Ua (nV t) (R.map nV)=decide (t∈R):=by
 unfold Ua;rw[List.any_map,Bool.eq_iff_iff,List.any_eq_true,decide_eq_true_iff];constructor
 ·rintro ⟨n,hn,e⟩
  have e:((n:Int)==(t:Int))=true:=e;have e:=eq_of_beq e;have:n=t:=by lia
  rw[←this];exact hn
 ·intro h;exact⟨t,h,by show((t:Int)==(t:Int))=true;simp⟩
theorem Gw(R:List Nat):(R.map nV).all mV=true:=by
 rw[List.all_map,List.all_eq_true];intro n _;rfl
section
variable{P:Program}{w:World}{K:Frag}{mg:Str→aH}{base:Heap}{A:pH}
def VW(C:Addr):Sp:=fun vs H Q _=>∃(p dx:Addr),vs=[.ref p]∧H p=some (.ins C dx [])∧∀pa ta H',H pa=none→H ta=none→H' p=some (.ins C dx (lL pa ta))→H' pa=some (.lst [.bH])→H' ta=some (.lst [.bH])→pa≠ta→(∀b o,H b=some o→b≠p→H' b=some o)→Q .bH H'
theorem rS(T:Txt K mg A):aV P w K mg base eI 1 A.e_ A.ir ["self"] (VW A.aj):=by
 refine T.tY.ok rQ (fun vs H Q E h=> ?_) (fun cF Ar outer s H vs Q E hr h=> ?_)
 ·obtain⟨p,dx,rfl,_⟩:=h;rfl
 ·obtain⟨p,dx,rfl,hp,k⟩:=h;refine⟨_,(ak (kB (pv 0) (bN (aa cW ah)) rfl) (aq (kB (pv 0) (bN (aa cW ah)) rfl))),?_⟩;refine⟨(show 1≤sizeLine by decide),fun pa hpa=> ?_⟩;have np:p≠pa:=ag hp hpa;refine⟨_,rfl,p,A.aj,dx,[],rfl,(by rw[af np];exact hp),T.ar,T.cJ,(by show 0<1000;decide),(show 1≤sizeLine by decide),fun ta hta=> ?_⟩;have nt:p≠ta:=ag ae hta
  have Vc:upd H pa (.lst [.bH]) ta=none:=by
   rw[af nt.symm] at hta;exact hta
  have ZZ:pa≠ta:=ag ae Vc
  have X4:H ta=none:=by
   rw[af ZZ.symm] at Vc;exact Vc
  refine⟨_,rfl,p,A.aj,dx,_,rfl,(by rw[af nt,ae]),T.ar,T.cA,(by show 1<1000;decide),?_⟩;refine k pa ta _ hpa X4 ae ?_ ?_ ZZ fun b o e hb=> ?_
  ·rw[af np.symm,af ZZ,af np.symm,ae]
  ·rw[af nt.symm,ae]
  ·rw[af hb,af (ag e X4),af hb,af (ag e hpa)];exact e
def HJ(C:Addr):Sp:=fun vs H Q _=>∃f pa ta ps ts,∃t:Nat,vs=[.ref f,.int t]∧ke C H f pa ta ps ts∧ps.length=ts.length∧cT ts (t:Int)=true∧ps.length≤100∧Q .bH H
def P4(C:Addr):Sp:=fun vs H Q _=>∃f pa ta ps ts,∃t:Nat,vs=[.ref f,.int t]∧ke C H f pa ta ps ts∧ps.length=ts.length∧cT ts (t:Int)=true∧ps.length≤100∧
 ∀H',ke C H' f pa ta (ps++[some t]) (ts++[none])→jC pa ta H H'→Q (.int ps.length) H'
theorem mF(T:Txt K mg A):aV P w K mg base eI 6 A.d8 A.dU ["self","thing"] (HJ A.aj):=by
 have bD:=cG (P:=P) (w:=w) (base:=base) T;have cS:=(gB (P:=P) (w:=w) (base:=base) T).mono (by decide:_≤5);refine T.mP.ok mI (fun vs H Q E h=> ?_) (fun cF Ar outer s H vs Q E hr h=> ?_)
 ·obtain⟨f,pa,ta,ps,ts,t,rfl,_⟩:=h;rfl
 ·obtain⟨f,pa,ta,ps,ts,t,rfl,F,hl,hb,hle,k⟩:=h;obtain⟨⟨dx,z,ho⟩,hp,ht,ne⟩:=id F;obtain⟨u1,rh⟩:=T.mE;refine⟨_,(ak (aZ (aR (pv 0) T.ar T.cN bD hr T.cM .nil aw (aa (pv 1) ah))) (aq (cg (ba xJ (b_ (pv 0) T.ar T.iq cS hr T.hZ .nil aw) (n9 rfl rh.2 rh.1) (bu _)) (aq eT) bp))),?_⟩;refine⟨_,rfl,f,dx,_,rfl,ho,aC (by decide+kernel),_,rfl,f,pa,ta,ps,ts,t,rfl,F,hl,hb,?_⟩;refine⟨_,rfl,f,dx,_,rfl,ho,aC (by decide+kernel),f,pa,ta,ps,ts,rfl,F,?_⟩;refine⟨rfl,_,rfl,?_⟩;rw[decide_eq_false (show ¬V.int ((ps.length:Int) - 1)=V.int 100 by intro z;injection z with z;lia)];exact g8 k
theorem vX(T:Txt K mg A):aV P w K mg base eI 7 A.kS A.lx ["self","frame"] (P4 A.aj):=by
 have ng:=mF (P:=P) (w:=w) (base:=base) T;have cS:=(gB (P:=P) (w:=w) (base:=base) T).mono (by decide:_≤6);refine T.xo.ok vF (fun vs H Q E h=> ?_) (fun cF Ar outer s H vs Q E hr h=> ?_)
 ·obtain⟨f,pa,ta,ps,ts,t,rfl,_⟩:=h;rfl
 ·obtain⟨f,pa,ta,ps,ts,t,rfl,F,hl,hb,hle,k⟩:=h;obtain⟨⟨dx,z,ho⟩,hp,ht,ne⟩:=id F;have fp:f≠pa:=aK ho hp (by intro z;cases z);have ft:f≠ta:=aK ho ht (by intro z;cases z);refine⟨_,(ak (aZ (aR (pv 0) T.ar T.m9 ng hr T.nc .nil aw (aa (pv 1) ah))) (ak (aZ (vy plainAttrs_list PySem.F.slot_list_append PySem.F.type_list_append eW (b8 (pv 0) rfl) (aa (pv 1) ah))) (ak (aZ (vy plainAttrs_list PySem.F.slot_list_append PySem.F.type_list_append eW (b8 (pv 0) rfl) (aa cW ah))) (aq (aG (b_ (pv 0) T.ar T.iq cS hr T.hZ .nil aw)))))),?_⟩;refine⟨_,rfl,f,dx,_,rfl,ho,aC (by decide+kernel),_,rfl,f,pa,ta,ps,ts,t,rfl,F,hl,hb,hle,?_⟩;refine⟨_,rfl,f,A.aj,dx,_,_,rfl,ho,T.ar,T.cJ,w4 _ _ _,.inl ⟨rfl,_,bA.of hp⟩,_,rfl,pa,_,_,rfl,rfl,hp,?_,?_⟩
  ·rw[List.length_map];exact Nat.lt_of_le_of_lt hle (by decide)
  have VN:∀o,upd H pa o f=some (.ins A.aj dx (du pa ta z)):=fun o=>by rw[af fp];exact ho
  have ht2:∀o,upd H pa o ta=some (.lst (ts.map oV)):=fun o=>by rw[af ne.symm];exact ht
  refine⟨_,rfl,f,A.aj,dx,_,_,rfl,VN _,T.ar,T.cA,uU _ _ _,.inl ⟨rfl,_,bA.of (ht2 _)⟩,ta,_,_,rfl,rfl,ht2 _,?_,?_⟩
  ·rw[List.length_map];exact Nat.lt_of_le_of_lt (show ts.length≤100 by lia) (by decide)
  have W0:∀o o',upd (upd H pa o) ta o' f=some (.ins A.aj dx (du pa ta z)):=fun o o' =>by rw[af ft];exact VN _
  have F3:ke A.aj (upd (upd H pa (.lst (ps.map oV++[V.int t]))) ta (.lst (ts.map oV++[V.bH]))) f pa ta (ps++[some t]) (ts++[none]):=by
   refine⟨⟨dx,z,W0 _ _⟩,?_,?_,ne⟩
   ·rw[af ne,ae,List.map_append];rfl
   ·rw[ae,List.map_append];rfl
  refine⟨_,rfl,f,dx,_,rfl,W0 _ _,aC (by decide+kernel),f,pa,ta,_,_,rfl,F3,?_⟩;rw[show(((ps++[some t]).length:Nat):Int) - 1=(ps.length:Int) by rw[List.length_append,List.length_singleton];lia];refine k _ F3 fun c o h1 h2 e=> ?_;rw[af h2,af h1];exact e
end
theorem xX(ts:aO)(n t:Nat):(ts.map oV).set n (.int t)=(ts.set n (some t)).map oV:=by
 rw[List.map_set];rfl
theorem qH{n i:Nat}(h:i<n):Og n (i:Int)=some i:=by
 unfold Og;rw[if_pos (show(0:Int)≤(i:Int) by lia),if_pos (show(i:Int)<(n:Int) by lia),Int.toNat_natCast]
section
variable{P:Program}{w:World}{K:Frag}{mg:Str→aH}{base:Heap}{A:pH}
def GU(C:Addr):Sp:=fun vs H Q _=>∃f pa ta ps ts,∃t:Nat,vs=[.ref f,.int t]∧ke C H f pa ta ps ts∧ps.length=ts.length∧cT ts (t:Int)=true∧t≠0∧Q .bH H
theorem lX(T:Txt K mg A):aV P w K mg base eI 6 A.d4 A.d5 ["self","thing"] (GU A.aj):=by
 have bD:=cG (P:=P) (w:=w) (base:=base) T;refine T.m8.ok lS (fun vs H Q E h=> ?_) (fun cF Ar outer s H vs Q E hr h=> ?_)
 ·obtain⟨f,pa,ta,ps,ts,t,rfl,_⟩:=h;rfl
 ·obtain⟨f,pa,ta,ps,ts,t,rfl,F,hl,hb,h0,k⟩:=h;obtain⟨⟨dx,z,ho⟩,hp,ht,ne⟩:=id F;obtain⟨u1,qm⟩:=T.tL;refine⟨_,(ak (aZ (aR (pv 0) T.ar T.cN bD hr T.cM .nil aw (aa (pv 1) ah))) (aq (cg (ba xJ (pv 1) (n9 rfl qm.2 qm.1) (bu _)) (aq eT) bp))),?_⟩;refine⟨_,rfl,f,dx,_,rfl,ho,aC (by decide+kernel),_,rfl,f,pa,ta,ps,ts,t,rfl,F,hl,hb,?_⟩;refine⟨_,rfl,rfl,_,rfl,?_⟩;rw[decide_eq_false (show ¬V.int (t:Int)=V.int 0 by intro z;injection z with z;lia)];exact g8 k
def UM(C:Addr):Sp:=fun vs H Q _=>∃f pa ta ps ts,∃t:Nat,vs=[.ref f,.int t]∧ke C H f pa ta ps ts∧WF ps ts∧
 ∀l H',H l=none→au H H'→H' l=some (.lst ((iX ps ts t).map nV))→Q (.ref l) H'
theorem wW(T:Txt K mg A):aV P w K mg base eI 6 A.me A.mD ["self","frame"] (UM A.aj):=by
 have cf:=(eF (P:=P) (w:=w) (base:=base) T).mono (by decide:_≤5);have nH:=rA (P:=P) (w:=w) (base:=base) T;refine T.yE.ok xy (fun vs H Q E h=> ?_) (fun cF Ar outer s H vs Q E hr h=> ?_)
 ·obtain⟨f,pa,ta,ps,ts,t,rfl,_⟩:=h;rfl
 ·obtain⟨f,pa,ta,ps,ts,t,rfl,F,W,k⟩:=h;obtain⟨⟨dx,z,ho⟩,hp,ht,ne⟩:=id F;have hl:=W.len;refine⟨_,(aq (aG (dA (N:=["number","frame","self"]) (k:=1) (js:=[1,0]) rfl (bP (by kernel_rfl)) (Cy rfl T.ny (aa (b_ (pv 0) T.ar T.fc cf hr T.e7 .nil aw) ah)) (fun _ _ _ _ _=>⟨(bc (i:=0) (show(["number","frame","self"]:aX).Nodup by decide+kernel) rfl (Or.inl rfl) (Or.inr rfl)),(Bw (ba (wO (K:=K) rfl) (pv 1) (aR (pv 2) T.ar T.tq nH hr T.ur .nil aw (aa (pv 0) ah)) (by with_unfolding_all rfl))),(pv 0)⟩)))),?_⟩;refine⟨_,rfl,f,dx,_,rfl,ho,aC (by decide+kernel),f,pa,ta,ps,ts,rfl,F,by have:=W.le;lia,fun sl H1 Tc s1 HZ=> ?_⟩;have F1:=F.same s1;obtain⟨⟨pG,z1,AO⟩,Hj,ht1,_⟩:=id F1;refine⟨sl,_,rfl,bA.of HZ,?_⟩;have hS:((aQ ts).map nV).reverse=(aQ ts).reverse.map nV:=by rw[List.map_reverse]
  have VL:((aQ ts).map nV).reverse.length=(aQ ts).reverse.length:=by rw[hS,List.length_map]
  refine eX (fun i=>decide (t∈lT ps ((aQ ts).reverse.getD i 0))) (fun i=>nV ((aQ ts).reverse.getD i 0)) (Ia (bA.of HZ)).g ?_ ?_ fun l H2 mW s2 hL=> ?_
  ·rw[VL,List.length_reverse];refine Nat.le_trans (List.length_filter_le _ _) ?_;rw[List.length_range];have:=W.le;exact Nat.le_trans (show ts.length≤101 by lia) (by decide)
  ·intro i x H' C1 C0 hi sm hx c1 c0;rw[hS,List.getElem?_map] at hx
   cases en:(aQ ts).reverse[i]? with
   |none=>rw[en] at hx;cases hx
   |some n=>
    rw[en] at hx;cases hx;have ed:(aQ ts).reverse.getD i 0=n:=by rw[List.getD_eq_getElem?_getD,en];rfl
    have hn:n<ps.length:=by
     have:=xw (List.mem_reverse.mp (List.mem_of_getElem? en))
     lia
    rw[ed] at c1 c0;have F' :=F1.same sm;obtain⟨⟨DH,z',Bf⟩,_,_,_⟩:=id F';refine⟨(gw.refl _).own (by decide),_,rfl,_,rfl,f,DH,_,rfl,Bf,aC (by decide+kernel),_,rfl,f,pa,ta,ps,ts,n,rfl,F',W,hn,fun rl H3 QX s3 hr3=> ?_⟩;refine⟨rl,_,rfl,.inl (bA.of hr3),rfl,Gw _,_,rfl,?_⟩;have e:Ua (V.int (t:Int)) ((lT ps n).map nV)=decide (t∈lT ps n):=LL t _;show if Ua (V.int (t:Int)) ((lT ps n).map nV)=true then _ else _
    rw[e]
    cases hd:decide (t∈lT ps n) with
    |true=>exact kj ⟨_,rfl,c1 hd H3 s3⟩
    |false=>exact g8 (c0 hd H3 s3)
  ·rw[VL] at hL
   have hL:H2 l=some (.lst ((iX ps ts t).map nV)):=by
    rw[hL];exact congrArg (fun z=>some (HO.lst z)) (tf (aQ ts).reverse (fun n=>decide (t∈lT ps n)) nV)
   exact k l H2 (s1.free mW) (s1.trans s2) hL
def Mn(C:Addr):Sp:=fun vs H Q _=>∃f pa ta ps ts,∃t:Nat,vs=[.ref f,.int t]∧ke C H f pa ta ps ts∧WF ps ts∧cT ts (t:Int)=true∧t≠0∧
 ∀l H',H l=none→H' l=some (.lst ((iX ps ts t).map nV))→ke C H' f pa ta ps (xz t (iX ps ts t) ts)→jC pa ta H H'→Q (.ref l) H'
theorem uT(T:Txt K mg A):aV P w K mg base eI 7 A.j4 A.jP ["self","frame"] (Mn A.aj):=by
 have nj:=lX (P:=P) (w:=w) (base:=base) T;have zl:=wW (P:=P) (w:=w) (base:=base) T;refine T.vT.ok i5 (fun vs H Q E h=> ?_) (fun cF Ar outer s H vs Q E hr h=> ?_)
 ·obtain⟨f,pa,ta,ps,ts,t,rfl,_⟩:=h;rfl
 ·obtain⟨f,pa,ta,ps,ts,t,rfl,F,W,hb,h0,k⟩:=h;obtain⟨⟨dx,z,ho⟩,hp,ht,ne⟩:=id F;have hl:=W.len;have fp:f≠pa:=aK ho hp (by intro z;cases z);have ft:f≠ta:=aK ho ht (by intro z;cases z);refine⟨_,(ak (aZ (aR (pv 0) T.ar T.nh nj hr T.m6 .nil aw (aa (pv 1) ah))) (ak (a_ (i:=2) i5.nd rfl (Or.inl rfl) (aR (pv 0) T.ar T.yt zl hr T.yC .nil aw (aa (pv 1) ah))) (ak (gO PassesOwn.never rfl (cx (pv 2)) (bc (i:=3) i5.nd rfl (Or.inl rfl) (Or.inl rfl)) (aq (ph (pv 1) (nB (b8 (pv 0) rfl) (pv 3) ww)))) (aq (aG (pv 2)))))),?_⟩;refine⟨_,rfl,f,dx,_,rfl,ho,aC (by decide+kernel),_,rfl,f,pa,ta,ps,ts,t,rfl,F,hl,hb,h0,?_⟩;refine⟨_,rfl,f,dx,_,rfl,ho,aC (by decide+kernel),_,rfl,f,pa,ta,ps,ts,t,rfl,F,W,fun l H2 C7 IH hL=> ?_⟩
  ·have F2:=F.same IH;obtain⟨⟨Yz,z2,VN⟩,w_,ht2,_⟩:=id F2
   have eO:l≠ta:=fun z=>by
    rw[z,ht] at C7;cases C7
   refine⟨_,rfl,l,rfl,⟨_,bA.of hL⟩,?_⟩;refine gg (K:=K) (a:=l) (xs:=(iX ps ts t).map nV) (fun i σ H3=>∃(x:Option V),σ=[some (.ref f),some (.int t),some (.ref l),x]∧H3=upd H2 ta (.lst ((xz t ((iX ps ts t).take i) ts).map oV))) ⟨none,rfl,?_⟩ ?_ ?_ ?_
   ·show H2=upd H2 ta (.lst (ts.map oV))
    funext c
    by_cases hc:c=ta
    ·subst hc;rw[ae];exact ht2
    ·rw[af hc]
   ·rintro i σ H3 _ ⟨x,rfl,rfl⟩
    exact bA.of (by rw[af eO];exact hL)
   ·rintro i x σ H3 hi ⟨x',rfl,rfl⟩
    rw[List.getElem?_map] at hi
    cases en:(iX ps ts t)[i]? with
    |none=>rw[en] at hi;cases hi
    |some n=>
     rw[en] at hi;cases hi;have hn:=Nl (List.mem_of_getElem? en);refine⟨_,rfl,_,rfl,f,A.aj,Yz,_,_,rfl,(by rw[af ft];exact VN),T.ar,T.cA,uU _ _ _,_,rfl,ta,_,_,n,rfl,rfl,ae,qH (by rw[List.length_map,qh];exact hn),?_⟩;refine⟨_,rfl,?_⟩;rw[wc]
     have e1:(iX ps ts t).take (i+1)=(iX ps ts t).take i++[n]:=by
      rw[List.take_add_one,en];rfl
     rw[e1,uI,←xX]
   ·rintro σ H3 ⟨x,rfl,rfl⟩
    rw[List.length_map,List.take_length];refine⟨_,rfl,k l _ C7 (by rw[af eO];exact hL) ⟨⟨Yz,z2,by rw[af ft];exact VN⟩,by rw[af ne];exact w_,ae,ne⟩ fun c o h1 h2 e=> ?_⟩;rw[af h2];exact IH c o e
end
def Kept(b:Addr)(H H' :Hp):Prop:=∀c o,c≠b→H c=some o→H' c=some o
section
variable{P:Program}{w:World}{K:Frag}{mg:Str→aH}{base:Heap}{A:pH}
def Wl(K:Frag):Sp:=fun vs H Q _=>∃(a:Addr) (ns:List Int) (k:Int),vs=[.ref a,.int k]∧bA K H a (ns.map V.int)∧0≤k∧k<1000∧∀c,Q (.int c) H
theorem Ba(T:Txt K mg A):aV P w K mg base eI 1 A.pK A.qt ["_law_script","_law_k"] (Wl K):=by
 refine T.p9.ok Bq (fun vs H Q E h=> ?_) (fun cF Ar outer s H vs Q E hr h=> ?_)
 ·obtain⟨a,ns,k,rfl,_⟩:=h;rfl
 ·obtain⟨a,ns,k,rfl,hS,h0,h1,q⟩:=h;refine⟨_,(ak (cg (ba DA (pv 1) (aE aU (by rfl) T.ee Boot.«len» (aa (pv 0) ah)) (bu _)) (aq (aG (bB bj (pv 0) (pv 1) (fun _ _=>rfl)))) bp) (aq (aG (bF iS (bF xN ax (pv 1)) ax)))),?_⟩;refine⟨_,rfl,_,rfl,a,_,rfl,.inl hS,k,_,rfl,rfl,_,rfl,?_⟩;refine yv (fun hk=> ?_) (fun hk=> ?_)
  ·have hk:=of_decide_eq_true hk;rw[List.length_map] at hk;obtain⟨j,rfl⟩:∃j:Nat,k=j:=⟨k.toNat,by lia⟩;have hj:j<ns.length:=by lia
   exact⟨_,rfl,_,rfl,a,_,_,_,rfl,rfl,hS,dD (v:= .int ns[j]) (by simp[hj]),q _⟩
  ·exact⟨_,rfl,7919,k,rfl,rfl,.inl ⟨by decide,by decide⟩,_,_,rfl,rfl,q _⟩
def c_(H:Hp)(b:Addr)(k:Nat):Prop:=∃(x y z:Int),H b=some (.lst [.int x,.int y,.int z])∧0≤x∧0≤y∧y<2147483629∧0≤z∧z≤(k:Int)
def xn(b:Addr)(H H' :Hp):Prop:=∀c,c≠b→H' c=H c
theorem xn.upd{b:Addr}{H:Hp}{o:HO}:xn b H (upd H b o):=fun c hc=>af hc
theorem xn.kept{b:Addr}{H H' :Hp}(h:xn b H H'):Kept b H H' :=fun c o hc e=>(h c hc).trans e
theorem Kept.refl(b:Addr)(H:Hp):Kept b H H:=fun _ _ _ e=>e
theorem Kept.trans{b:Addr}{H H1 H2:Hp}(h:Kept b H H1)(h' :Kept b H1 H2):Kept b H H2:=fun c o hc e=>h' c o hc (h c o hc e)
theorem _root_.L2.au.kept{b:Addr}{H H' :Hp}(h:au H H'):Kept b H H' :=fun c o _ e=>h c o e
theorem c_.same{b:Addr}{k:Nat}{H H' :Hp}(B:c_ H b k)(h:au H H'):c_ H' b k:=by
 obtain⟨x,y,z,hb,r⟩:=B;exact⟨x,y,z,h _ _ hb,r⟩
theorem c_.mono{b:Addr}{k j:Nat}{H:Hp}(B:c_ H b k)(h:k≤j):c_ H b j:=by
 obtain⟨x,y,z,hb,h1,h2,h3,h4,h5⟩:=B;exact⟨x,y,z,hb,h1,h2,h3,h4,by lia⟩
theorem c_.ne{b p:Addr}{k:Nat}{H:Hp}(B:c_ H b k)(h:H p=none):p≠b:=by
 obtain⟨x,y,z,hb,_⟩:=B;exact(ag hb h).symm
theorem c_.ne'{b t:Addr}{k:Nat}{H:Hp}{xs:az}(B:c_ H b k){H0:Hp}(_:H0 t=none)(h:H t=some (.tup xs)):t≠b:=by
 obtain⟨x,y,z,hb,_⟩:=B;exact(aK hb h (by intro q;cases q)).symm
theorem AR{K:Frag}{H:Hp}{p:Addr}{xs:az}{i:Int}{Q:VK}(Pv:V→Prop)(h:H p=some (.lst xs))(h0:0≤i)(h1:i<xs.length)(hP:∀x∈xs,Pv x)(q:∀v,Pv v→Q v H):Pn K (.ref p) (.int i) H Q:=by
 obtain⟨j,rfl⟩:∃j:Nat,i=j:=⟨i.toNat,by lia⟩;have hj:j<xs.length:=by lia
 exact⟨p,xs,j,xs[j],rfl,rfl,bA.of h,dD (by simp[hj]),q _ (hP _ (List.getElem_mem hj))⟩
def Za:Sp:=fun vs H Q _=>∃c,vs=[.int c]∧∀b H',H b=none→c_ H' b 0→au H H'→Q (.ref b) H'
theorem Dd(T:Txt K mg A):aV P w K mg base eI 1 A.sq A.sv ["_law_cell_here"] Za:=by
 refine T.rK.ok Dq (fun vs H Q E h=> ?_) (fun cF Ar outer s H vs Q E hr h=> ?_)
 ·obtain⟨c,rfl,_⟩:=h;rfl
 ·obtain⟨c,rfl,q⟩:=h;refine⟨_,(aq (aG (bN (aa (aE (qC rfl) (by rfl) T.zO Boot.«max» (aa ax (aa (bF j6 (pv 0) (bF Bz ax ax)) ah))) (aa (bF rH (pv 0) ax) (aa ax ah)))))),?_⟩;refine⟨_,rfl,10,18,rfl,rfl,⟨by decide,by decide,by decide⟩,c,_,rfl,rfl,0,_,rfl,?_⟩;refine⟨_,rfl,c,2147483629,rfl,rfl,(show(0:Int)<2147483629 by decide),(show 3≤sizeLine by decide),fun p hp=> ?_⟩;refine q p _ hp ⟨_,_,0,ae,?_,?_,?_,by decide,by decide⟩ (au.upd hp)
  ·split<;>lia
  ·lia
  ·lia
def UA:Sp:=fun vs H Q _=>∃(b:Addr) (n:Int) (k:Nat),vs=[.ref b,.int n]∧c_ H b k∧k≤100000∧0<n∧n<1073741824∧
 ∀(r:Int) (H' :Hp),0≤r→r<n→c_ H' b (k+1)→xn b H H'→Q (.int r) H'
theorem kn(T:Txt K mg A):aV P w K mg base eI 1 A.p_ A.qz ["_law_box_here","_law_many"] UA:=by
 refine T.bS.ok kc (fun vs H Q E h=> ?_) (fun cF Ar outer s H vs Q E hr h=> ?_)
 ·obtain⟨b,n,k,rfl,_⟩:=h;rfl
 ·obtain⟨b,n,k,rfl,⟨x,y,z,hb,hx,hy,NI,hz,hz2⟩,hk,hn,WJ,q⟩:=h;refine⟨_,(ak (cg (ba J9 (bB bj (pv 0) ax (fun _ _=>rfl)) ax (bu _)) (ak (a_ (i:=2) kc.nd rfl (Or.inl rfl) (bF rH (bB bj (pv 0) ax (fun _ _=>rfl)) (pv 1))) (ak (ph (bF tW (bB bj (pv 0) ax (fun _ _=>rfl)) (pv 1)) (nB (pv 0) ax ww)) (aq (aG (pv 2))))) bp) (ak (ph (bF iS (bB bj (pv 0) ax (fun _ _=>rfl)) ax) (nB (pv 0) ax ww)) (ak (a_ (i:=3) kc.nd rfl (Or.inl rfl) (bF rH (bF Bz (bF iS (bF iS (bB bj (pv 0) ax (fun _ _=>rfl)) (bF xN ax (bB bj (pv 0) ax (fun _ _=>rfl)))) ax) ax) ax)) (ak (a_ (i:=4) kc.nd rfl (Or.inl rfl) (bF rH (bF Bz (bF iS (bF iS (bF tW (pv 3) ax) (bF xN ax (bB bj (pv 0) ax (fun _ _=>rfl)))) ax) ax) ax)) (aq (aG (bF rH (bF iS (bF tW (pv 3) ax) (bF xN ax (bF tW (pv 4) ax))) (pv 1)))))))),?_⟩;refine⟨_,rfl,b,_,_,_,rfl,rfl,bA.of hb,rfl,_,_,rfl,rfl,_,rfl,?_⟩;refine yv (fun h0=> ?_) (fun h0=> ?_)
  ·refine⟨_,rfl,b,_,_,_,rfl,rfl,bA.of hb,rfl,_,rfl,x,n,rfl,rfl,hn,?_⟩;refine⟨_,rfl,b,_,_,_,rfl,rfl,bA.of hb,rfl,_,rfl,x,n,rfl,rfl,⟨hn,WJ⟩,?_⟩;refine⟨_,rfl,b,_,0,0,rfl,rfl,hb,rfl,?_⟩;refine⟨_,rfl,q _ _ (Int.emod_nonneg _ (by lia)) (Int.emod_lt_of_pos _ hn) ⟨_,y,z,ae,Int.ediv_nonneg hx (by lia),hy,NI,hz,by lia⟩ xn.upd⟩
  ·refine⟨_,rfl,b,_,_,_,rfl,rfl,bA.of hb,rfl,z,1,rfl,rfl,?_⟩;refine⟨_,rfl,b,_,2,2,rfl,rfl,hb,rfl,?_⟩;have yl :upd H b (.lst [.int x,.int y,.int (z+1)]) b=some (.lst [.int x,.int y,.int (z+1)]):=ae;refine⟨_,rfl,b,_,_,_,rfl,rfl,bA.of yl,rfl,_,rfl,b,_,_,_,rfl,rfl,bA.of yl,rfl,7919,z+1,rfl,rfl,.inl ⟨by decide,by decide⟩,y,_,rfl,rfl,_,29,rfl,rfl,_,5,rfl,rfl,⟨by decide,by decide,?_⟩,_,2147483647,rfl,rfl,(show(0:Int)<2147483647 by decide),?_⟩
   ·lia
   dsimp only;generalize e1:(y+7919*(z+1)+29) ^ (5:Int).toNat % 2147483647=one;have b1:0≤one:=by rw[←e1];exact Int.emod_nonneg _ (by decide)
   have b2:one<2147483647:=by rw[←e1];exact Int.emod_lt_of_pos _ (by decide)
   refine⟨_,rfl,one,8,rfl,rfl,⟨by decide,by decide⟩,_,rfl,b,_,_,_,rfl,rfl,bA.of yl,rfl,104729,z+1,rfl,rfl,.inl ⟨by decide,by decide⟩,_,_,rfl,rfl,_,3,rfl,rfl,_,3,rfl,rfl,⟨by decide,by decide,?_⟩,_,2147483629,rfl,rfl,(show(0:Int)<2147483629 by decide),?_⟩
   ·lia
   dsimp only;generalize e2:(one / 8+104729*(z+1)+3) ^ (3:Int).toNat % 2147483629=other;have b3:0≤other:=by rw[←e2];exact Int.emod_nonneg _ (by decide)
   have b4:other<2147483629:=by rw[←e2];exact Int.emod_lt_of_pos _ (by decide)
   refine⟨_,rfl,one,4,rfl,rfl,⟨by decide,by decide⟩,_,rfl,other,4,rfl,rfl,⟨by decide,by decide⟩,536870909,_,rfl,rfl,.inl ⟨by decide,by decide⟩,_,_,rfl,rfl,_,rfl,_,n,rfl,rfl,hn,?_⟩;exact q _ _ (Int.emod_nonneg _ (by lia)) (Int.emod_lt_of_pos _ hn) ⟨x,y,z+1,ae,hx,hy,NI,by lia,by lia⟩ xn.upd
abbrev kH:wp:=Sum.inr "holders"
abbrev kT:wp:=Sum.inr "takers"
theorem kHT:¬kH=kT:=by decide+kernel
abbrev kL:wp:=Sum.inr "limit"
abbrev kP:wp:=Sum.inr "top"
abbrev kW:wp:=Sum.inr "ways"
abbrev kC:wp:=Sum.inr "cells"
structure MX where
 li:V
 tp:V
 wl:V
 ca:V
def qX(ha tk:Addr)(z:MX):bJ:=[(kH,.ref ha),(kT,.ref tk),(kL,z.li),(kP,z.tp),(kW,z.wl),(kC,z.ca)]
theorem XG(ha tk:Addr)(z:MX):bz (qX ha tk z) kH=some (.ref ha):=b9 rfl
theorem abI(ha tk:Addr)(z:MX):bz (qX ha tk z) kT=some (.ref tk):=(br kHT).trans (b9 rfl)
theorem Xy(ha tk:Addr)(z:MX):bz (qX ha tk z) kL=some z.li:=((br (show ¬kH=kL by decide+kernel)).trans ((br (show ¬kT=kL by decide+kernel)).trans (b9 rfl)))
theorem abK(ha tk:Addr)(z:MX):bz (qX ha tk z) kP=some z.tp:=((br (show ¬kH=kP by decide+kernel)).trans ((br (show ¬kT=kP by decide+kernel)).trans ((br (show ¬kL=kP by decide+kernel)).trans (b9 rfl))))
theorem Z_(ha tk:Addr)(z:MX):bz (qX ha tk z) kW=some z.wl:=((br (show ¬kH=kW by decide+kernel)).trans ((br (show ¬kT=kW by decide+kernel)).trans ((br (show ¬kL=kW by decide+kernel)).trans ((br (show ¬kP=kW by decide+kernel)).trans (b9 rfl)))))
theorem T_(ha tk:Addr)(z:MX):bz (qX ha tk z) kC=some z.ca:=((br (show ¬kH=kC by decide+kernel)).trans ((br (show ¬kT=kC by decide+kernel)).trans ((br (show ¬kL=kC by decide+kernel)).trans ((br (show ¬kP=kC by decide+kernel)).trans ((br (show ¬kW=kC by decide+kernel)).trans (b9 rfl))))))
structure fW(H:Hp)(d ha tk:Addr)(ps ts:aO):Prop where
 ob:∃z,H d=some (.dK (qX ha tk z))
 hl:H ha=some (.lst (ps.map oV))
 tl:H tk=some (.lst (ts.map oV))
 ne:ha≠tk
theorem fW.same{H H' :Hp}{d ha tk:Addr}{ps ts:aO}(M:fW H d ha tk ps ts)(s:au H H'):fW H' d ha tk ps ts:=⟨M.ob.imp fun _ e=>s _ _ e,s _ _ M.hl,s _ _ M.tl,M.ne⟩
theorem fW.BN{H:Hp}{d ha tk:Addr}{ps ts:aO}(M:fW H d ha tk ps ts):ff H d (.str "holders") (some (.ref ha)):=by
 obtain⟨z,e⟩:=M.ob;have:=ff.k (k:=kH) e;rw[XG] at this;exact this
theorem fW.xQ{H:Hp}{d ha tk:Addr}{ps ts:aO}(M:fW H d ha tk ps ts):ff H d (.str "takers") (some (.ref tk)):=by
 obtain⟨z,e⟩:=M.ob;have:=ff.k (k:=kT) e;rw[abI] at this;exact this
def Ce:Sp:=fun vs H Q _=>∃d ha tk ps ts,vs=[.ref d]∧fW H d ha tk ps ts∧ts.length≤1000∧∀l H',H l=none→au H H'→H' l=some (.lst ((aQ ts).map nV))→Q (.ref l) H'
theorem fQ(T:Txt K mg A):aV P w K mg base eI 1 A.jT A.jZ ["_law_model"] Ce:=by
 refine T.dj.ok u6 (fun vs H Q E h=> ?_) (fun cF Ar outer s H vs Q E hr h=> ?_)
 ·obtain⟨d,ha,tk,ps,ts,rfl,_⟩:=h;rfl
 ·obtain⟨d,ha,tk,ps,ts,rfl,M,hle,k⟩:=h;have hu:=dS hr;refine⟨_,(aq (aG (dA (N:=["_law_k","_law_model"]) (k:=1) (js:=[0]) rfl (bP (by kernel_rfl)) (iW rfl T.kg (aa (aE aU (by rfl) T.ee Boot.«len» (aa (aN hu (pv 0) aS (fun _ _=>rfl)) ah)) ah)) (fun _ _ _ _ _=>⟨(bc (i:=0) (show(["_law_k","_law_model"]:aX).Nodup by decide+kernel) rfl (Or.inl rfl) (Or.inr rfl)),(Bw (ba rT (bB (qu (K:=K) rfl) (aN hu (pv 1) aS (fun _ _=>rfl)) (pv 0) (fun _ _=>rfl)) cW (bu _))),(pv 0)⟩)))),?_⟩;refine⟨_,rfl,d,_,rfl,M.xQ,tk,_,rfl,.inl (bA.of M.tl),_,rfl,?_,?_,?_⟩
  ·lia
  ·rw[List.length_map]
   lia
  rw[List.length_map,Int.toNat_natCast];have Wt:((List.range ts.length).map fun(i:Nat)=>V.int (0+(i:Int))).length=ts.length:=by rw[List.length_map,List.length_range]
  refine eX (fun i=>ts[i]? ==some none) nV (vf 0 ts.length H).g ?_ ?_ fun p H' hp sm hl=>k p H' hp sm ?_
  ·rw[Wt];exact Nat.le_trans hle (by decide)
  ·intro i x H' C1 C0 hi sm hx c1 c0;rw[Wt] at hi;rw[List.getElem?_map,List.getElem?_range hi] at hx;cases hx;have ND:ts[i]? =some ts[i]:=by simp[hi]
   have M' :=M.same sm;rw[ND] at c1 c0;refine⟨(gw.refl _).own (by decide),_,rfl,d,_,rfl,M'.xQ,_,rfl,tk,_,_,_,rfl,rfl,bA.of M'.tl,(by rw[Int.zero_add];exact jS ND),rfl,_,rfl,?_⟩
   cases eo:ts[i] with
   |none=>
    rw[eo] at c1;refine⟨_,rfl,?_⟩;have q:=c1 rfl H' (au.refl H')
    have e:V.int (0+(i:Int))=nV i:=by
     show V.int (0+(i:Int))=V.int (i:Int);rw[Int.zero_add]
    show C1 (V.int (0+(i:Int))) H';rw[e];exact q
   |some n=>
    rw[eo] at c0;exact c0 rfl H' (au.refl H')
  ·rw[Wt] at hl;exact hl
theorem Fi(m:Nat)(rest:List Nat):Ir ((m::rest).map nV) 0=some (nV m):=dD (xs:=(m::rest).map nV) (j:=0) (v:=nV m) rfl
def V3:Sp:=fun vs H Q _=>∃d ha tk ps ts,∃t:Nat,vs=[.ref d,.int t]∧fW H d ha tk ps ts∧WF ps ts∧t<ps.length∧∀l H',H l=none→au H H'→H' l=some (.lst ((lT ps t).map nV))→Q (.ref l) H'
theorem vw(T:Txt K mg A):aV P w K mg base eI 1 A.rX A.sk ["_law_model","_law_frame"] V3:=by
 refine T.sE.ok ql (fun vs H Q E h=> ?_) (fun cF Ar outer s H vs Q E hr h=> ?_)
 ·obtain⟨d,ha,tk,ps,ts,t,rfl,_⟩:=h;rfl
 ·obtain⟨d,ha,tk,ps,ts,t,rfl,M,W,eO,k⟩:=h;have hu:=dS hr;refine⟨_,(ak (a_ (i:=2) ql.nd rfl (Or.inl rfl) (bN (aa (pv 1) ah))) (ak (CO PassesOwn.never (ba we (bB bj (aN hu (pv 0) aS (fun _ _=>rfl)) (bB bj (pv 2) ax (fun _ _=>rfl)) (fun _ _=>rfl)) cW (bu _)) (aq (a_ (i:=2) ql.nd rfl (Or.inl rfl) (bF Lj (bN (aa (bB bj (aN hu (pv 0) aS (fun _ _=>rfl)) (bB bj (pv 2) ax (fun _ _=>rfl)) (fun _ _=>rfl)) ah)) (pv 2))))) (aq (aG (pv 2))))),?_⟩;refine⟨_,rfl,(show 1≤sizeLine by decide),fun l0 C7=> ?_⟩
  have KU:(AM ps t).length≤101:=by
   have:=A5 ps t t;have:=W.le;show(Bm ps t t).length≤101
   lia
  refine⟨fun m σ H' =>∃(c:Nat) (rest:List Nat) (l:Addr) (o:Option Nat),σ=[some (.ref d),some (.int t),some (.ref l)]∧H' l=some (.lst ((c::rest).map nV))∧H l=none∧au H H'∧ps[c]? =some o∧(c::rest).reverse++W5 ps o=AM ps t∧m=c,⟨t,t,[],l0,ps[t],rfl,ae,C7,au.upd C7,by simp[eO],?_,rfl⟩,?_⟩
  ·exact(uo W (by simp[eO])).symm
  ·rintro m σ H' ⟨c,rest,l,o,rfl,hl,hlH,sm,hc,hup,rfl⟩
   have M' :=M.same sm;refine⟨_,rfl,d,_,rfl,M'.BN,_,rfl,l,_,_,_,rfl,rfl,bA.of hl,Fi _ _,ha,_,_,_,rfl,rfl,bA.of M'.hl,jS hc,rfl,_,rfl,?_⟩
   cases o with
   |none=>
    refine⟨_,rfl,k l H' hlH sm ?_⟩;have e:(m::rest).reverse=AM ps t:=by simpa[W5] using hup
    have e2:m::rest=lT ps t:=by
     show m::rest=(AM ps t).reverse;rw[←e,List.reverse_reverse]
    rw[hl,e2]
   |some j=>
    have hjm:j<m∧j<ps.length:=by
     have hml:m<ps.length:=(List.getElem?_eq_some_iff.mp hc).1
     cases m with
     |zero=>rw[W.root] at hc;cases hc
     |succ g=>
      obtain⟨i',e',yk⟩:=W.par (g+1) (by lia) hml;rw[e'] at hc;cases hc;exact⟨yk,by lia⟩
    have hxj:ps[j]? =some ps[j]:=by simp[hjm.2]
    have aaG:(m::rest).reverse++AM ps j=AM ps t:=hup
    have hlen:(m::rest).length≤101:=by
     have e1:((m::rest).reverse++AM ps j).length≤101:=by rw[aaG];exact KU
     rw[List.length_append,List.length_reverse] at e1
     lia
    refine⟨_,fun cI H' h=>h,?_⟩;refine⟨_,rfl,d,_,rfl,M'.BN,_,rfl,l,_,_,_,rfl,rfl,bA.of hl,Fi _ _,ha,_,_,_,rfl,rfl,bA.of M'.hl,jS hc,(show 1≤sizeLine by decide),fun p1 h1=> ?_⟩;have s1:=au.upd (o:= .lst [oV (some j)]) h1;refine⟨_,rfl,p1,l,_,_,rfl,rfl,ae,s1 _ _ hl,?_,fun p2 h2=> ?_⟩
    ·rw[List.length_map];exact Nat.le_trans (show 1+(m::rest).length≤200 by lia) (by decide)
    have s2:=au.upd (o:= .lst ([oV (some j)]++(m::rest).map nV)) h2;refine⟨j,hjm.1,j,m::rest,p2,ps[j],rfl,?_,sm.free (s1.free h2),sm.trans (s1.trans s2),hxj,?_,rfl⟩
    ·rw[ae];rfl
    ·rw[List.reverse_cons,List.append_assoc,←aaG,uo W hxj];rfl
theorem fW.apart{H:Hp}{d ha tk:Addr}{ps ts:aO}(M:fW H d ha tk ps ts):d≠ha∧d≠tk:=let⟨_,e⟩:=M.ob;⟨aK e M.hl (by intro z;cases z),aK e M.tl (by intro z;cases z)⟩
def K2:Sp:=fun vs H Q _=>∃d ha tk ps ts,∃t:Nat,vs=[.ref d,.int t]∧fW H d ha tk ps ts∧ps.length≤100∧ts.length≤100∧
 ∀H',fW H' d ha tk (ps++[some t]) (ts++[none])→jC ha tk H H'→Q (.int ps.length) H'
theorem yJ(T:Txt K mg A):aV P w K mg base eI 1 A.nK A.oP ["_law_model","_law_frame"] K2:=by
 refine T.tO.ok yz (fun vs H Q E h=> ?_) (fun cF Ar outer s H vs Q E hr h=> ?_)
 ·obtain⟨d,ha,tk,ps,ts,t,rfl,_⟩:=h;rfl
 ·obtain⟨d,ha,tk,ps,ts,t,rfl,M,hle,akv,k⟩:=h;have hu:=dS hr;obtain⟨n1,n2⟩:=M.apart;refine⟨_,(ak (aZ (vy plainAttrs_list PySem.F.slot_list_append PySem.F.type_list_append eW (aN hu (pv 0) aS (fun _ _=>rfl)) (aa (pv 1) ah))) (ak (aZ (vy plainAttrs_list PySem.F.slot_list_append PySem.F.type_list_append eW (aN hu (pv 0) aS (fun _ _=>rfl)) (aa cW ah))) (aq (aG (bF j6 (aE aU (by rfl) T.ee Boot.«len» (aa (aN hu (pv 0) aS (fun _ _=>rfl)) ah)) ax))))),?_⟩;refine⟨_,rfl,d,_,rfl,M.BN,.inl ⟨rfl,_,bA.of M.hl⟩,_,rfl,ha,_,_,rfl,rfl,M.hl,?_,?_⟩
  ·rw[List.length_map];exact Nat.lt_of_le_of_lt hle (by decide)
  have e1:ps.map oV++[V.int (t:Int)]=(ps++[some t]).map oV:=by rw[List.map_append];rfl
  rw[e1];have M1:fW (upd H ha (.lst ((ps++[some t]).map oV))) d ha tk (ps++[some t]) ts:=⟨M.ob.imp fun _ e=>by rw[af n1];exact e,ae,by rw[af M.ne.symm];exact M.tl,M.ne⟩;refine⟨_,rfl,d,_,rfl,M1.xQ,.inl ⟨rfl,_,bA.of M1.tl⟩,tk,_,_,rfl,rfl,M1.tl,?_,?_⟩
  ·rw[List.length_map];exact Nat.lt_of_le_of_lt akv (by decide)
  have e2:ts.map oV++[V.bH]=(ts++[none]).map oV:=by rw[List.map_append];rfl
  rw[e2];have M2:fW (upd (upd H ha (.lst ((ps++[some t]).map oV))) tk (.lst ((ts++[none]).map oV))) d ha tk (ps++[some t]) (ts++[none]):=⟨by rw[af n2];exact M1.ob,by rw[af M.ne];exact M1.hl,ae,M.ne⟩;refine⟨_,rfl,d,_,rfl,M2.BN,ha,_,rfl,.inl (bA.of M2.hl),_,1,rfl,rfl,?_⟩
  have e3:(((List.map oV (ps++[some t])).length:Int) - 1)=(ps.length:Int):=by
   rw[List.length_map,List.length_append];show((ps.length+1:Nat):Int) - 1=_
   lia
  show Q (V.int (((List.map oV (ps++[some t])).length:Int) - 1)) _;rw[e3];refine k _ M2 fun c o h1 h2 e=> ?_;rw[af h2,af h1];exact e
def GL:Sp:=fun vs H Q _=>∃d ha tk ps ts,∃t:Nat,vs=[.ref d,.int t]∧fW H d ha tk ps ts∧WF ps ts∧
 ∀l H',H l=none→H' l=some (.lst ((iX ps ts t).map nV))→fW H' d ha tk ps (xz t (iX ps ts t) ts)→jC ha tk H H'→Q (.ref l) H'
theorem xR(T:Txt K mg A):aV P w K mg base eI 2 A.mC A.mv ["_law_model","_law_frame"] GL:=by
 have cm:=fQ (P:=P) (w:=w) (base:=base) T;have sG:=vw (P:=P) (w:=w) (base:=base) T;refine T.rb.ok lg (fun vs H Q E h=> ?_) (fun cF Ar outer s H vs Q E hr h=> ?_)
 ·obtain⟨d,ha,tk,ps,ts,t,rfl,_⟩:=h;rfl
 ·obtain⟨d,ha,tk,ps,ts,t,rfl,M,W,k⟩:=h;have hu:=dS hr;have hl:=W.len;obtain⟨n1,n2⟩:=M.apart;refine⟨_,(ak (FY (i:=2) lg.nd rfl (Or.inl rfl) (N:=["_law_k","_law_frame","_law_model"]) (k:=1) (js:=[1,0]) rfl (bP (by kernel_rfl)) (cx (Mu (ay cm hr rfl T.eL T.dj.kp T.eR .nil aw (aa (pv 0) ah)) (Ru Jv ax))) (fun _ _ _ _ _=>⟨(bc (i:=0) (show(["_law_k","_law_frame","_law_model"]:aX).Nodup by decide+kernel) rfl (Or.inl rfl) (Or.inr rfl)),(Bw (ba (wO (K:=K) rfl) (pv 1) (ay sG hr rfl T.xC T.sE.kp T.xD .nil aw (aa (pv 2) (aa (pv 0) ah))) (by with_unfolding_all rfl))),(pv 0)⟩)) (ak (gO PassesOwn.never rfl (cx (pv 2)) (bc (i:=3) lg.nd rfl (Or.inl rfl) (Or.inl rfl)) (aq (ph (pv 1) (nB (aN hu (pv 0) aS (fun _ _=>rfl)) (pv 3) ww)))) (aq (aG (pv 2))))),?_⟩;refine⟨_,rfl,d,ha,tk,ps,ts,rfl,M,by have:=W.le;lia,fun sl H1 Tc s1 HZ=> ?_⟩;refine⟨1,rfl,_,rfl,sl,_,rfl,rfl,bA.of HZ,fun rl QX=> ?_⟩;have s1' :=s1.trans (au.upd (o:= .lst ((aQ ts).map nV).reverse) QX);have hS:((aQ ts).map nV).reverse=(aQ ts).reverse.map nV:=by rw[List.map_reverse]
  have hR:upd H1 rl (.lst ((aQ ts).map nV).reverse) rl=some (.lst ((aQ ts).reverse.map nV)):=by rw[ae,hS]
  have M1:=M.same s1';generalize upd H1 rl (.lst ((aQ ts).map nV).reverse)=H1' at s1' hR M1;refine⟨rl,rfl,⟨_,bA.of hR⟩,?_⟩;have VL:((aQ ts).reverse.map nV).length=(aQ ts).reverse.length:=by rw[List.length_map]
  refine eX (fun i=>decide (t∈lT ps ((aQ ts).reverse.getD i 0))) (fun i=>nV ((aQ ts).reverse.getD i 0)) (dg (bA.of hR)).g ?_ ?_ fun l H2 mW s2 hL=> ?_
  ·rw[VL,List.length_reverse];refine Nat.le_trans (List.length_filter_le _ _) ?_;rw[List.length_range];have:=W.le;exact Nat.le_trans (show ts.length≤101 by lia) (by decide)
  ·intro i x H' C1 C0 hi sm hx c1 c0;rw[List.getElem?_map] at hx
   cases en:(aQ ts).reverse[i]? with
   |none=>rw[en] at hx;cases hx
   |some n=>
    rw[en] at hx;cases hx;have ed:(aQ ts).reverse.getD i 0=n:=by rw[List.getD_eq_getElem?_getD,en];rfl
    have hn:n<ps.length:=by
     have:=xw (List.mem_reverse.mp (List.mem_of_getElem? en))
     lia
    rw[ed] at c1 c0;have M' :=M1.same sm;refine⟨(gw.refl _).own (by decide),_,rfl,_,rfl,_,rfl,d,ha,tk,ps,ts,n,rfl,M',W,hn,fun rl H3 QX s3 hr3=> ?_⟩;refine⟨rl,_,rfl,.inl (bA.of hr3),rfl,Gw _,_,rfl,?_⟩;have e:Ua (V.int (t:Int)) ((lT ps n).map nV)=decide (t∈lT ps n):=LL t _;show if Ua (V.int (t:Int)) ((lT ps n).map nV)=true then _ else _
    rw[e]
    cases hd:decide (t∈lT ps n) with
    |true=>exact kj ⟨_,rfl,c1 hd H3 s3⟩
    |false=>exact g8 (c0 hd H3 s3)
  ·rw[VL] at hL
   have hL:H2 l=some (.lst ((iX ps ts t).map nV)):=by
    rw[hL];exact congrArg (fun z=>some (HO.lst z)) (tf (aQ ts).reverse (fun n=>decide (t∈lT ps n)) nV)
   have IH:=s1'.trans s2;have M2:=M.same IH
   have eO:l≠tk:=fun z=>by
    have:=s1' _ _ M.tl;rw[←z,mW] at this;cases this
   have C7:H l=none:=s1'.free mW;refine⟨_,rfl,l,rfl,⟨_,bA.of hL⟩,?_⟩;refine gg (K:=K) (a:=l) (xs:=(iX ps ts t).map nV) (fun i σ H3=>∃(x:Option V),σ=[some (.ref d),some (.int t),some (.ref l),x]∧H3=upd H2 tk (.lst ((xz t ((iX ps ts t).take i) ts).map oV))) ⟨none,rfl,?_⟩ ?_ ?_ ?_
   ·show H2=upd H2 tk (.lst (ts.map oV))
    funext c
    by_cases hc:c=tk
    ·subst hc;rw[ae];exact M2.tl
    ·rw[af hc]
   ·rintro i σ H3 _ ⟨x,rfl,rfl⟩
    exact bA.of (by rw[af eO];exact hL)
   ·rintro i x σ H3 hi ⟨x',rfl,rfl⟩
    rw[List.getElem?_map] at hi
    cases en:(iX ps ts t)[i]? with
    |none=>rw[en] at hi;cases hi
    |some n=>
     rw[en] at hi;cases hi;have hn:=Nl (List.mem_of_getElem? en);have M3:fW (upd H2 tk (.lst ((xz t ((iX ps ts t).take i) ts).map oV))) d ha tk ps (xz t ((iX ps ts t).take i) ts):=⟨M2.ob.imp fun _ e=>by rw[af n2];exact e,by rw[af M.ne];exact M2.hl,ae,M.ne⟩;refine⟨_,rfl,_,rfl,d,_,rfl,M3.xQ,_,rfl,tk,_,_,n,rfl,rfl,ae,qH (by rw[List.length_map,qh];exact hn),?_⟩;refine⟨_,rfl,?_⟩;rw[wc]
     have e1:(iX ps ts t).take (i+1)=(iX ps ts t).take i++[n]:=by
      rw[List.take_add_one,en];rfl
     rw[e1,uI,←xX]
   ·rintro σ H3 ⟨x,rfl,rfl⟩
    rw[List.length_map,List.take_length];refine⟨_,rfl,k l _ C7 (by rw[af eO];exact hL) ⟨M2.ob.imp fun _ e=>by rw[af n2];exact e,by rw[af M.ne];exact M2.hl,ae,M.ne⟩ fun c o h1 h2 e=> ?_⟩;rw[af h2];exact IH c o e
end
def oD:Option Nat→PyData
 |none=> .none
 |some n=> .int n
theorem kr(H:Hp):∀xs:aO,DatAll H (xs.map oV) (xs.map oD)
 |[]=> .nil
 |none::r=> .cons .bH (kr H r)
 |some n::r=> .cons (.int n) (kr H r)
theorem Hm{n:Nat}(h:n≤1000):(n:Int).natAbs.log2<1920:=by
 have h1:(n:Int).natAbs=n:=Int.natAbs_natCast n;rw[h1];have:=Nat.log2_le_self n
 lia
theorem abc(S:List Nat):S.map nV=(S.map some).map oV:=by
 rw[List.map_map];rfl
abbrev Rm:=List (Nat×Nat)
def cR(R:Rm)(n:Nat):Nat:=((R.filter fun r=>r.1==n).map (·.2)).sum
def Nt(ts:aO)(R:Rm):Nat:=((aQ ts).map (cR R)).sum
def bg(ts:aO)(R:Rm):Nat:=((R.filter fun r=>ts[r.1]? ==some none).map (·.2)).sum
theorem jaj(S:List Nat)(f g:Nat→Nat):(S.map fun n=>f n+g n).sum=(S.map f).sum+(S.map g).sum:=by
 induction S with
 |nil=>rfl
 |cons a S ih=>
  simp only[List.map_cons,List.sum_cons,ih]
  lia
theorem Gq(a b:Nat):∀S:List Nat,S.Nodup→(S.map fun n=>if a==n then b else 0).sum=if a∈S then b else 0
 |[],_=>by simp
 |c::S,h=>by
  obtain⟨h1,h2⟩:=List.nodup_cons.mp h;rw[List.map_cons,List.sum_cons,Gq a b S h2];by_cases e:a=c
  ·subst e;rw[if_neg h1];simp
  ·have:(a==c)=false:=by simpa using e
   rw[this];simp[e]
theorem Kd(n:Nat):cR [] n=0:=rfl
theorem uz(r:Nat×Nat)(R:Rm)(n:Nat):cR (r::R) n=(if r.1==n then r.2 else 0)+cR R n:=by
 unfold cR;rw[List.filter_cons];cases r.1==n<;>simp
theorem C6(ts:aO):(aQ ts).Nodup:=List.Pairwise.filter _ List.nodup_range
theorem fR{ts:aO}{n:Nat}:n∈aQ ts↔(ts[n]? ==some none)=true:=by
 rw[Ik];unfold cT;rw[decide_eq_true (show(0:Int)≤n by lia),Bool.true_and,Int.toNat_natCast]
theorem Gp(ts:aO):∀R:Rm,Nt ts R=bg ts R
 |[]=>by
  unfold Nt bg;simp only[Kd,List.filter_nil,List.map_nil,List.sum_nil]
  induction aQ ts with
  |nil=>rfl
  |cons a S ih=>
   rw[List.map_cons,List.sum_cons,ih];rfl
 |r::R=>by
  have ih:=Gp ts R
  have e:(aQ ts).map (cR (r::R))=(aQ ts).map fun n=>(if r.1==n then r.2 else 0)+cR R n:=by
   congr 1
   funext n
   exact uz r R n
  unfold Nt at ih ⊢;rw[e,jaj,Gq _ _ _ (C6 ts),ih];unfold bg;rw[List.filter_cons];by_cases q:(ts[r.1]? ==some none)=true
  ·rw[if_pos (fR.mpr q),q];simp
  ·rw[if_neg (fun z=>q (fR.mp z))];simp only[Bool.not_eq_true] at q;rw[q];simp
theorem G5(R:Rm)(t k n:Nat):cR (R++[(t,k)]) n=cR R n+(if t==n then k else 0):=by
 unfold cR;rw[List.filter_append,List.map_append,List.sum_append]
 congr 1
 cases e:t==n<;>simp[e]
theorem k_{ts:aO}(R:Rm){t:Nat}(k:Nat)(h:ts[t]? =some none):bg ts (R++[(t,k)])=bg ts R+k:=by
 unfold bg;rw[List.filter_append,List.map_append,List.sum_append]
 congr 1
 simp[h]
theorem Ga{R:Rm}(h:∀r∈R,r.2≤6)(n:Nat):cR R n≤6*R.length:=by
 induction R with
 |nil=>simp[cR]
 |cons r R ih=>
  have h1:=ih fun r hr=>h r (List.mem_cons_of_mem _ hr);have h2:=h r List.mem_cons_self;rw[uz,List.length_cons]
  split<;>lia
theorem Cd(ts:aO){R:Rm}(h:∀r∈R,r.1<ts.length):bg (ts++[none]) R=bg ts R:=by
 unfold bg
 congr 2
 refine List.filter_congr fun r hr=> ?_;rw[List.getElem?_append_left (h r hr)]
theorem q0{α:Type}(p q:α→Bool)(f:α→Nat):∀R:List α,(∀r∈R,p r=true→q r=true)→((R.filter p).map f).sum≤((R.filter q).map f).sum
 |[],_=>by simp
 |r::R,h=>by
  have ih:=q0 p q f R fun x hx=>h x (List.mem_cons_of_mem _ hx);have h1:=h r List.mem_cons_self;rw[List.filter_cons,List.filter_cons]
  cases hp:p r with
  |true=>rw[h1 hp];simpa using ih
  |false=>
   cases q r with
   |true=>simp only[Bool.false_eq_true,if_false,if_true,List.map_cons,List.sum_cons];lia
   |false=>simpa using ih
theorem Ac{t:Nat}:∀(E:List Nat) (ts:aO) (i:Nat),(xz t E ts)[i]? =some none→ts[i]? =some none
 |[],ts,i,h=>h
 |n::r,ts,i,h=>by
  have h1:=Ac r (ts.set n (some t)) i h;rw[List.getElem?_set] at h1
  split at h1
  ·split at h1<;>cases h1
  ·exact h1
theorem AQ(t:Nat)(E:List Nat)(ts:aO)(R:Rm):bg (xz t E ts) R≤bg ts R:=by
 refine q0 _ _ _ R fun r _ h=> ?_;rw[Ac E ts r.1 (eq_of_beq h)];rfl
theorem Md(S:List Nat)(f:Nat→Nat):(S.map fun n=>((f n:Nat):Int)).sum=(((S.map f).sum:Nat):Int):=by
 induction S with
 |nil=>rfl
 |cons a S ih=>
  simp only[List.map_cons,List.sum_cons,ih]
  lia
theorem jE{H:Hp}{a c:Addr}{o:HO}(z:c=a):upd H a o c=some o:=by
 rw[z];exact ae
theorem vx{α:Type}(S:List α)(z:α):S=(List.range S.length).map fun i=>S.getD i z:=by
 apply List.ext_getElem?;intro i;rw[List.getElem?_map];by_cases h:i<S.length
 ·rw[List.getElem?_range h];simp[List.getD_eq_getElem?_getD,h]
 ·rw[List.getElem?_eq_none (by lia),List.getElem?_eq_none (by rw[List.length_range];lia)];rfl
theorem lV{α β:Type}(S:List α)(z:α)(p:α→Bool)(g:α→β):((List.range S.length).filter fun i=>p (S.getD i z)).map (fun i=>g (S.getD i z))=(S.filter p).map g:=by
 conv=>rhs;rw[vx S z]
 rw[List.filter_map,List.map_map];rfl
def bV(R:Rm)(t:Nat):List Nat:=(List.range R.length).filter fun i=>(R.getD i (0,0)).1==t
theorem Od(R:Rm)(t:Nat):((bV R t).map fun i=>(R.getD i (0,0)).2).sum=cR R t:=by
 unfold bV cR;rw[lV R (0,0) (fun r=>r.1==t) (fun r=>r.2)]
theorem jW{R:Rm}{t i:Nat}(h:i∈bV R t):i<R.length:=List.mem_range.mp (List.mem_filter.mp h).1
theorem qG(R:Rm)(t:Nat):(bV R t).length≤R.length:=by
 unfold bV;refine Nat.le_trans (List.length_filter_le _ _) ?_;rw[List.length_range];exact Nat.le_refl _
def aT(R:Rm)(i:Nat):Nat:=cR (R.take i) (R.getD i (0,0)).1
def bG(R:Rm)(rs:aY)(n:Nat):bJ:=(bV R n).map fun i=>(Sum.inl (aT R i:Int),V.ref (rs.getD i 0))
structure HA where
 f:Addr
 pa:Addr
 ta:Addr
 fa:Addr
 la:Addr
 own:aY
def A0(kv:bJ):Prop:=∀p∈kv,∃(n:Nat) (b:Addr),p=(.inl (n:Int),.ref b)∧bz kv (.inl (n:Int))=some (.ref b)
theorem IU{kv:bJ}(h:A0 kv){t:Nat}{b:Addr}(hv:bz kv (.inl (t:Int))=none):A0 (v4 kv (.inl (t:Int)) (.ref b)):=by
 intro p hp;rw[tF _ hv] at hp;rcases List.mem_append.mp hp with hp|hp
 ·obtain⟨n,c,e1,e2⟩:=h p hp;refine⟨n,c,e1,?_⟩;rw[fL,if_neg (fun q=> ?_)]
  ·exact e2
  ·rw[q,hv] at e2;cases e2
 ·have hp:p=(.inl (t:Int),.ref b):=by simpa using hp
  exact⟨t,b,hp,by rw[fL,if_pos rfl]⟩
structure aF(C:Addr)(H:Hp)(a:HA)(ps ts:aO)(L pk:Nat)(R:Rm)(N:Nat)(rs:aY)(cs:dM):Prop where
 ob:∃dx,H a.f=some (.ins C dx (du a.pa a.ta ⟨.int L,.ref a.fa,.ref a.la,.int pk⟩))
 pl:H a.pa=some (.lst (ps.map oV))
 tl:H a.ta=some (.lst (ts.map oV))
 ne:a.pa≠a.ta
 fl:∃kv,H a.fa=some (.dK kv)∧(kv.length≤N∧A0 kv)∧(∀n:Nat,(bz kv (.inl (n:Int))=none∧bV R n=[])∨∃b,bz kv (.inl (n:Int))=some (.ref b)∧b∈a.own∧b≠a.fa∧b≠a.la∧H b=some (.dK (bG R rs n)))∧∀(n n' :Nat) (b:Addr),bz kv (.inl (n:Int))=some (.ref b)→bz kv (.inl (n' :Int))=some (.ref b)→n=n'
 ln:∃kv,H a.la=some (.dK kv)∧kv.length≤N∧∀n:Nat,(bz kv (.inl (n:Int))).getD (.int 0)= .int (cR R n)
 IB:a.fa≠a.la
 rl:rs.length=R.length
 rm:∀(i:Nat) (b:Addr),rs[i]? =some b→b∈a.own∧b≠a.pa∧b≠a.ta∧∃vs,cs[i]? =some vs∧H b=some (.lst vs)
 rn:rs.Nodup
 sW:a.f∈a.own∧a.pa∈a.own∧a.ta∈a.own∧a.fa∈a.own∧a.la∈a.own
 al:∀c∈a.own,∃o,H c=some o
section
variable{C:Addr}{H H' :Hp}{a:HA}{ps ts A8 zL :aO}{L pk:Nat}{R:Rm}{N:Nat}{rs:aY}{cs:dM}
theorem aF.fr(h:aF C H a ps ts L pk R N rs cs):ke C H a.f a.pa a.ta ps ts:=⟨h.ob.imp fun _ e=>⟨_,e⟩,h.pl,h.tl,h.ne⟩
theorem aF.kept(h:aF C H a ps ts L pk R N rs cs)(k:∀c o,c∈a.own→H c=some o→H' c=some o):aF C H' a ps ts L pk R N rs cs:=by
 obtain⟨⟨dx,ob⟩,pl,tl,ne,⟨kv,f1,f2,f3,f4⟩,⟨kw,l1,l2,l3⟩,IB,rl,rm,rn,⟨o1,o2,o3,o4,o5⟩,al⟩:=h;refine⟨⟨dx,k _ _ o1 ob⟩,k _ _ o2 pl,k _ _ o3 tl,ne,⟨kv,k _ _ o4 f1,f2,fun n=> ?_,f4⟩,⟨kw,k _ _ o5 l1,l2,l3⟩,IB,rl,fun i b e=> ?_,rn,⟨o1,o2,o3,o4,o5⟩,fun c hc=>(al c hc).imp fun o e=>k c o hc e⟩
 ·rcases f3 n with h|⟨b,e1,e2,e3,e4,e5⟩
  ·exact .inl h
  ·exact .inr ⟨b,e1,e2,e3,e4,k _ _ e2 e5⟩
 ·obtain⟨e1,e2,e3,vs,e4,e5⟩:=rm i b e;exact⟨e1,e2,e3,vs,e4,k _ _ e1 e5⟩
theorem aF.same(h:aF C H a ps ts L pk R N rs cs)(s:au H H'):aF C H' a ps ts L pk R N rs cs:=h.kept fun c o _ e=>s c o e
theorem aF.frames(h:aF C H a ps ts L pk R N rs cs)(F:ke C H' a.f a.pa a.ta A8 zL)(k:jC a.pa a.ta H H'):aF C H' a A8 zL L pk R N rs cs:=by
 obtain⟨⟨dx,ob⟩,pl,tl,ne,⟨kv,f1,f2,f3,f4⟩,⟨kw,l1,l2,l3⟩,IB,rl,rm,rn,o,al⟩:=h;have dif:∀{c:Addr} {kv:bJ},H c=some (.dK kv)→H' c=some (.dK kv):=fun e=>k _ _ (aK e pl (by intro z;cases z)) (aK e tl (by intro z;cases z)) e;refine⟨⟨dx,k _ _ (aK ob pl (by intro z;cases z)) (aK ob tl (by intro z;cases z)) ob⟩,F.pl,F.tl,ne,⟨kv,dif f1,f2,fun n=> ?_,f4⟩,⟨kw,dif l1,l2,l3⟩,IB,rl,fun i b e=> ?_,rn,o,fun c hc=> ?_⟩
 ·rcases f3 n with h|⟨b,e1,e2,e3,e4,e5⟩
  ·exact .inl h
  ·exact .inr ⟨b,e1,e2,e3,e4,dif e5⟩
 ·obtain⟨e1,e2,e3,vs,e4,e5⟩:=rm i b e;exact⟨e1,e2,e3,vs,e4,k _ _ e2 e3 e5⟩
 ·by_cases z1:c=a.pa
  ·exact⟨_,z1▸F.pl⟩
  ·by_cases z2:c=a.ta
   ·exact⟨_,z2▸F.tl⟩
   ·exact(al c hc).imp fun o e=>k c o z1 z2 e
end
structure Good(ps ts:aO)(L pk:Nat)(R:Rm):Prop where
 W:WF ps ts
 g:ts[0]? =some none
 rw:∀r∈R,1≤r.2∧r.2≤6∧r.1<ps.length
 lo:1≤L
 hi:L≤1000
 use:bg ts R≤L
 pk:pk≤1000
theorem Good.ts{ps ts:aO}{L pk:Nat}{R:Rm}(G:Good ps ts L pk R):ts.length≤101:=by
 have:=G.W.le;have:=G.W.len
 lia
theorem iy(ts:aO):(aQ ts).length≤ts.length:=by
 unfold aQ;refine Nat.le_trans (List.length_filter_le _ _) ?_;rw[List.length_range];exact Nat.le_refl _
section
variable{P:Program}{w:World}{K:Frag}{mg:Str→aH}{base:Heap}{A:pH}
def UY(C:Addr):Sp:=fun vs H Q _=>∃a ps ts L pk R N rs cs,vs=[.ref a.f]∧aF C H a ps ts L pk R N rs cs∧(∀r∈R,r.2≤6)∧R.length≤2000∧ts.length≤101∧∀H',au H H'→Q (.int (bg ts R)) H'
theorem mq(T:Txt K mg A):aV P w K mg base eI 2 A.nX A.nU ["self"] (UY A.aj):=by
 have cf:=eF (P:=P) (w:=w) (base:=base) T;refine T.BF.ok zg (fun vs H Q E h=> ?_) (fun cF Ar outer s H vs Q E hr h=> ?_)
 ·obtain⟨a,ps,ts,L,pk,R,N,rs,cs,rfl,_⟩:=h;rfl
 ·obtain⟨a,ps,ts,L,pk,R,N,rs,cs,rfl,F,h6,hR,hT,k⟩:=h;obtain⟨dx,ho⟩:=F.ob;have hu:=dS hr;refine⟨_,(aq (aG (aE (xV rfl) (by rfl) T.CP Boot.«sum» (aa (dA (N:=["number","self"]) (k:=1) (js:=[0]) rfl (bP (by kernel_rfl)) (cx (b_ (pv 0) T.ar T.fc cf hr T.e7 .nil aw)) (fun _ _ _ _ _=>⟨(bc (i:=0) (show(["number","self"]:aX).Nodup by decide+kernel) rfl (Or.inl rfl) (Or.inr rfl)),za,(pZ hu (NZ (K:=K) rfl (pv 1) rfl) (pv 0) ax ⟨rfl,rfl,rfl,rfl⟩)⟩)) ah)))),?_⟩;refine⟨_,rfl,a.f,dx,_,rfl,ho,aC (by decide+kernel),a.f,a.pa,a.ta,ps,ts,rfl,F.fr,by lia,fun sl H1 Tc s1 HZ=> ?_⟩;refine⟨sl,rfl,⟨_,bA.of HZ⟩,?_⟩;have F1:=F.same s1
  have hle:((aQ ts).map nV).length≤101:=by
   rw[List.length_map];exact Nat.le_trans (iy ts) hT
  refine zY (fun _=>true) (fun v=>match v with| .int i=> .int (cR R i.toNat)|_=> .bH) (dg (bA.of HZ)) (Nat.le_trans hle (by decide)) ?_ fun p hp=> ?_
  ·intro i x H' C1 C0 hx sm c1 c0;rw[List.getElem?_map] at hx
   cases en:(aQ ts)[i]? with
   |none=>rw[en] at hx;cases hx
   |some n=>
    rw[en] at hx;cases hx;have F' :=F1.same sm;obtain⟨DH,Bf⟩:=F'.ob;obtain⟨kv,l1,l2,l3⟩:=F'.ln;refine⟨(gw.refl _).own (by decide),kj (B:=C0 H') ⟨_,rfl,a.f,A.aj,DH,_,_,rfl,Bf,T.ar,T.di,Bj _ _ _,a.la,rfl,.inl ⟨_,.inl l1⟩,_,rfl,_,ff.k (k:= .inl (n:Int)) l1,?_⟩⟩;have e:=l3 n;have c:=c1 rfl;show C1 ((bz kv (.inl (n:Int))).getD (V.int 0)) H';rw[e];exact c
  ·have el:(((aQ ts).map nV).filter fun _=>true).map (fun v=>match v with| .int i=>V.int (cR R i.toNat)|_=> .bH)=((aQ ts).map fun n=>((cR R n:Nat):Int)).map V.int:=by
    rw[List.filter_eq_self.mpr (fun _ _=>rfl),List.map_map,List.map_map];rfl
   rw[el];refine⟨p,_,rfl,ae,?_,?_,?_⟩
   ·rw[List.length_map];exact Nat.le_trans (iy ts) (by lia)
   ·intro n hn;obtain⟨m,_,rfl⟩:=List.mem_map.mp hn;have:=Ga h6 m
    lia
   ·rw[Md];have:=k _ (s1.trans (au.upd (o:= .lst (((aQ ts).map fun n=>((cR R n:Nat):Int)).map V.int)) hp));rw[←Gp] at this;exact this
def U6(C:Addr):Sp:=fun vs H Q _=>∃a ps ts L pk R N rs cs,vs=[.ref a.f]∧aF C H a ps ts L pk R N rs cs∧(∀r∈R,r.2≤6)∧R.length≤2000∧ts.length≤101∧∀H',au H H'→Q (.int ((L:Int) - (bg ts R:Nat))) H'
theorem q_(T:Txt K mg A):aV P w K mg base eI 3 A.nR A.nS ["self"] (U6 A.aj):=by
 have g9:=mq (P:=P) (w:=w) (base:=base) T;refine T.BD.ok yH (fun vs H Q E h=> ?_) (fun cF Ar outer s H vs Q E hr h=> ?_)
 ·obtain⟨a,ps,ts,L,pk,R,N,rs,cs,rfl,_⟩:=h;rfl
 ·obtain⟨a,ps,ts,L,pk,R,N,rs,cs,rfl,F,h6,hR,hT,k⟩:=h;obtain⟨dx,ho⟩:=F.ob;refine⟨_,(aq (aG (bF j6 (b8 (pv 0) rfl) (b_ (pv 0) T.ar T.oi g9 hr T.oW .nil aw)))),?_⟩;exact⟨_,rfl,a.f,A.aj,dx,_,_,rfl,ho,T.ar,T.gj,Bk _ _ _,_,rfl,a.f,dx,_,rfl,ho,aC (by decide+kernel),a,ps,ts,L,pk,R,N,rs,cs,rfl,F,h6,hR,hT,fun H' s1=>⟨_,_,rfl,rfl,k H' s1⟩⟩
end
theorem w6(f:Str)(v w:V):∀fs:iM,cq f v (cq f w fs)=cq f v fs
 |[]=>by
  show(if f=f then(f,v)::[] else _)=_;rw[if_pos rfl];rfl
 |(g,x)::r=>by
  show cq f v (if g=f then(g,w)::r else(g,x)::cq f w r)=if g=f then(g,v)::r else(g,x)::cq f v r
  by_cases h:g=f
  ·rw[if_pos h,if_pos h];show(if g=f then(g,v)::r else _)=_;rw[if_pos h]
  ·rw[if_neg h,if_neg h];show(if g=f then _ else(g,x)::cq f v (cq f w r))=_;rw[if_neg h,w6 f v w r]
theorem zJ(pa ta:Addr)(z:HX)(v:V):cq "peak" v (du pa ta z)=du pa ta {z with pk:=v}:=w6 _ _ _ _
theorem Ag(pa ta:Addr):(lL pa ta).length≤2:=Nat.le_trans (cy _ _ _) (Nat.succ_le_succ (cy _ _ _))
theorem qo(pa ta:Addr)(z:HX):(du pa ta z).length≤6:=Nat.le_trans (cy _ _ _) (Nat.succ_le_succ (Nat.le_trans (cy _ _ _) (Nat.succ_le_succ (Nat.le_trans (cy _ _ _) (Nat.succ_le_succ (Nat.le_trans (cy _ _ _) (Nat.succ_le_succ (Ag pa ta))))))))
section
variable{P:Program}{w:World}{K:Frag}{mg:Str→aH}{base:Heap}{A:pH}
def Po(C:Addr):Sp:=fun vs H Q _=>∃(p dx:Addr) (L:Nat),vs=[.ref p,.int L]∧H p=some (.ins C dx [])∧1≤L∧L≤1000∧
 ∀a H',a.f=p→(∀c∈a.own,c=p∨H c=none)→aF C H' a [none] [none] L 0 [] 0 [] []→(∀b o,H b=some o→b≠p→H' b=some o)→Q .bH H'
theorem lD(T:Txt K mg A):aV P w K mg base eI 3 A.iU A.iR ["self","limit"] (Po A.aj):=by
 have ez:=jm (P:=P) (w:=w) (base:=base) T;have t_:=(rS (P:=P) (w:=w) (base:=base) T).mono (by decide:_≤2);refine T.u3.ok tK (fun vs H Q E h=> ?_) (fun cF Ar outer s H vs Q E hr h=> ?_)
 ·obtain⟨p,dx,L,rfl,_⟩:=h;rfl
 ·obtain⟨p,dx,L,rfl,hp,h1,h2,k⟩:=h;obtain⟨u1,sP⟩:=T.nz;refine⟨_,(ak (cg (fH (eY (ay ez hr rfl T.kM T.iV.kp T.ly .nil aw (aa (pv 1) (aa ax (aa (n9 rfl sP.2 sP.1) ah)))))) (aq eT) bp) (ak (aZ (qx T.uf rfl T.DM t_ hr T.sS .nil aw (aa (pv 0) ah))) (ak (kB (pv 0) (pv 1) rfl) (ak (kB (pv 0) mT rfl) (ak (kB (pv 0) mT rfl) (aq (kB (pv 0) ax rfl))))))),?_⟩;refine⟨_,rfl,(L:Int),1,1000,rfl,_,rfl,?_⟩;rw[decide_eq_true (show(1:Int)≤(L:Int) by lia),decide_eq_true (show(L:Int)≤1000 by lia)];refine g8 ⟨_,rfl,p,dx,rfl,hp,fun pa ta H1 hpa hta e1 e2 e3 ZZ kp=> ?_⟩;have np1:pa≠p:=aK e2 e1 (by intro z;cases z);have nt1:ta≠p:=aK e3 e1 (by intro z;cases z);have avB:=Ag pa ta;refine⟨_,rfl,_,rfl,p,A.aj,dx,_,rfl,e1,T.ar,T.gj,by lia,fun fa Vt=> ?_⟩;have nf:fa≠p:=(ag ae Vt).symm;have O9:H1 fa=none:=by rw[af nf] at Vt;exact Vt
  have npf:pa≠fa:=ag e2 O9;have ntf:ta≠fa:=ag e3 O9;have awJ:=cy "bound" (.int L) (lL pa ta);refine⟨_,rfl,p,A.aj,dx,_,rfl,(by rw[af nf.symm,ae]),T.ar,T.cE,by lia,fun la TC=> ?_⟩;have nl:la≠p:=(ag ae TC).symm;have Wb:upd (upd H1 p (.ins A.aj dx (cq "bound" (.int L) (lL pa ta)))) fa (.dK []) la=none:=by rw[af nl] at TC;exact TC
  have WU:la≠fa:=(ag ae Wb).symm;have Oe:H1 la=none:=by rw[af WU,af nl] at Wb;exact Wb
  have npl:pa≠la:=ag e2 Oe;have ntl:ta≠la:=ag e3 Oe;have YJ:=cy "floors" (.ref fa) (cq "bound" (.int L) (lL pa ta));refine⟨_,rfl,p,A.aj,dx,_,rfl,(by rw[af nl.symm,ae]),T.ar,T.di,by lia,?_⟩;have Zm:=cy "lengths" (.ref la) (cq "floors" (.ref fa) (cq "bound" (.int L) (lL pa ta)));refine⟨_,rfl,p,A.aj,dx,_,rfl,ae,T.ar,T.fO,by lia,?_⟩
  have old:∀c,H1 c=none→c=p∨H c=none:=fun c e=>by
   by_cases z:c=p
   ·exact .inl z
   ·refine .inr ?_
    cases q:H c with
    |none=>rfl
    |some o=>rw[kp c o q z] at e;cases e
  generalize FW:upd (upd (upd (upd (upd (upd H1 p (.ins A.aj dx (cq "bound" (.int L) (lL pa ta)))) fa (.dK [])) p (.ins A.aj dx (cq "floors" (.ref fa) (cq "bound" (.int L) (lL pa ta))))) la (.dK [])) p (.ins A.aj dx (cq "lengths" (.ref la) (cq "floors" (.ref fa) (cq "bound" (.int L) (lL pa ta)))))) p (.ins A.aj dx (cq "peak" (.int 0) (cq "lengths" (.ref la) (cq "floors" (.ref fa) (cq "bound" (.int L) (lL pa ta))))))=H6
  have q1:H6 p=some (.ins A.aj dx (du pa ta ⟨.int L,.ref fa,.ref la,.int (0:Nat)⟩)):=by
   rw[←FW];exact ae
  have q2:H6 pa=some (.lst [.bH]):=by
   rw[←FW,af np1,af np1,af npl,af np1,af npf,af np1];exact e2
  have q3:H6 ta=some (.lst [.bH]):=by
   rw[←FW,af nt1,af nt1,af ntl,af nt1,af ntf,af nt1];exact e3
  have q4:H6 fa=some (.dK []):=by
   rw[←FW,af nf,af nf,af WU.symm,af nf,ae]
  have q5:H6 la=some (.dK []):=by
   rw[←FW,af nl,af nl,ae]
  refine k ⟨p,pa,ta,fa,la,[p,pa,ta,fa,la]⟩ _ rfl ?_ ⟨⟨dx,q1⟩,q2,q3,ZZ,⟨[],q4,⟨Nat.le_refl _,fun _ z=>nomatch z⟩,fun n=> .inl ⟨rfl,rfl⟩,(fun n n' b e=>by cases e)⟩,⟨[],q5,Nat.le_refl _,fun n=>rfl⟩,WU.symm,rfl,(fun i b e=>by cases e),.nil,(by simp),fun c hc=> ?_⟩ fun b o e hb=> ?_
  ·intro c hc;simp only[List.mem_cons,List.not_mem_nil,or_false] at hc;rcases hc with rfl|rfl|rfl|rfl|rfl
   ·exact .inl rfl
   ·exact .inr hpa
   ·exact .inr hta
   ·exact old _ O9
   ·exact old _ Oe
  ·simp only[List.mem_cons,List.not_mem_nil,or_false] at hc;rcases hc with rfl|rfl|rfl|rfl|rfl
   ·exact⟨_,q1⟩
   ·exact⟨_,q2⟩
   ·exact⟨_,q3⟩
   ·exact⟨_,q4⟩
   ·exact⟨_,q5⟩
  ·have b1:=kp b o e hb;rw[←FW,af hb,af hb,af (ag b1 Oe),af hb,af (ag b1 O9),af hb];exact b1
end
theorem Fw(n:Nat):(List.replicate n [V.bH]).flatten=List.replicate n .bH:=by
 induction n with
 |zero=>rfl
 |succ n ih=>
  rw[List.replicate_succ,List.flatten_cons,ih];rfl
theorem jaf{R:Rm}{x:Nat×Nat}{i:Nat}(h:i<R.length):(R++[x]).take i=R.take i:=by
 rw[List.take_append_of_le_length (by lia)]
theorem zP{R:Rm}{i:Nat}{r:Nat×Nat}(h:R[i]? =some r)(h1:1≤r.2):cR (R.take i) r.1<cR R r.1:=by
 have hi:=(List.getElem?_eq_some_iff.mp h).1
 have e:R=R.take i++(r::R.drop (i+1)):=by
  have:=(List.getElem?_eq_some_iff.mp h).2;rw[←this,List.getElem_cons_drop,List.take_append_drop]
 have:cR R r.1=cR (R.take i) r.1+cR (r::R.drop (i+1)) r.1:=by
  conv=>lhs;rw[e]
  unfold cR;rw[List.filter_append,List.map_append,List.sum_append]
 rw[this,uz];simp
 lia
theorem iI{α:Type}{R:List α}{x d:α}{i:Nat}(h:i<R.length):(R++[x]).getD i d=R.getD i d:=by
 rw[List.getD_eq_getElem?_getD,List.getD_eq_getElem?_getD,List.getElem?_append_left h]
theorem wP{α:Type}(R:List α)(x d:α):(R++[x]).getD R.length d=x:=by
 rw[List.getD_eq_getElem?_getD,List.getElem?_append_right (Nat.le_refl _),Nat.sub_self];rfl
theorem dv{α:Type}{R:List α}{i:Nat}(d:α)(h:i<R.length):R[i]? =some (R.getD i d):=by simp[List.getD_eq_getElem?_getD,h]
theorem wN(R:Rm)(t k n:Nat):bV (R++[(t,k)]) n=if t=n then bV R n++[R.length] else bV R n:=by
 unfold bV;rw[List.length_append,List.length_singleton,List.range_succ,List.filter_append]
 have e1:((List.range R.length).filter fun i=>((R++[(t,k)]).getD i (0,0)).1==n)=(List.range R.length).filter fun i=>(R.getD i (0,0)).1==n:=
  List.filter_congr fun i hi=>by rw[iI (List.mem_range.mp hi)]
 rw[e1];by_cases h:t=n
 ·rw[if_pos h,List.filter_cons_of_pos (by rw[wP];simpa using h)];rfl
 ·rw[if_neg h,List.filter_cons_of_neg (by rw[wP];simpa using h)];exact List.append_nil _
theorem nO{R:Rm}{t i:Nat}(h:i∈bV R t):(R.getD i (0,0)).1=t:=by simpa using(List.mem_filter.mp h).2
theorem ja{R:Rm}{x:Nat×Nat}{i:Nat}(h:i<R.length):aT (R++[x]) i=aT R i:=by
 unfold aT;rw[jaf h,iI h]
theorem lU(R:Rm)(t k:Nat):aT (R++[(t,k)]) R.length=cR R t:=by
 unfold aT;rw[List.take_left,wP]
theorem JY{R:Rm}{rs:aY}(hl:rs.length=R.length){t k n:Nat}{b:Addr}(h:t≠n):bG (R++[(t,k)]) (rs++[b]) n=bG R rs n:=by
 unfold bG;rw[wN,if_neg h];refine List.map_congr_left fun i hi=> ?_;have:=jW hi;rw[ja this,iI (by lia)]
theorem Mb{R:Rm}{rs:aY}(hl:rs.length=R.length)(t k:Nat)(b:Addr):bG (R++[(t,k)]) (rs++[b]) t=bG R rs t++[(.inl (cR R t:Int),.ref b)]:=by
 unfold bG;rw[wN,if_pos rfl,List.map_append,List.map_singleton,lU,←hl,wP]
 congr 1
 refine List.map_congr_left fun i hi=> ?_;have:=jW hi;rw[ja this,iI (by lia)]
theorem jab{R:Rm}(hr:∀r∈R,1≤r.2){t i:Nat}(h:i∈bV R t):aT R i<cR R t:=by
 have hi:=jW h;have e:=dv (0,0) hi;have:=zP e (hr _ (List.mem_of_getElem? e));rw[nO h] at this;unfold aT;rw[nO h];exact this
theorem mL{R:Rm}(hr:∀r∈R,1≤r.2){t i j:Nat}(h:i∈bV R t)(h' :j∈bV R t)(e:aT R i=aT R j):i=j:=by
 have key:∀{i j:Nat},i∈bV R t→j∈bV R t→i<j→aT R i<aT R j:=fun{i j} h h' eO=>by
  have hi:=jW h;have hj:=jW h';have e1:=dv (0,0) hi
  have e2:(R.take j)[i]? =some (R.getD i (0,0)):=by
   rw[List.getElem?_take_of_lt eO];exact e1
  have:=zP e2 (hr _ (List.mem_of_getElem? e1));rw[List.take_take,Nat.min_eq_left (Nat.le_of_lt eO),nO h] at this;unfold aT;rw[nO h,nO h'];exact this
 rcases Nat.lt_trichotomy i j with z|z|z
 ·have:=key h h' z
  lia
 ·exact z
 ·have:=key h' h z
  lia
theorem HL{l:bJ}{k:wp}(h:∀p∈l,¬p.1=k):bz l k=none:=by
 induction l with
 |nil=>rfl
 |cons p l ih=>
  rw[br (h p List.mem_cons_self)];exact ih fun q hq=>h q (List.mem_cons_of_mem _ hq)
theorem Aq(k:Nat→wp)(v:Nat→V){j:Nat}:∀{l:List Nat},j∈l→(∀i∈l,k i=k j→i=j)→bz (l.map fun i=>(k i,v i)) (k j)=some (v j)
 |i::l,h,inj=>by
  rw[List.map_cons];by_cases z:k i=k j
  ·rw[b9 z,inj i List.mem_cons_self z]
  ·rw[br z];rcases List.mem_cons.mp h with h|h
   ·exact absurd (by rw[h]) z
   ·exact Aq k v h fun i hi=>inj i (List.mem_cons_of_mem _ hi)
theorem HC{R:Rm}(hr:∀r∈R,1≤r.2)(rs:aY)(t:Nat):bz (bG R rs t) (.inl (cR R t:Int))=none:=by
 refine HL fun p hp z=> ?_;obtain⟨i,hi,rfl⟩:=List.mem_map.mp hp;injection z with z;have:=jab hr hi
 lia
theorem HU{R:Rm}(hr:∀r∈R,1≤r.2)(rs:aY){t i:Nat}(h:i∈bV R t):bz (bG R rs t) (.inl (aT R i:Int))=some (.ref (rs.getD i 0)):=
 Aq (fun i=>Sum.inl (aT R i:Int)) (fun i=>V.ref (rs.getD i 0)) h fun j hj z=>by
  injection z with z;exact mL hr hj h (by lia)
theorem Ab(R:Rm)(rs:aY)(t:Nat):(bG R rs t).length≤R.length:=by
 unfold bG;rw[List.length_map];exact qG R t
theorem bX{n:Nat}(h:n≤100000):n<sizeLine:=Nat.lt_of_le_of_lt h (by decide)
def oz(t p:Nat):az:=[nV t,nV p]
def XO(C:Addr):TS:=fun D σ H=>∃(a:HA) (ps ts:aO) (L pk:Nat) (R:Rm) (N:Nat) (rs:aY) (cs:dM) (t n:Nat) (x3:Option V) (b:Addr) (kv:bJ),σ=[some (.ref a.f),some (.int t),some (.int n),x3,some (.int (cR R t)),some (.ref b)]∧aF C H a ps ts L pk R N rs cs∧cs.length=R.length∧Good ps ts L pk R∧ts[t]? =some none∧1≤n∧n≤6∧R.length≤1000∧N≤10000∧bg ts R+n≤L∧
 H a.fa=some (.dK kv)∧bz kv (.inl (t:Int))=some (.ref b)∧
 ∀r H' l,H r=none→aF C H' {a with own:=r::a.own} ps ts L (max pk (bg ts R+n)) (R++[(t,n)]) (N+1) (rs++[r]) (cs++[List.replicate n .bH])→(∀c o,¬c∈a.own→H c=some o→H' c=some o)→(∀c xs,H c=some (.tup xs)→H' c=some (.tup xs))→H l=none→H' l=some (.tup (oz t (cR R t)))→D.rt (.ref l) H'
section
variable{P:Program}{w:World}{K:Frag}{mg:Str→aH}{base:Heap}{A:pH}
def UQ(C:Addr):Sp:=fun vs H Q _=>∃(a:HA) (ps ts:aO) (L pk:Nat) (R:Rm) (N:Nat) (rs:aY) (cs:dM) (t n:Nat),vs=[.ref a.f,.int t,.int n]∧aF C H a ps ts L pk R N rs cs∧cs.length=R.length∧Good ps ts L pk R∧ts[t]? =some none∧1≤n∧n≤6∧R.length≤1000∧N≤9000∧bg ts R+n≤L∧
 ∀Ei r H' l,aF C H' {a with own:=Ei} ps ts L (max pk (bg ts R+n)) (R++[(t,n)]) (N+2) (rs++[r]) (cs++[List.replicate n .bH])→(∀c∈a.own,c∈Ei)→(∀c∈Ei,c∈a.own∨H c=none)→(∀c o,¬c∈a.own→H c=some o→H' c=some o)→(∀c xs,H c=some (.tup xs)→H' c=some (.tup xs))→H l=none→H' l=some (.tup (oz t (cR R t)))→Q (.ref l) H'
theorem rC(T:Txt K mg A):aV P w K mg base eI 6 A.oh A.nG ["self","frame","size"] (UQ A.aj):=by
 have bD:=cG (P:=P) (w:=w) (base:=base) T;have ez:=(jm (P:=P) (w:=w) (base:=base) T).mono (by decide:_≤5);have oE:=(q_ (P:=P) (w:=w) (base:=base) T).mono (by decide:_≤5);have g9:=(mq (P:=P) (w:=w) (base:=base) T).mono (by decide:_≤5);refine T.BC.ok i_ (fun vs H Q E h=> ?_) (fun cF Ar outer s H vs Q E hr h=> ?_)
 ·obtain⟨a,ps,ts,L,pk,R,N,rs,cs,t,n,rfl,_⟩:=h;rfl
 ·obtain⟨a,ps,ts,L,pk,R,N,rs,cs,t,n,rfl,F,vB,G,uu,n1,n6,hR,hN,hle,k1⟩:=h;have hu:=dS hr;obtain⟨dx,ho⟩:=F.ob;obtain⟨u1,jd⟩:=T.fF
  have fE:cT ts (t:Int)=true:=by
   unfold cT;rw[decide_eq_true (show(0:Int)≤t by lia),Int.toNat_natCast,uu];rfl
  refine⟨_,(ak (aZ (aR (pv 0) T.ar T.cN bD hr T.cM .nil aw (aa (pv 1) ah))) (ak (cg (fH (eY (ay ez hr rfl T.kM T.iV.kp T.ly .nil aw (aa (pv 2) (aa ax (aa (n9 rfl jd.2 jd.1) ah)))))) (aq eT) bp) (ak (a_ (i:=3) i_.nd rfl (Or.inl rfl) (b_ (pv 0) T.ar T.uc oE hr T.tJ .nil aw)) (ak (cg (ba J9 (pv 2) (pv 3) (bu _)) (aq eT) bp) (ak (a_ (i:=4) i_.nd rfl (Or.inl rfl) (pZ hu (b8 (pv 0) rfl) (pv 1) ax ⟨rfl,rfl,rfl,rfl⟩)) (ak (a_ (i:=5) i_.nd rfl (Or.inl rfl) (Kq (b8 (pv 0) rfl) (pv 1) mT ⟨rfl,rfl,rfl,rfl⟩)) (qA (XO A.aj) (ak (oM hu (pv 5) (pv 4) (bF D5 (bN (aa cW ah)) (pv 2)) rfl) (ak (oM hu (b8 (pv 0) rfl) (pv 1) (bF iS (pv 4) (pv 2)) rfl) (ak (kB (pv 0) (aE (qC rfl) (by rfl) T.zO Boot.«max» (aa (b8 (pv 0) rfl) (aa (b_ (pv 0) T.ar T.oi g9 hr T.oW .nil aw) ah))) rfl) (aq (aG (oR (aa (pv 1) (aa (pv 4) ah)))))))) ?VA))))))),?_⟩
  case VA=>
   rintro D σ H ⟨a,ps,ts,L,pk,R,N,rs,cs,t,n,x3,b,kv,rfl,F,vB,G,uu,n1,n6,hR,hN,hle,Io,NC,k⟩
   have lz:∀r∈R,1≤r.2:=fun r hr=>(G.rw r hr).1;obtain⟨dx,ho⟩:=F.ob;obtain⟨of,op,ot,NB,ola⟩:=F.sW;obtain⟨kv0,f1,f2,f3,f4⟩:=F.fl
   have ekv:kv0=kv:=by
    rw[Io] at f1;injection f1 with f1;injection f1 with f1;exact f1.symm
   subst ekv;obtain⟨kl,Xg,l2',l3'⟩:=F.ln
   have Vv:b∈a.own∧b≠a.fa∧b≠a.la∧H b=some (.dK (bG R rs t)):=by
    rcases f3 t with h|⟨b',e1,e2,e3,e4,e5⟩
    ·rw[h.1] at NC;cases NC
    ·rw[e1] at NC;injection NC with NC;injection NC with NC;subst NC;exact⟨e2,e3,e4,e5⟩
   obtain⟨bo,bf,bl,hb⟩:=Vv;have Dl:=Ab R rs t;refine⟨(show 1≤sizeLine by decide),fun l1 zQ=>⟨_,rfl,l1,(n:Int),_,rfl,rfl,ae,by lia,by lia,?_,fun l2 mW=> ?_⟩⟩
   ·show 1*(n:Int).toNat≤sizeLine;exact Nat.le_of_lt (bX (by lia))
   rw[Int.toNat_natCast,Fw];have s1:=(au.upd (o:= .lst [V.bH]) zQ).trans (au.upd (o:= .lst (List.replicate n .bH)) mW);have hr2:upd (upd H l1 (.lst [V.bH])) l2 (.lst (List.replicate n .bH)) l2=some (.lst (List.replicate n .bH)):=ae;have D9:H l2=none:=(au.upd (o:= .lst [V.bH]) zQ).free mW;generalize hH2:upd (upd H l1 (.lst [V.bH])) l2 (.lst (List.replicate n .bH))=H2 at s1 hr2;refine⟨_,rfl,_,rfl,b,_,rfl,sD.k (k:= .inl (cR R t:Int)) (s1 _ _ hb) (bX (by lia)),?_⟩;have fb:a.f≠b:=aK ho hb (by intro z;cases z);have lb:a.la≠b:=bl.symm;have gb:a.fa≠b:=bf.symm;refine⟨_,rfl,_,rfl,_,_,rfl,rfl,_,rfl,a.f,A.aj,dx,_,_,rfl,(by rw[af fb];exact s1 _ _ ho),T.ar,T.di,Bj _ _ _,_,rfl,a.la,_,rfl,sD.k (k:= .inl (t:Int)) (by rw[af lb];exact s1 _ _ Xg) (bX (by lia)),?_⟩;have fl:a.f≠a.la:=aK ho Xg (by intro z;cases z);have pal:a.pa≠a.la:=aK F.pl Xg (by intro z;cases z);have tal:a.ta≠a.la:=aK F.tl Xg (by intro z;cases z);have pab:a.pa≠b:=aK F.pl hb (by intro z;cases z);have tab:a.ta≠b:=aK F.tl hb (by intro z;cases z);dsimp only;rw[tF (.ref l2) (HC lz rs t),←Mb F.rl t n l2];generalize hv:V.int ((cR R t:Int)+(n:Int))=nv;generalize OH:upd (upd H2 b (.dK (bG (R++[(t,n)]) (rs++[l2]) t))) a.la (.dK (v4 kl (.inl (t:Int)) nv))=H4
   have uw:∀c o,c≠b→c≠a.la→H2 c=some o→H4 c=some o:=fun c o h1 h2 e=>by
    rw[←OH,af h2,af h1];exact e
   have kpl:∀c xs,H2 c=some (.lst xs)→H4 c=some (.lst xs):=fun c xs e=>uw _ _ (aK e (s1 _ _ hb) (by intro z;cases z)) (aK e (s1 _ _ Xg) (by intro z;cases z)) e
   have F4:aF A.aj H4 {a with own:=l2::a.own} ps ts L pk (R++[(t,n)]) (N+1) (rs++[l2]) (cs++[List.replicate n .bH]):=by
    refine⟨⟨dx,uw _ _ fb fl (s1 _ _ ho)⟩,kpl _ _ (s1 _ _ F.pl),kpl _ _ (s1 _ _ F.tl),F.ne,⟨kv0,uw _ _ gb F.IB (s1 _ _ Io),⟨by lia,f2.2⟩,fun m=> ?_,f4⟩,⟨_,(by rw[←OH];exact ae),?_,fun m=> ?_⟩,F.IB,by rw[List.length_append,List.length_append,F.rl];rfl,fun i c e=> ?_,?_,⟨.tail _ of,.tail _ op,.tail _ ot,.tail _ NB,.tail _ ola⟩,fun c hc=> ?_⟩
    ·by_cases z:t=m
     ·subst z;exact .inr ⟨b,NC,.tail _ bo,bf,bl,by rw[←OH,af bl];exact ae⟩
     ·rw[wN,if_neg z,JY F.rl z];rcases f3 m with h|⟨c,e1,e2,e3,e4,e5⟩
      ·exact .inl h
      ·refine .inr ⟨c,e1,.tail _ e2,e3,e4,uw _ _ (fun q=> ?_) e4 (s1 _ _ e5)⟩;subst q;exact z (f4 t m c NC e1)
    ·have:=dI kl (.inl (t:Int)) nv
     lia
    ·rw[fL,G5];by_cases z:m=t
     ·subst z;rw[if_pos rfl];show nv=_;rw[←hv];simp
     ·rw[if_neg (fun q=>z (by injection q with q;lia)),l3' m];have:(t==m)=false:=by simp;lia
      rw[this];rfl
    ·by_cases hi:i<rs.length
     ·rw[List.getElem?_append_left hi] at e;obtain⟨e1,e2,e3,vs,e4,e5⟩:=F.rm i c e;refine⟨.tail _ e1,e2,e3,vs,?_,kpl _ _ (s1 _ _ e5)⟩;rw[List.getElem?_append_left (by rw[vB,←F.rl];exact hi)];exact e4
     ·have yl :=(List.getElem?_eq_some_iff.mp e).1;rw[List.length_append] at yl;have hi:i=rs.length:=by simp at yl;lia
      subst hi;rw[List.getElem?_append_right (Nat.le_refl _),Nat.sub_self] at e;cases e;refine⟨.head _,(ag F.pl D9).symm,(ag F.tl D9).symm,List.replicate n .bH,?_,kpl _ _ hr2⟩;rw[List.getElem?_append_right (by rw[vB,F.rl];exact Nat.le_refl _),vB,F.rl,Nat.sub_self];rfl
    ·refine List.nodup_append.mpr ⟨F.rn,List.nodup_cons.mpr ⟨by simp,.nil⟩,fun x hx y hy=> ?_⟩;simp only[List.mem_singleton] at hy;subst hy;obtain⟨i,hi,rfl⟩:=List.mem_iff_getElem.mp hx;obtain⟨e1,e2,e3,vs,e4,e5⟩:=F.rm i _ (List.getElem?_eq_getElem hi);exact ag e5 D9
    ·rcases List.mem_cons.mp hc with rfl|hc
     ·exact⟨_,kpl _ _ hr2⟩
     ·by_cases z1:c=a.la
      ·exact⟨_,by rw[←OH];exact jE z1⟩
      ·by_cases z2:c=b
       ·exact⟨_,by rw[←OH,af z1];exact jE z2⟩
       ·exact(F.al c hc).imp fun o e=>uw c o z2 z1 (s1 _ _ e)
   have Q6:=uw _ _ fb fl (s1 _ _ ho);refine⟨_,rfl,a.f,A.aj,dx,_,_,rfl,Q6,T.ar,T.fO,Ep _ _ _,_,rfl,a.f,dx,_,rfl,Q6,aC (by decide+kernel),{a with own:=l2::a.own},ps,ts,L,pk,R++[(t,n)],N+1,_,_,rfl,F4,?_,?_,G.ts,fun H5 s5=> ?_⟩
   ·intro r hr;rcases List.mem_append.mp hr with hr|hr
    ·exact(G.rw r hr).2.1
    ·simp only[List.mem_singleton] at hr;subst hr;exact n6
   ·rw[List.length_append];simp
    lia
   have F5:=F4.same s5;obtain⟨Wx,GR⟩:=F5.ob;have GR:H5 a.f=_:=GR;refine⟨_,_,rfl,_,rfl,a.f,A.aj,Wx,_,rfl,GR,T.ar,T.fO,Nat.lt_of_le_of_lt (qo _ _ _) (by decide),?_⟩;rw[zJ,k_ R n uu]
   have em:V.int (if((bg ts R+n:Nat):Int)>(pk:Int) then((bg ts R+n:Nat):Int) else(pk:Int))=V.int ((max pk (bg ts R+n):Nat):Int):=by
    congr 1
    split<;>lia
   dsimp only;rw[em];generalize FW:upd H5 a.f (.ins A.aj Wx (du a.pa a.ta ⟨.int L,.ref a.fa,.ref a.la,.int (max pk (bg ts R+n):Nat)⟩))=H6
   have Fc:∀c o,c≠a.f→H5 c=some o→H6 c=some o:=fun c o h1 e=>by
    rw[←FW,af h1];exact e
   have F6:aF A.aj H6 {a with own:=l2::a.own} ps ts L (max pk (bg ts R+n)) (R++[(t,n)]) (N+1) (rs++[l2]) (cs++[List.replicate n .bH]):=by
    obtain⟨kf5,QR,Ww,VQ,WZ⟩:=F5.fl;obtain⟨kl5,Zt,l25,l35⟩:=F5.ln;refine⟨⟨Wx,by rw[←FW];exact ae⟩,Fc _ _ (aK F5.pl GR (by intro z;cases z)) F5.pl,Fc _ _ (aK F5.tl GR (by intro z;cases z)) F5.tl,F.ne,⟨kf5,Fc _ _ (aK QR GR (by intro z;cases z)) QR,Ww,fun m=> ?_,WZ⟩,⟨kl5,Fc _ _ (aK Zt GR (by intro z;cases z)) Zt,l25,l35⟩,F.IB,F5.rl,fun i c e=> ?_,F5.rn,F5.sW,fun c hc=>(if z:c=a.f then⟨_,by rw[←FW];exact jE z⟩ else(F5.al c hc).imp fun o e=>Fc c o z e)⟩
    ·rcases VQ m with h|⟨c,e1,e2,e3,e4,e5⟩
     ·exact .inl h
     ·exact .inr ⟨c,e1,e2,e3,e4,Fc _ _ (aK e5 GR (by intro z;cases z)) e5⟩
    ·obtain⟨e1,e2,e3,vs,e4,e5⟩:=F5.rm i c e;exact⟨e1,e2,e3,vs,e4,Fc _ _ (aK e5 GR (by intro z;cases z)) e5⟩
   refine⟨_,rfl,_,rfl,(show 2≤sizeLine by decide),fun l hl=> ?_⟩;have s7:=au.upd (o:= .tup [V.int t,V.int (cR R t)]) hl;have kp:∀c o,¬c∈a.own→H c=some o→H6 c=some o:=fun c o hc e=>Fc c o (fun z=>hc (z▸of)) (s5 _ _ (uw c o (fun z=>hc (z▸bo)) (fun z=>hc (z▸ola)) (s1 _ _ e)));refine k l2 _ l D9 (F6.same s7) (fun c o hc e=>s7 _ _ (kp c o hc e)) (fun c xs e=>s7 _ _ (Fc _ _ (aK e ho (by intro z;cases z)) (s5 _ _ (uw c _ (aK e hb (by intro z;cases z)) (aK e Xg (by intro z;cases z)) (s1 _ _ e))))) ?_ ae
   cases q:H l with
   |none=>rfl
   |some o=>
    by_cases hc:l∈a.own
    ·obtain⟨o',e⟩:=F6.al l (.tail _ hc);rw[hl] at e;cases e
    ·have:=kp l o hc q;rw[hl] at this;cases this
  refine⟨_,rfl,a.f,dx,_,rfl,ho,aC (by decide+kernel),_,rfl,a.f,a.pa,a.ta,ps,ts,t,rfl,F.fr,G.W.len,fE,?_⟩;refine⟨_,rfl,(n:Int),1,6,rfl,_,rfl,?_⟩;rw[decide_eq_true (show(1:Int)≤(n:Int) by lia),decide_eq_true (show(n:Int)≤6 by lia)];refine g8 ?_;refine⟨_,rfl,a.f,dx,_,rfl,ho,aC (by decide+kernel),a,ps,ts,L,pk,R,N,rs,cs,rfl,F,fun r hr=>(G.rw r hr).2.1,by lia,G.ts,fun H1 s1=> ?_⟩;have F1:=F.same s1;obtain⟨pG,AO⟩:=F1.ob;refine⟨_,rfl,_,rfl,_,_,rfl,rfl,_,rfl,?_⟩;rw[decide_eq_false (show ¬((L:Int) - ((bg ts R:Nat):Int)<(n:Int)) by lia)];refine g8 ?_;obtain⟨kf,f1,f2,f3,f4⟩:=F1.fl;obtain⟨kl,l1,l2,l3⟩:=F1.ln;obtain⟨of,op,ot,NB,ola⟩:=F1.sW;refine⟨_,rfl,a.f,A.aj,pG,_,_,rfl,AO,T.ar,T.di,Bj _ _ _,a.la,rfl,.inl ⟨_,.inl l1⟩,_,rfl,_,ff.k (k:= .inl (t:Int)) l1,?_⟩;show _;rw[l3 t];refine⟨_,rfl,a.f,A.aj,pG,_,_,rfl,AO,T.ar,T.cE,su _ _ _,a.fa,rfl,.inl ⟨_,.inl f1⟩,_,rfl,fun b hb=> ?_⟩;have s2:=au.upd (o:= .dK []) hb;have F2:=F1.same s2;have bfa:b≠a.fa:=(ag f1 hb).symm;have bla:b≠a.la:=(ag l1 hb).symm;refine⟨kf,.inl (t:Int),s2 _ _ f1,rfl,bX (by lia),fun v hv=> ?_,fun hv=> ?_⟩
  ·have NT :=hv;rcases f3 t with h|⟨c,e1,e2,e3,e4,e5⟩
   ·rw[h.1] at NT;cases NT
   rw[e1] at NT;cases NT;refine⟨a,ps,ts,L,pk,R,N+1,rs,cs,t,n,_,c,kf,rfl,?_,vB,G,uu,n1,n6,hR,by lia,hle,s2 _ _ f1,e1,fun r H' l hr F' kp kt hl e=> ?_⟩
   ·obtain⟨kf2,Wq,Ul,Vy,W_⟩:=F2.fl;obtain⟨kl2,l12,l22,l32⟩:=F2.ln;exact⟨F2.ob,F2.pl,F2.tl,F2.ne,⟨kf2,Wq,⟨by lia,Ul.2⟩,Vy,W_⟩,⟨kl2,l12,by lia,l32⟩,F2.IB,F2.rl,F2.rm,F2.rn,F2.sW,F2.al⟩
   ·refine k1 (r::a.own) r H' l F' (fun c hc=> .tail _ hc) (fun c hc=> ?_) (fun c o hc e=>kp c o hc (s2 _ _ (s1 _ _ e))) (fun c xs e=>kt c xs (s2 _ _ (s1 _ _ e))) (s1.free (s2.free hl)) e;rcases List.mem_cons.mp hc with rfl|hc
    ·exact .inr (s1.free (s2.free hr))
    ·exact .inl hc
  ·have h0:bV R t=[]:=by
    rcases f3 t with h|⟨c,e1,_⟩
    ·exact h.2
    ·rw[e1] at hv;cases hv
   have fb:a.f≠b:=ag AO hb;have ffa:a.f≠a.fa:=aK AO f1 (by intro z;cases z);have pfa:a.pa≠a.fa:=aK F1.pl f1 (by intro z;cases z);have tfa:a.ta≠a.fa:=aK F1.tl f1 (by intro z;cases z);generalize Xm:upd (upd H1 b (.dK [])) a.fa (.dK (v4 kf (.inl (t:Int)) (.ref b)))=H3
   have uv:∀c o,c≠a.fa→H1 c=some o→H3 c=some o:=fun c o h1 e=>by
    rw[←Xm,af h1];exact s2 _ _ e
   have V4:H3 b=some (.dK []):=by
    rw[←Xm,af bfa];exact ae
   have hf3:H3 a.fa=some (.dK (v4 kf (.inl (t:Int)) (.ref b))):=by
    rw[←Xm];exact ae
   have vb:bz (v4 kf (.inl (t:Int)) (.ref b)) (.inl (t:Int))=some (.ref b):=by
    rw[fL,if_pos rfl]
   have vn:∀m:Nat,m≠t→bz (v4 kf (.inl (t:Int)) (.ref b)) (.inl (m:Int))=bz kf (.inl (m:Int)):=fun m hm=>by
    rw[fL,if_neg (fun q=>hm (by injection q with q;lia))]
   have nob:∀m:Nat,bz kf (.inl (m:Int))≠some (.ref b):=fun m z=>by
    rcases f3 m with h|⟨c,e1,e2,e3,e4,e5⟩
    ·rw[h.1] at z;cases z
    ·rw[e1] at z;cases z;rw[e5] at hb;cases hb
   have F3:aF A.aj H3 {a with own:=b::a.own} ps ts L pk R (N+1) rs cs:=by
    refine⟨⟨pG,uv _ _ ffa AO⟩,uv _ _ pfa F1.pl,uv _ _ tfa F1.tl,F.ne,⟨_,hf3,?_,fun m=> ?_,fun m m' c e e' => ?_⟩,⟨kl,uv _ _ F.IB.symm l1,by lia,l3⟩,F.IB,F.rl,fun i c e=> ?_,F.rn,⟨.tail _ of,.tail _ op,.tail _ ot,.tail _ NB,.tail _ ola⟩,fun c hc=> ?_⟩
    ·have:=dI kf (.inl (t:Int)) (.ref b);exact⟨by lia,IU f2.2 hv⟩
    ·by_cases z:m=t
     ·subst z;refine .inr ⟨b,vb,.head _,bfa,bla,?_⟩;unfold bG;rw[h0];exact V4
     ·rw[vn m z];rcases f3 m with h|⟨c,e1,e2,e3,e4,e5⟩
      ·exact .inl h
      ·exact .inr ⟨c,e1,.tail _ e2,e3,e4,uv _ _ e3 e5⟩
    ·by_cases z:m=t<;>by_cases z' :m' =t
     ·lia
     ·subst z;rw[vb] at e;cases e;rw[vn m' z'] at e';exact absurd e' (nob m')
     ·subst z';rw[vb] at e';cases e';rw[vn m z] at e;exact absurd e (nob m)
     ·rw[vn m z] at e;rw[vn m' z'] at e';exact f4 m m' c e e'
    ·obtain⟨e1,e2,e3,vs,e4,e5⟩:=F1.rm i c e;exact⟨.tail _ e1,e2,e3,vs,e4,uv _ _ (aK e5 f1 (by intro z;cases z)) e5⟩
    ·rcases List.mem_cons.mp hc with rfl|hc
     ·exact⟨_,V4⟩
     ·by_cases z:c=a.fa
      ·exact⟨_,by rw[←Xm];exact jE z⟩
      ·exact(F1.al c hc).imp fun o e=>uv c o z e
   have Cm:∀c,H3 c=none→H1 c=none:=fun c e=>by
    cases q:H1 c with
    |none=>rfl
    |some o=>
     by_cases z:c=a.fa
     ·rw[z,hf3] at e;cases e
     ·rw[uv c o z q] at e;cases e
   refine⟨{a with own:=b::a.own},ps,ts,L,pk,R,N+1,rs,cs,t,n,_,b,_,rfl,F3,vB,G,uu,n1,n6,hR,by lia,hle,hf3,vb,fun r H' l hr F' kp kt hl e=> ?_⟩;refine k1 (r::b::a.own) r H' l F' (fun c hc=> .tail _ (.tail _ hc)) (fun c hc=> ?_) (fun c o hc e=>kp c o (fun z=> ?_) (uv c o (fun z=>hc (z▸NB)) (s1 _ _ e))) (fun c xs e=>kt c xs (uv c _ (aK (s1 _ _ e) f1 (by intro z;cases z)) (s1 _ _ e))) (s1.free (Cm l hl)) e
   ·rcases List.mem_cons.mp hc with rfl|hc
    ·exact .inr (s1.free (Cm _ hr))
    ·rcases List.mem_cons.mp hc with rfl|hc
     ·exact .inr (s1.free hb)
     ·exact .inl hc
   ·rcases List.mem_cons.mp z with rfl|z
    ·have:=s1 _ _ e;rw[hb] at this;cases this
    ·exact hc z
end
theorem z7(S:List Nat):(S.map fun n=>((n:Nat):Int)).sum=((S.sum:Nat):Int):=by
 induction S with
 |nil=>rfl
 |cons a S ih=>
  simp only[List.map_cons,List.sum_cons,ih]
  lia
structure MA where
 d:Addr
 ha:Addr
 tk:Addr
 wl:Addr
 ca:Addr
 own:aY
abbrev jY(t p:Nat):List wp:=[.inl (t:Int),.inl (p:Int)]
def QA(ws:aY)(n:Nat)(v:V):Prop:=v= .bH∨(∃i:Int,v= .int i∧i.natAbs<10 ^ 40)∨∃i,i<n∧v= .ref (ws.getD i 0)
structure Br(R:Rm)(ws:aY)(cs:dM):Prop where
 cl:cs.length=R.length
 cz:∀(i:Nat) (vs:az),cs[i]? =some vs→vs.length=(R.getD i (0,0)).2
 vo:∀(i:Nat) (vs:az),cs[i]? =some vs→∀v∈vs,QA ws R.length v
structure aP(H:Hp)(m:MA)(ps ts:aO)(L top:Nat)(R:Rm)(ws ms:aY)(cs:dM):Prop where
 ob:H m.d=some (.dK (qX m.ha m.tk ⟨.int L,.int top,.ref m.wl,.ref m.ca⟩))
 hl:H m.ha=some (.lst (ps.map oV))
 tl:H m.tk=some (.lst (ts.map oV))
 ne:m.ha≠m.tk
 wl:H m.wl=some (.lst (ws.map V.ref))
 iu:ws.length=R.length
 way:∀i,i<R.length→ws.getD i 0∈m.own∧H (ws.getD i 0)=some (.tup (oz (R.getD i (0,0)).1 (aT R i)))
 ca:∃kv,H m.ca=some (.dT kv)∧kv.length≤R.length∧∀i,i<R.length→bz kv (jY (R.getD i (0,0)).1 (aT R i))=some (.ref (ms.getD i 0))
 wn:m.wl≠m.ha∧m.wl≠m.tk
 ml:ms.length=R.length
 mm:∀(i:Nat) (b:Addr),ms[i]? =some b→b∈m.own∧b≠m.ha∧b≠m.tk∧b≠m.wl∧∃vs,cs[i]? =some vs∧H b=some (.lst vs)
 mn:ms.Nodup
 sW:m.d∈m.own∧m.ha∈m.own∧m.tk∈m.own∧m.wl∈m.own∧m.ca∈m.own
 al:∀c∈m.own,∃o,H c=some o
section
variable{H H' :Hp}{m:MA}{ps ts A8 zL :aO}{L top:Nat}{R:Rm}{ws ms:aY}{cs:dM}
theorem aP.mod(M:aP H m ps ts L top R ws ms cs):fW H m.d m.ha m.tk ps ts:=⟨⟨_,M.ob⟩,M.hl,M.tl,M.ne⟩
theorem aP.kept(M:aP H m ps ts L top R ws ms cs)(k:∀c o,c∈m.own→H c=some o→H' c=some o):aP H' m ps ts L top R ws ms cs:=by
 obtain⟨ob,hl,tl,ne,wl,iu,way,⟨kv,c1,c2,c3⟩,wn,ml,mm,mn,⟨o1,o2,o3,o4,o5⟩,al⟩:=M;refine⟨k _ _ o1 ob,k _ _ o2 hl,k _ _ o3 tl,ne,k _ _ o4 wl,iu,fun i hi=>⟨(way i hi).1,k _ _ (way i hi).1 (way i hi).2⟩,⟨kv,k _ _ o5 c1,c2,c3⟩,wn,ml,fun i b e=> ?_,mn,⟨o1,o2,o3,o4,o5⟩,fun c hc=>(al c hc).imp fun o e=>k c o hc e⟩;obtain⟨e1,e2,e3,e4,vs,e5,e6⟩:=mm i b e;exact⟨e1,e2,e3,e4,vs,e5,k _ _ e1 e6⟩
theorem aP.same(M:aP H m ps ts L top R ws ms cs)(s:au H H'):aP H' m ps ts L top R ws ms cs:=M.kept fun c o _ e=>s c o e
theorem aP.frames(M:aP H m ps ts L top R ws ms cs)(F:fW H' m.d m.ha m.tk A8 zL)(k:jC m.ha m.tk H H'):aP H' m A8 zL L top R ws ms cs:=by
 obtain⟨ob,hl,tl,ne,wl,iu,way,⟨kv,c1,c2,c3⟩,wn,ml,mm,mn,o,al⟩:=M;refine⟨k _ _ (aK ob hl (by intro z;cases z)) (aK ob tl (by intro z;cases z)) ob,F.hl,F.tl,ne,k _ _ wn.1 wn.2 wl,iu,fun i hi=>⟨(way i hi).1,k _ _ (aK (way i hi).2 hl (by intro z;cases z)) (aK (way i hi).2 tl (by intro z;cases z)) (way i hi).2⟩,⟨kv,k _ _ (aK c1 hl (by intro z;cases z)) (aK c1 tl (by intro z;cases z)) c1,c2,c3⟩,wn,ml,fun i b e=> ?_,mn,o,fun c hc=> ?_⟩
 ·obtain⟨e1,e2,e3,e4,vs,e5,e6⟩:=mm i b e;exact⟨e1,e2,e3,e4,vs,e5,k _ _ e2 e3 e6⟩
 ·by_cases z1:c=m.ha
  ·exact⟨_,z1▸F.hl⟩
  ·by_cases z2:c=m.tk
   ·exact⟨_,z2▸F.tl⟩
   ·exact(al c hc).imp fun o e=>k c o z1 z2 e
theorem aP.zh(M:aP H m ps ts L top R ws ms cs):ff H m.d (.str "ways") (some (.ref m.wl)):=by
 have:=ff.k (k:=kW) M.ob;rw[Z_] at this;exact this
theorem aP.D_(M:aP H m ps ts L top R ws ms cs):ff H m.d (.str "cells") (some (.ref m.ca)):=by
 have:=ff.k (k:=kC) M.ob;rw[T_] at this;exact this
theorem aP.XD(M:aP H m ps ts L top R ws ms cs):ff H m.d (.str "top") (some (.int top)):=by
 have:=ff.k (k:=kP) M.ob;rw[abK] at this;exact this
theorem aP.at_(M:aP H m ps ts L top R ws ms cs){i:Nat}(hi:i<R.length):∃b vs,ms[i]? =some b∧cs[i]? =some vs∧H (ws.getD i 0)=some (.tup (oz (R.getD i (0,0)).1 (aT R i)))∧ff H m.ca (.ref (ws.getD i 0)) (some (.ref b))∧H b=some (.lst vs):=by
 obtain⟨kv,c1,c2,c3⟩:=M.ca;have e:=dv 0 (show i<ms.length by rw[M.ml];exact hi);obtain⟨b1,b2,b3,b4,vs,b5,b6⟩:=M.mm i _ e;have g:=ff.t (k:=jY (R.getD i (0,0)).1 (aT R i)) c1 (M.way i hi).2;rw[c3 i hi] at g;exact⟨_,vs,e,b5,(M.way i hi).2,g,b6⟩
end
def iN(ts:aO)(R:Rm):List Nat:=(List.range R.length).filter fun i=>ts[(R.getD i (0,0)).1]? ==some none
theorem Bs{ts:aO}{R:Rm}{i:Nat}(h:i∈iN ts R):i<R.length:=List.mem_range.mp (List.mem_filter.mp h).1
theorem r6{ts:aO}{R:Rm}{i:Nat}(h:i∈iN ts R):ts[(R.getD i (0,0)).1]? =some none:=eq_of_beq (List.mem_filter.mp h).2
theorem Lg(ts:aO)(R:Rm):(iN ts R).length≤R.length:=by
 unfold iN;refine Nat.le_trans (List.length_filter_le _ _) ?_;rw[List.length_range];exact Nat.le_refl _
def wf(ws:aY)(I:List Nat):az:=I.map fun i=>V.ref (ws.getD i 0)
theorem wv{R:Rm}{i:Nat}(hi:i<R.length):R.getD i (0,0)∈R:=List.mem_of_getElem? (dv (0,0) hi)
section
variable{P:Program}{w:World}{K:Frag}{mg:Str→aH}{base:Heap}{A:pH}
def P7:Sp:=fun vs H Q _=>∃m ps ts L top R ws ms cs,∃t:Nat,vs=[.ref m.d,.int t]∧aP H m ps ts L top R ws ms cs∧R.length≤1000∧∀l H',H l=none→au H H'→H' l=some (.lst (wf ws (bV R t)))→Q (.ref l) H'
theorem rB(T:Txt K mg A):aV P w K mg base eI 1 A.nL A.oK ["_law_model","_law_frame"] P7:=by
 refine T.nu.ok yW (fun vs H Q E h=> ?_) (fun cF Ar outer s H vs Q E hr h=> ?_)
 ·obtain⟨m,ps,ts,L,top,R,ws,ms,cs,t,rfl,_⟩:=h;rfl
 ·obtain⟨m,ps,ts,L,top,R,ws,ms,cs,t,rfl,M,hR,k⟩:=h;have hu:=dS hr;refine⟨_,(aq (aG (dA (N:=["_law_way","_law_frame"]) (k:=1) (js:=[1]) rfl (bP (by kernel_rfl)) (cx (aN hu (pv 0) aS (fun _ _=>rfl))) (fun _ _ _ _ _=>⟨(bc (i:=0) (show(["_law_way","_law_frame"]:aX).Nodup by decide+kernel) rfl (Or.inl rfl) (Or.inr rfl)),(Bw (ba xJ (bB (AY (K:=K) rfl) (pv 0) ax (fun _ _=>rfl)) (pv 1) (bu _))),(pv 0)⟩)))),?_⟩;refine⟨_,rfl,m.d,_,rfl,M.zh,m.wl,rfl,⟨_,bA.of M.wl⟩,?_⟩;have wg:(ws.map V.ref).length=R.length:=by rw[List.length_map,M.iu]
  refine eX (fun i=>(R.getD i (0,0)).1==t) (fun i=>V.ref (ws.getD i 0)) (dg (bA.of M.wl)).g ?_ ?_ fun p H' hp sm hl=>k p H' hp sm ?_
  ·rw[wg];exact Nat.le_of_lt (bX (by lia))
  ·intro i x H' C1 C0 hi sm hx c1 c0;rw[wg] at hi;have M' :=M.same sm;have e3:=(M'.way i hi).2;rw[List.getElem?_map,dv 0 (by rw[M.iu];exact hi)] at hx;cases hx;refine⟨(gw.refl _).own (by decide),_,rfl,ws.getD i 0,_,0,_,rfl,rfl,qS.of e3,rfl,_,rfl,rfl,_,rfl,?_⟩
   have eq:decide (nV (R.getD i (0,0)).1=V.int t)=((R.getD i (0,0)).1==t):=by
    by_cases z:(R.getD i (0,0)).1=t
    ·rw[z];simp[nV]
    ·rw[decide_eq_false (fun q=>z (by injection q with q;lia))];simpa using z
   show if decide (nV (R.getD i (0,0)).1=V.int t)=true then _ else _
   rw[eq]
   cases hd:((R.getD i (0,0)).1==t) with
   |true=>exact kj ⟨_,rfl,c1 hd H' (au.refl H')⟩
   |false=>exact g8 (c0 hd H' (au.refl H'))
  ·rw[wg] at hl;exact hl
def Wc:Sp:=fun vs H Q _=>∃m ps ts L top R ws ms cs,vs=[.ref m.d]∧aP H m ps ts L top R ws ms cs∧R.length≤1000∧(∀r∈R,r.1<ts.length)∧∀l H',H l=none→au H H'→H' l=some (.lst (wf ws (iN ts R)))→Q (.ref l) H'
theorem oG(T:Txt K mg A):aV P w K mg base eI 1 A.qi A.qf ["_law_model"] Wc:=by
 refine T.jz.ok A2 (fun vs H Q E h=> ?_) (fun cF Ar outer s H vs Q E hr h=> ?_)
 ·obtain⟨m,ps,ts,L,top,R,ws,ms,cs,rfl,_⟩:=h;rfl
 ·obtain⟨m,ps,ts,L,top,R,ws,ms,cs,rfl,M,hR,G8,k⟩:=h;have hu:=dS hr;refine⟨_,(aq (aG (dA (N:=["_law_way","_law_model"]) (k:=1) (js:=[0]) rfl (bP (by kernel_rfl)) (cx (aN hu (pv 0) aS (fun _ _=>rfl))) (fun _ _ _ _ _=>⟨(bc (i:=0) (show(["_law_way","_law_model"]:aX).Nodup by decide+kernel) rfl (Or.inl rfl) (Or.inr rfl)),(Bw (ba rT (bB (qu (K:=K) rfl) (aN hu (pv 1) aS (fun _ _=>rfl)) (bB (AY (K:=K) rfl) (pv 0) ax (fun _ _=>rfl)) (fun _ _=>rfl)) cW (bu _))),(pv 0)⟩)))),?_⟩;refine⟨_,rfl,m.d,_,rfl,M.zh,m.wl,rfl,⟨_,bA.of M.wl⟩,?_⟩;have wg:(ws.map V.ref).length=R.length:=by rw[List.length_map,M.iu]
  refine eX (fun i=>ts[(R.getD i (0,0)).1]? ==some none) (fun i=>V.ref (ws.getD i 0)) (dg (bA.of M.wl)).g ?_ ?_ fun p H' hp sm hl=>k p H' hp sm ?_
  ·rw[wg];exact Nat.le_of_lt (bX (by lia))
  ·intro i x H' C1 C0 hi sm hx c1 c0;rw[wg] at hi;have M' :=M.same sm;have e3:=(M'.way i hi).2;rw[List.getElem?_map,dv 0 (by rw[M.iu];exact hi)] at hx;cases hx;have eO:=G8 _ (wv hi);have ND:ts[(R.getD i (0,0)).1]? =some ts[(R.getD i (0,0)).1]:=by simp[eO]
   rw[ND] at c1 c0;refine⟨(gw.refl _).own (by decide),_,rfl,m.d,_,rfl,M'.mod.xQ,_,rfl,ws.getD i 0,_,0,_,rfl,rfl,qS.of e3,rfl,m.tk,_,_,_,rfl,rfl,bA.of M'.tl,jS ND,rfl,_,rfl,?_⟩
   cases eo:ts[(R.getD i (0,0)).1] with
   |none=>
    rw[eo] at c1;exact kj ⟨_,rfl,c1 rfl H' (au.refl H')⟩
   |some n=>
    rw[eo] at c0;exact g8 (c0 rfl H' (au.refl H'))
  ·rw[wg] at hl;exact hl
def Py:Sp:=fun vs H Q _=>∃m ps ts L top R ws ms cs,vs=[.ref m.d]∧aP H m ps ts L top R ws ms cs∧(∀(i:Nat) (vs:az),cs[i]? =some vs→vs.length=(R.getD i (0,0)).2)∧R.length≤1100∧(∀r∈R,r.2≤6∧r.1<ts.length)∧∀H',au H H'→Q (.int (bg ts R)) H'
theorem og(T:Txt K mg A):aV P w K mg base eI 1 A.p8 A.p6 ["_law_model"] Py:=by
 refine T.ji.ok By (fun vs H Q E h=> ?_) (fun cF Ar outer s H vs Q E hr h=> ?_)
 ·obtain⟨m,ps,ts,L,top,R,ws,ms,cs,rfl,_⟩:=h;rfl
 ·obtain⟨m,ps,ts,L,top,R,ws,ms,cs,rfl,M,cz,hR,G8,k⟩:=h;have hu:=dS hr;refine⟨_,(aq (aG (aE (xV rfl) (by rfl) T.CP Boot.«sum» (aa (dA (N:=["_law_way","_law_model"]) (k:=1) (js:=[0]) rfl (bP (by kernel_rfl)) (cx (aN hu (pv 0) aS (fun _ _=>rfl))) (fun _ _ _ _ _=>⟨(bc (i:=0) (show(["_law_way","_law_model"]:aX).Nodup by decide+kernel) rfl (Or.inl rfl) (Or.inr rfl)),(Bw (ba rT (bB (qu (K:=K) rfl) (aN hu (pv 1) aS (fun _ _=>rfl)) (bB (AY (K:=K) rfl) (pv 0) ax (fun _ _=>rfl)) (fun _ _=>rfl)) cW (bu _))),(aE (rf (K:=K) rfl) (by rfl) T.ee Boot.«len» (aa (aN hu (aN hu (pv 1) aS (fun _ _=>rfl)) (pv 0) (fun _ _=>rfl)) ah))⟩)) ah)))),?_⟩;refine⟨_,rfl,m.d,_,rfl,M.zh,m.wl,rfl,⟨_,bA.of M.wl⟩,?_⟩;have wg:(ws.map V.ref).length=R.length:=by rw[List.length_map,M.iu]
  refine eX (fun i=>ts[(R.getD i (0,0)).1]? ==some none) (fun i=>V.int ((R.getD i (0,0)).2:Int)) (dg (bA.of M.wl)).g ?_ ?_ fun p H' hp sm hl=> ?_
  ·rw[wg];exact Nat.le_of_lt (bX (by lia))
  ·intro i x H' C1 C0 hi sm hx c1 c0;rw[wg] at hi;have M' :=M.same sm;obtain⟨b,vs,e1,e2,e3,e4,e5⟩:=M'.at_ hi;rw[List.getElem?_map,dv 0 (by rw[M.iu];exact hi)] at hx;cases hx;have er:=wv hi;have eO:=(G8 _ er).2;have ND:ts[(R.getD i (0,0)).1]? =some ts[(R.getD i (0,0)).1]:=by simp[eO]
   rw[ND] at c1 c0;refine⟨(gw.refl _).own (by decide),_,rfl,m.d,_,rfl,M'.mod.xQ,_,rfl,ws.getD i 0,_,0,_,rfl,rfl,qS.of e3,rfl,m.tk,_,_,_,rfl,rfl,bA.of M'.tl,jS ND,rfl,_,rfl,?_⟩
   cases eo:ts[(R.getD i (0,0)).1] with
   |none=>
    rw[eo] at c1;refine kj ⟨_,rfl,m.d,_,rfl,M'.D_,_,rfl,m.ca,_,rfl,e4,b,_,rfl,.inl (bA.of e5),?_⟩;rw[cz i vs e2];exact c1 rfl H' (au.refl H')
   |some n=>
    rw[eo] at c0;exact g8 (c0 rfl H' (au.refl H'))
  ·rw[wg] at hl
   have el:((List.range R.length).filter fun i=>ts[(R.getD i (0,0)).1]? ==some none).map (fun i=>V.int ((R.getD i (0,0)).2:Int))=(((R.filter fun r=>ts[r.1]? ==some none).map (·.2)).map fun n=>((n:Nat):Int)).map V.int:=by
    have:=lV R (0,0) (fun r=>ts[r.1]? ==some none) (fun r=>V.int (r.2:Int));rw[this,List.map_map,List.map_map];rfl
   rw[el] at hl;refine⟨p,_,rfl,hl,?_,?_,?_⟩
   ·rw[List.length_map,List.length_map];exact Nat.le_trans (List.length_filter_le _ _) (by lia)
   ·intro n hn;obtain⟨x,hx,rfl⟩:=List.mem_map.mp hn;obtain⟨r,hr,rfl⟩:=List.mem_map.mp hx;have:=(G8 r (List.mem_filter.mp hr).1).1
    lia
   ·rw[z7];exact k H' sm
end
theorem wB{R:Rm}{x:Nat×Nat}{i:Nat}(h:i<(R++[x]).length):i<R.length∨i=R.length:=by
 rw[List.length_append] at h;simp at h
 lia
section
variable{P:Program}{w:World}{K:Frag}{mg:Str→aH}{base:Heap}{A:pH}
def Oz:Sp:=fun vs H Q _=>∃m ps ts L top R ws ms cs,∃t n:Nat,vs=[.ref m.d,.int t,.int n]∧aP H m ps ts L top R ws ms cs∧Br R ws cs∧R.length≤1000∧(∀r∈R,1≤r.2∧r.2≤6∧r.1<ts.length)∧t<ts.length∧1≤n∧n≤6∧
 ∀Ei wt r l H',aP H' {m with own:=Ei} ps ts L (max top (bg ts (R++[(t,n)]))) (R++[(t,n)]) (ws++[wt]) (ms++[r]) (cs++[List.replicate n .bH])→(∀c∈m.own,c∈Ei)→(∀c∈Ei,c∈m.own∨H c=none)→(∀c o,¬c∈m.own→H c=some o→H' c=some o)→(∀c xs,H c=some (.tup xs)→H' c=some (.tup xs))→H' l=some (.tup (oz t (cR R t)))→Q (.ref l) H'
theorem um(T:Txt K mg A):aV P w K mg base eI 2 A.pX A.qq ["_law_model","_law_frame","_law_size"] Oz:=by
 have oO:=rB (P:=P) (w:=w) (base:=base) T;have gT:=og (P:=P) (w:=w) (base:=base) T;refine T.pP.ok ue (fun vs H Q E h=> ?_) (fun cF Ar outer s H vs Q E hr h=> ?_)
 ·obtain⟨m,ps,ts,L,top,R,ws,ms,cs,t,n,rfl,_⟩:=h;rfl
 ·obtain⟨m,ps,ts,L,top,R,ws,ms,cs,t,n,rfl,M,CS,hR,G8,NF,n1,n6,k⟩:=h;have lz:∀r∈R,1≤r.2:=fun r hr=>(G8 r hr).1;have hu:=dS hr;refine⟨_,(ak (a_ (i:=3) ue.nd rfl (Or.inl rfl) (oR (aa (pv 1) (aa (aE (xV rfl) (by rfl) T.CP Boot.«sum» (aa (dA (N:=["_law_other","_law_model"]) (k:=1) (js:=[0]) rfl (bP (by kernel_rfl)) (cx (ay oO hr rfl T.s_ T.nu.kp T.uj .nil aw (aa (pv 0) (aa (pv 1) ah)))) (fun _ _ _ _ _=>⟨(bc (i:=0) (show(["_law_other","_law_model"]:aX).Nodup by decide+kernel) rfl (Or.inl rfl) (Or.inr rfl)),za,(aE (rf (K:=K) rfl) (by rfl) T.ee Boot.«len» (aa (aN hu (aN hu (pv 1) aS (fun _ _=>rfl)) (pv 0) (fun _ _=>rfl)) ah))⟩)) ah)) ah)))) (ak (aZ (vy plainAttrs_list PySem.F.slot_list_append PySem.F.type_list_append eW (aN hu (pv 0) aS (fun _ _=>rfl)) (aa (pv 3) ah))) (ak (oM hu (aN hu (pv 0) aS (fun _ _=>rfl)) (pv 3) (bF D5 (bN (aa cW ah)) (pv 2)) rfl) (ak (oM hu (pv 0) aS (aE (qC rfl) (by rfl) T.zO Boot.«max» (aa (aN hu (pv 0) aS (fun _ _=>rfl)) (aa (ay gT hr rfl T.lI T.ji.kp T.lH .nil aw (aa (pv 0) ah)) ah))) rfl) (aq (aG (pv 3))))))),?_⟩;refine⟨_,rfl,_,rfl,_,rfl,m,ps,ts,L,top,R,ws,ms,cs,t,rfl,M,hR,fun gl H1 hgl s1 hg=> ?_⟩;refine⟨gl,rfl,⟨_,bA.of hg⟩,?_⟩;have xG:=qG R t;have Ur:(wf ws (bV R t)).length=(bV R t).length:=List.length_map ..;refine eX (fun _=>true) (fun j=>V.int ((R.getD ((bV R t).getD j 0) (0,0)).2:Int)) (dg (bA.of hg)).g ?_ ?_ fun p H2 hp s2 hl=> ?_
  ·rw[Ur];exact Nat.le_of_lt (bX (by lia))
  ·intro j x H' C1 C0 hj sm hx c1 c0;rw[Ur] at hj;have M' :=(M.same s1).same sm;have ei:=dv 0 hj;have hi:=jW (List.mem_of_getElem? ei);obtain⟨b,vs,e1,e2,e3,e4,e5⟩:=M'.at_ hi;unfold wf at hx;rw[List.getElem?_map,ei] at hx;cases hx;refine⟨(gw.refl _).own (by decide),kj (B:=C0 H') ⟨_,rfl,m.d,_,rfl,M'.D_,_,rfl,m.ca,_,rfl,e4,b,_,rfl,.inl (bA.of e5),?_⟩⟩;rw[CS.cz _ vs e2];exact c1 rfl H' (au.refl H')
  ·rw[Ur] at hl
   have el:((List.range (bV R t).length).filter fun _=>true).map (fun j=>V.int ((R.getD ((bV R t).getD j 0) (0,0)).2:Int))=(((bV R t).map fun i=>(R.getD i (0,0)).2).map fun n=>((n:Nat):Int)).map V.int:=by
    have:=lV (bV R t) 0 (fun _=>true) (fun i=>V.int ((R.getD i (0,0)).2:Int));rw[this,List.filter_eq_self.mpr (fun _ _=>rfl),List.map_map,List.map_map];rfl
   rw[el] at hl;refine⟨p,_,rfl,hl,?_,?_,?_⟩
   ·rw[List.length_map,List.length_map]
    lia
   ·intro x hx;obtain⟨y,hy,rfl⟩:=List.mem_map.mp hx;obtain⟨i,hi,rfl⟩:=List.mem_map.mp hy;have:=(G8 _ (wv (jW hi))).2.1
    lia
   rw[z7,Od];refine⟨(show 2≤sizeLine by decide),fun wt hwt=> ?_⟩;have s3:=au.upd (o:= .tup [V.int t,V.int (cR R t)]) hwt;have NS:=(s1.trans s2).trans s3;have M3:=M.same NS;have SU:upd H2 wt (.tup [V.int t,V.int (cR R t)]) wt=some (.tup (oz t (cR R t))):=ae;have agw:H wt=none:=(s1.trans s2).free hwt;generalize upd H2 wt (.tup [V.int t,V.int (cR R t)])=H3 at NS M3 SU;obtain⟨o1,o2,o3,o4,o5⟩:=M.sW;have dw:m.d≠m.wl:=aK M.ob M.wl (by intro z;cases z);refine⟨_,rfl,m.d,_,rfl,M3.zh,.inl ⟨rfl,_,bA.of M3.wl⟩,_,rfl,m.wl,_,_,rfl,rfl,M3.wl,?_,?_⟩
   ·rw[List.length_map,M.iu];exact bX (by lia)
   generalize OH:upd H3 m.wl (.lst (ws.map V.ref++[V.ref wt]))=H4
   have uw:∀c o,c≠m.wl→H3 c=some o→H4 c=some o:=fun c o h1 e=>by
    rw[←OH,af h1];exact e
   have hd4:=uw _ _ dw M3.ob;have hw4:=uw _ _ (aK SU M3.wl (by intro z;cases z)) SU;obtain⟨kv,c1,c2,c3⟩:=M3.ca;have cw:m.ca≠m.wl:=aK c1 M3.wl (by intro z;cases z);refine⟨(show 1≤sizeLine by decide),fun l1 zQ=>⟨_,rfl,l1,(n:Int),_,rfl,rfl,ae,by lia,by lia,?_,fun l2 mW=> ?_⟩⟩
   ·show 1*(n:Int).toNat≤sizeLine;exact Nat.le_of_lt (bX (by lia))
   rw[Int.toNat_natCast,Fw];have s5:=(au.upd (o:= .lst [V.bH]) zQ).trans (au.upd (o:= .lst (List.replicate n .bH)) mW);have Xv:upd (upd H4 l1 (.lst [V.bH])) l2 (.lst (List.replicate n .bH)) l2=some (.lst (List.replicate n .bH)):=ae;have Qf:H4 l2=none:=(au.upd (o:= .lst [V.bH]) zQ).free mW;generalize upd (upd H4 l1 (.lst [V.bH])) l2 (.lst (List.replicate n .bH))=H5 at s5 Xv
   have Vk:H4 m.wl=some (.lst (ws.map V.ref++[V.ref wt])):=by
    rw[←OH];exact ae
   have bw:l2≠m.wl:=(ag Vk Qf).symm;have ha4:=uw _ _ M.wn.1.symm M3.hl;have tk4:=uw _ _ M.wn.2.symm M3.tl;have bh:l2≠m.ha:=(ag ha4 Qf).symm;have bt:l2≠m.tk:=(ag tk4 Qf).symm
   have D9:H l2=none:=by
    cases q:H l2 with
    |none=>rfl
    |some o=>
     have:=uw _ _ bw (NS _ _ q);rw[Qf] at this;cases this
   refine⟨_,rfl,m.d,_,rfl,(by
    have:=ff.k (k:=kC) (s5 _ _ hd4);rw[T_] at this;exact this),_,rfl,m.ca,_,rfl,sD.t (k:=jY t (cR R t)) (s5 _ _ (uw _ _ cw c1)) (s5 _ _ hw4) (bX (by lia)),?_⟩
   generalize FW:upd H5 m.ca (.dT (v4 kv (jY t (cR R t)) (.ref l2)))=H6
   have Fc:∀c o,c≠m.ca→H5 c=some o→H6 c=some o:=fun c o h1 e=>by
    rw[←FW,af h1];exact e
   have kp:∀c o,c≠m.wl→c≠m.ca→H c=some o→H6 c=some o:=fun c o h1 h2 e=>Fc _ _ h2 (s5 _ _ (uw _ _ h1 (NS _ _ e)));have uv:∀c o,c≠m.wl→c≠m.ca→H3 c=some o→H6 c=some o:=fun c o h1 h2 e=>Fc _ _ h2 (s5 _ _ (uw _ _ h1 e));have NP:∀c xs,H3 c=some (.tup xs)→H6 c=some (.tup xs):=fun c xs e=>uv _ _ (aK e M3.wl (by intro z;cases z)) (aK e c1 (by intro z;cases z)) e;have dca:m.d≠m.ca:=aK M3.ob c1 (by intro z;cases z);have ahJ:m.ha≠m.ca:=aK M3.hl c1 (by intro z;cases z);have tca:m.tk≠m.ca:=aK M3.tl c1 (by intro z;cases z);have wca:m.wl≠m.ca:=cw.symm;have Y_:H6 l2=some (.lst (List.replicate n .bH)):=Fc _ _ (aK Xv (s5 _ _ (uw _ _ cw c1)) (by intro z;cases z)) Xv
   have M6:aP H6 {m with own:=l2::wt::m.own} ps ts L top (R++[(t,n)]) (ws++[wt]) (ms++[l2]) (cs++[List.replicate n .bH]):=by
    refine⟨uv _ _ dw dca M3.ob,uv _ _ M.wn.1.symm ahJ M3.hl,uv _ _ M.wn.2.symm tca M3.tl,M.ne,?_,?_,fun i hi=> ?_,⟨_,(by rw[←FW];exact ae),?_,fun i hi=> ?_⟩,M.wn,?_,fun i b e=> ?_,?_,⟨.tail _ (.tail _ o1),.tail _ (.tail _ o2),.tail _ (.tail _ o3),.tail _ (.tail _ o4),.tail _ (.tail _ o5)⟩,fun c hc=> ?_⟩
    ·rw[List.map_append];exact Fc _ _ wca (s5 _ _ Vk)
    ·rw[List.length_append,List.length_append,M.iu];rfl
    ·rcases wB hi with hi|rfl
     ·rw[iI hi,ja hi,iI (by rw[M.iu];exact hi)];exact⟨.tail _ (.tail _ (M3.way i hi).1),NP _ _ (M3.way i hi).2⟩
     ·rw[wP,lU,←M.iu,wP];exact⟨.tail _ (.head _),NP _ _ SU⟩
    ·have:=dI kv (jY t (cR R t)) (.ref l2);rw[List.length_append];show _≤R.length+1
     lia
    ·rw[fL];rcases wB hi with hi|rfl
     ·rw[iI hi,ja hi,iI (by rw[M.ml];exact hi)]
      have jA:¬jY (R.getD i (0,0)).1 (aT R i)=jY t (cR R t):=fun z=>by
       injection z with z1 z2;injection z1 with z1;injection z2 with z2 _;injection z2 with z2;have hm:i∈bV R t:=List.mem_filter.mpr ⟨List.mem_range.mpr hi,beq_iff_eq.mpr (by lia)⟩;have h1:=jab lz hm
       lia
      rw[if_neg jA];exact c3 i hi
     ·rw[wP,lU,if_pos rfl,←M.ml,wP]
    ·rw[List.length_append,List.length_append,M.ml];rfl
    ·by_cases hi:i<ms.length
     ·rw[List.getElem?_append_left hi] at e;obtain⟨e1,e2,e3,e4,vs,e5,e6⟩:=M3.mm i b e;refine⟨.tail _ (.tail _ e1),e2,e3,e4,vs,?_,uv _ _ e4 (aK e6 c1 (by intro z;cases z)) e6⟩;rw[List.getElem?_append_left (by rw[CS.cl,←M.ml];exact hi)];exact e5
     ·have yl :=(List.getElem?_eq_some_iff.mp e).1;rw[List.length_append] at yl;have hi:i=ms.length:=by simp at yl;lia
      subst hi;rw[List.getElem?_append_right (Nat.le_refl _),Nat.sub_self] at e;cases e;refine⟨.head _,bh,bt,bw,List.replicate n .bH,?_,Y_⟩;rw[List.getElem?_append_right (by rw[CS.cl,M.ml];exact Nat.le_refl _),CS.cl,M.ml,Nat.sub_self];rfl
    ·refine List.nodup_append.mpr ⟨M.mn,List.nodup_cons.mpr ⟨by simp,.nil⟩,fun x hx y hy=> ?_⟩;simp only[List.mem_singleton] at hy;subst hy;obtain⟨i,hi,rfl⟩:=List.mem_iff_getElem.mp hx;obtain⟨e1,e2,e3,e4,vs,e5,e6⟩:=M.mm i _ (List.getElem?_eq_getElem hi);exact ag e6 D9
    ·rcases List.mem_cons.mp hc with rfl|hc
     ·exact⟨_,Y_⟩
     ·rcases List.mem_cons.mp hc with rfl|hc
      ·exact⟨_,NP _ _ SU⟩
      ·by_cases z1:c=m.ca
       ·exact⟨_,by rw[←FW];exact jE z1⟩
       ·by_cases z2:c=m.wl
        ·exact⟨_,by rw[z2];exact Fc _ _ wca (s5 _ _ Vk)⟩
        ·exact(M3.al c hc).imp fun o e=>uv c o z2 z1 e
   refine⟨_,rfl,m.d,_,rfl,M6.XD,_,rfl,{m with own:=l2::wt::m.own},ps,ts,L,top,R++[(t,n)],ws++[wt],ms++[l2],cs++[List.replicate n .bH],rfl,M6,fun i vs e=> ?_,?_,?_,fun H7 s7=> ?_⟩
   ·by_cases hi:i<cs.length
    ·rw[List.getElem?_append_left hi] at e;rw[iI (by rw[←CS.cl];exact hi)];exact CS.cz i vs e
    ·have yl :=(List.getElem?_eq_some_iff.mp e).1;rw[List.length_append] at yl;have hi:i=cs.length:=by simp at yl;lia
     subst hi;rw[List.getElem?_append_right (Nat.le_refl _),Nat.sub_self] at e;cases e;rw[CS.cl,wP];exact List.length_replicate
   ·rw[List.length_append];show R.length+1≤1100
    lia
   ·intro r hr;rcases List.mem_append.mp hr with hr|hr
    ·exact⟨(G8 r hr).2.1,(G8 r hr).2.2⟩
    ·simp only[List.mem_singleton] at hr;subst hr;exact⟨n6,NF⟩
   have M7:=M6.same s7;have SE:H7 m.d=some (.dK (qX m.ha m.tk ⟨.int L,.int top,.ref m.wl,.ref m.ca⟩)):=M7.ob;refine⟨_,_,rfl,_,rfl,m.d,_,rfl,sD.k (k:=kP) SE (by show 6<sizeLine;decide),?_⟩;have em:∀v,v4 (qX m.ha m.tk ⟨.int L,.int top,.ref m.wl,.ref m.ca⟩) kP v=qX m.ha m.tk ⟨.int L,v,.ref m.wl,.ref m.ca⟩:=fun v=>by kernel_rfl
   rw[em];dsimp only
   have ev:V.int (if((bg ts (R++[(t,n)]):Nat):Int)>(top:Int) then((bg ts (R++[(t,n)]):Nat):Int) else(top:Int))=V.int ((max top (bg ts (R++[(t,n)])):Nat):Int):=by
    congr 1
    split<;>lia
   rw[ev];generalize hH8:upd H7 m.d (.dK (qX m.ha m.tk ⟨.int L,.int (max top (bg ts (R++[(t,n)])):Nat),.ref m.wl,.ref m.ca⟩))=H8
   have NO:∀c o,c≠m.d→H7 c=some o→H8 c=some o:=fun c o h1 e=>by
    rw[←hH8,af h1];exact e
   have hw7:H7 wt=some (.tup (oz t (cR R t))):=s7 _ _ (NP _ _ SU);refine⟨_,rfl,k (l2::wt::m.own) wt l2 wt H8 ?_ (fun c hc=> .tail _ (.tail _ hc)) (fun c hc=> ?_) (fun c o hc e=>NO _ _ (fun z=>hc (z▸o1)) (s7 _ _ (kp _ _ (fun z=>hc (z▸o4)) (fun z=>hc (z▸o5)) e))) (fun c xs e=>NO _ _ (aK e M.ob (by intro z;cases z)) (s7 _ _ (kp _ _ (aK e M.wl (by intro z;cases z)) (aK (NS _ _ e) c1 (by intro z;cases z)) e))) (NO _ _ (aK hw7 SE (by intro z;cases z)) hw7)⟩
   ·obtain⟨ob,hl_,tl_,ne_,wl_,abk,Vh,⟨kv7,d1,d2,d3⟩,wn_,ml_,mm_,mn_,o_,al_⟩:=M7;refine⟨by rw[←hH8];exact ae,NO _ _ (aK hl_ SE (by intro z;cases z)) hl_,NO _ _ (aK tl_ SE (by intro z;cases z)) tl_,ne_,NO _ _ (aK wl_ SE (by intro z;cases z)) wl_,abk,fun i hi=>⟨(Vh i hi).1,NO _ _ (aK (Vh i hi).2 SE (by intro z;cases z)) (Vh i hi).2⟩,⟨kv7,NO _ _ (aK d1 SE (by intro z;cases z)) d1,d2,d3⟩,wn_,ml_,fun i b e=> ?_,mn_,o_,fun c hc=>(if z:c=m.d then⟨_,by rw[←hH8];exact jE z⟩ else(al_ c hc).imp fun o e=>NO c o z e)⟩;obtain⟨e1,e2,e3,e4,vs,e5,e6⟩:=mm_ i b e;exact⟨e1,e2,e3,e4,vs,e5,NO _ _ (aK e6 SE (by intro z;cases z)) e6⟩
   ·rcases List.mem_cons.mp hc with rfl|hc
    ·exact .inr D9
    ·rcases List.mem_cons.mp hc with rfl|hc
     ·exact .inr agw
     ·exact .inl hc
end
section
variable{C:Addr}{H:Hp}{a:HA}{m:MA}{ps ts:aO}{L pk:Nat}{R:Rm}{N:Nat}{rs ws ms:aY}{cs:dM}
theorem zW{l:aY}(h:l.Nodup){i j:Nat}{b:Addr}(e:l[i]? =some b)(e' :l[j]? =some b):i=j:=by
 have h1:=(List.getElem?_eq_some_iff.mp e).1;exact(List.getElem?_inj h1 h).mp (e.trans e'.symm)
theorem wk{cs:dM}{i j:Nat}{vs vs' :az}(e:cs[i]? =some vs):(cs.set i vs')[j]? =if i=j then some vs' else cs[j]? :=by
 have h1:=(List.getElem?_eq_some_iff.mp e).1;rw[List.getElem?_set];by_cases z:i=j
 ·rw[if_pos z,if_pos z,if_pos h1]
 ·rw[if_neg z,if_neg z]
theorem aF.put(h:aF C H a ps ts L pk R N rs cs){i:Nat}{b:Addr}{vs vs' :az}(hb:rs[i]? =some b)(hc:cs[i]? =some vs):aF C (upd H b (.lst vs')) a ps ts L pk R N rs (cs.set i vs'):=by
 obtain⟨o1,o2,o3,vs0,o4,o5⟩:=h.rm i b hb
 have kp:∀{c:Addr} {o:HO},(∀xs,o≠.lst xs)→H c=some o→upd H b (.lst vs') c=some o:=fun ho e=>by
  rw[af (fun z=>by rw[z,o5] at e;injection e with e;exact ho _ e.symm)];exact e
 obtain⟨⟨dx,ob⟩,pl,tl,ne,⟨kv,f1,f2,f3,f4⟩,⟨kw,l1,l2,l3⟩,IB,rl,rm,rn,ow,al⟩:=h;refine⟨⟨dx,kp (by intro _ z;cases z) ob⟩,by rw[af o2.symm];exact pl,by rw[af o3.symm];exact tl,ne,⟨kv,kp (by intro _ z;cases z) f1,f2,fun n=> ?_,f4⟩,⟨kw,kp (by intro _ z;cases z) l1,l2,l3⟩,IB,rl,fun j c e=> ?_,rn,ow,fun c hc=> ?_⟩
 ·rcases f3 n with h|⟨c,e1,e2,e3,e4,e5⟩
  ·exact .inl h
  ·exact .inr ⟨c,e1,e2,e3,e4,kp (by intro _ z;cases z) e5⟩
 ·rw[wk hc];by_cases z:i=j
  ·subst z;rw[hb] at e;cases e;exact⟨o1,o2,o3,vs',if_pos rfl,ae⟩
  ·obtain⟨e1,e2,e3,us,e4,e5⟩:=rm j c e;refine⟨e1,e2,e3,us,by rw[if_neg z];exact e4,?_⟩;rw[af (fun q=>z (zW rn hb (by rw[←q];exact e)))];exact e5
 ·by_cases z:c=b
  ·exact⟨_,jE z⟩
  ·rw[af z];exact al c hc
theorem aP.put(M:aP H m ps ts L pk R ws ms cs){i:Nat}{b:Addr}{vs vs' :az}(hb:ms[i]? =some b)(hc:cs[i]? =some vs):aP (upd H b (.lst vs')) m ps ts L pk R ws ms (cs.set i vs'):=by
 obtain⟨o1,o2,o3,o4,vs0,o5,o6⟩:=M.mm i b hb
 have kp:∀{c:Addr} {o:HO},(∀xs,o≠.lst xs)→H c=some o→upd H b (.lst vs') c=some o:=fun ho e=>by
  rw[af (fun z=>by rw[z,o6] at e;injection e with e;exact ho _ e.symm)];exact e
 obtain⟨ob,hl,tl,ne,wl,iu,way,⟨kv,c1,c2,c3⟩,wn,ml,mm,mn,ow,al⟩:=M;refine⟨kp (by intro _ z;cases z) ob,by rw[af o2.symm];exact hl,by rw[af o3.symm];exact tl,ne,by rw[af o4.symm];exact wl,iu,fun j hj=>⟨(way j hj).1,kp (by intro _ z;cases z) (way j hj).2⟩,⟨kv,kp (by intro _ z;cases z) c1,c2,c3⟩,wn,ml,fun j c e=> ?_,mn,ow,fun c hc=> ?_⟩
 ·rw[wk hc];by_cases z:i=j
  ·subst z;rw[hb] at e;cases e;exact⟨o1,o2,o3,o4,vs',if_pos rfl,ae⟩
  ·obtain⟨e1,e2,e3,e4,us,e5,e6⟩:=mm j c e;refine⟨e1,e2,e3,e4,us,by rw[if_neg z];exact e5,?_⟩;rw[af (fun q=>z (zW mn hb (by rw[←q];exact e)))];exact e6
 ·by_cases z:c=b
  ·exact⟨_,jE z⟩
  ·rw[af z];exact al c hc
theorem dZ{R:Rm}{i:Nat}(hi:i<R.length):i∈bV R (R.getD i (0,0)).1:=List.mem_filter.mpr ⟨List.mem_range.mpr hi,beq_self_eq_true _⟩
theorem aF.floor(h:aF C H a ps ts L pk R N rs cs)(hr:∀r∈R,1≤r.2){i:Nat}(hi:i<R.length):∃kv b,H a.fa=some (.dK kv)∧bz kv (.inl ((R.getD i (0,0)).1:Int))=some (.ref b)∧H b=some (.dK (bG R rs (R.getD i (0,0)).1))∧bz (bG R rs (R.getD i (0,0)).1) (.inl (aT R i:Int))=some (.ref (rs.getD i 0)):=by
 obtain⟨kv,f1,f2,f3,f4⟩:=h.fl;rcases f3 (R.getD i (0,0)).1 with z|⟨b,e1,e2,e3,e4,e5⟩
 ·have:=dZ hi;rw[z.2] at this;cases this
 ·exact⟨kv,b,f1,e1,e5,HU hr rs (dZ hi)⟩
theorem aF.room(h:aF C H a ps ts L pk R N rs cs){i:Nat}(hi:i<R.length):rs[i]? =some (rs.getD i 0)∧rs.getD i 0∈a.own∧∃vs,cs[i]? =some vs∧H (rs.getD i 0)=some (.lst vs):=by
 have e:=dv 0 (show i<rs.length by rw[h.rl];exact hi);obtain⟨e1,e2,e3,vs,e4,e5⟩:=h.rm i _ e;exact⟨e,e1,vs,e4,e5⟩
end
section
variable{P:Program}{w:World}{K:Frag}{mg:Str→aH}{base:Heap}{A:pH}
def Jj:Sp:=fun vs H Q _=>∃t xs,vs=[.ref t]∧H t=some (.tup xs)∧Q (.bl false) H
theorem lY(T:Txt K mg A):aV P w K mg base eI 1 A.jG A.jw ["thing"] Jj:=by
 refine T.g7.ok t9 (fun vs H Q E h=> ?_) (fun cF Ar outer s H vs Q E hr h=> ?_)
 ·obtain⟨t,xs,rfl,_⟩:=h;rfl
 ·obtain⟨t,xs,rfl,e,k⟩:=h;refine⟨_,(aq (aG (oJ (aE je (by rfl) T.cO Boot.«isinstance» (aa (pv 0) (aa (tQ (v:= .ty "int") rfl T.Fl Boot.«int» rfl) ah))) (lW (Nd (aE je (by rfl) T.cO Boot.«isinstance» (aa (pv 0) (aa (tQ (v:= .ty "bool") rfl T.BH Boot.«bool» rfl) ah)))))))),?_⟩;exact⟨_,rfl,_,_,_,_,rfl,.tup e,rfl,_,rfl,g8 k⟩
def Nb:Sp:=fun vs H Q _=>∃n:Nat,vs=[nV n]∧Q (.bl true) H
theorem De(T:Txt K mg A):aV P w K mg base eI 2 A.rV A.so ["thing"] Nb:=by
 have fz:=kh (P:=P) (w:=w) (base:=base) T;refine T.sd.ok DF (fun vs H Q E h=> ?_) (fun cF Ar outer s H vs Q E hr h=> ?_)
 ·obtain⟨n,rfl,_⟩:=h;rfl
 ·obtain⟨n,rfl,k⟩:=h;refine⟨_,(aq (aG (oJ (ay fz hr rfl T.lP T.g7.kp T.lF .nil aw (aa (pv 0) ah)) (lW (lN Y3 (pv 0) ax (bu _)))))),?_⟩;refine⟨_,rfl,(n:Int),rfl,_,rfl,kj ⟨_,rfl,(n:Int),0,rfl,rfl,?_⟩⟩;have e:decide ((0:Int)≤(n:Int))=true:=decide_eq_true (by lia);show Q (V.bl (decide ((0:Int)≤(n:Int)))) H;rw[e];exact k
def Pe:Sp:=fun vs H Q _=>∃t f p,vs=[.ref t]∧H t=some (.tup (oz f p))∧Q (.bl true) H
theorem xU(T:Txt K mg A):aV P w K mg base eI 3 A.uL A.uQ ["thing"] Pe:=by
 have yd:=De (P:=P) (w:=w) (base:=base) T;refine T.uA.ok E6 (fun vs H Q E h=> ?_) (fun cF Ar outer s H vs Q E hr h=> ?_)
 ·obtain⟨t,f,p,rfl,_⟩:=h;rfl
 ·obtain⟨t,f,p,rfl,e,k⟩:=h;refine⟨_,(ak (cg (fH (eY (aE je (by rfl) T.cO Boot.«isinstance» (aa (pv 0) (aa (tQ (v:= .ty "tuple") rfl T.ki Boot.«tuple» rfl) ah))))) (aq (aG j9)) bp) (aq (aG (oJ (lN xJ (aE aU (by rfl) T.ee Boot.«len» (aa (pv 0) ah)) ax (bu _)) (oJ (ay yd hr rfl T.wH T.sd.kp T.xW .nil aw (aa (bB iG (pv 0) ax (fun _ _=>rfl)) ah)) (lW (ay yd hr rfl T.wH T.sd.kp T.xW .nil aw (aa (bB iG (pv 0) ax (fun _ _=>rfl)) ah)))))))),?_⟩;refine⟨_,rfl,_,_,_,_,rfl,.tup e,rfl,_,rfl,?_⟩;refine⟨_,rfl,t,_,rfl,.inr (qS.of e),rfl,_,rfl,?_⟩;refine kj ⟨_,rfl,t,_,_,nV f,rfl,rfl,qS.of e,rfl,f,rfl,_,rfl,?_⟩;exact kj ⟨_,rfl,t,_,_,nV p,rfl,rfl,qS.of e,rfl,p,rfl,k⟩
def Oj(C:Addr):Sp:=fun vs H Q _=>∃a ps ts L pk R N rs cs i t,vs=[.ref a.f,.ref t]∧aF C H a ps ts L pk R N rs cs∧(∀r∈R,1≤r.2)∧i<R.length∧H t=some (.tup (oz (R.getD i (0,0)).1 (aT R i)))∧∀H',au H H'→Q (.bl true) H'
theorem jR(T:Txt K mg A):aV P w K mg base eI 4 A.ix A.iz ["self","thing"] (Oj A.aj):=by
 have uZ:=xU (P:=P) (w:=w) (base:=base) T;refine T.qb.ok pz (fun vs H Q E h=> ?_) (fun cF Ar outer s H vs Q E hr h=> ?_)
 ·obtain⟨a,ps,ts,L,pk,R,N,rs,cs,i,t,rfl,_⟩:=h;rfl
 ·obtain⟨a,ps,ts,L,pk,R,N,rs,cs,i,t,rfl,F,lz,hi,e,k⟩:=h;have hu:=dS hr;obtain⟨dx,ho⟩:=F.ob;obtain⟨kv,b,f1,f2,f3,f4⟩:=F.floor lz hi;refine⟨_,(aq (aG (oJ (ay uZ hr rfl T.Af T.uA.kp T.zB .nil aw (aa (pv 1) ah)) (lW (LI (LM hu (bB iG (pv 1) ax (fun _ _=>rfl)) (pZ hu (b8 (pv 0) rfl) (bB iG (pv 1) ax (fun _ _=>rfl)) mT ⟨rfl,rfl,rfl,rfl⟩))))))),?_⟩;refine⟨_,rfl,t,_,_,rfl,e,_,rfl,kj ⟨_,rfl,t,_,1,_,rfl,rfl,qS.of e,rfl,_,rfl,a.f,A.aj,dx,_,_,rfl,ho,T.ar,T.cE,su _ _ _,a.fa,rfl,.inl ⟨_,.inl f1⟩,_,rfl,t,_,0,_,rfl,rfl,qS.of e,rfl,fun e0 GN=> ?_⟩⟩;have s1:=au.upd (o:= .dK []) GN;refine⟨_,ff.k (k:= .inl ((R.getD i (0,0)).1:Int)) (s1 _ _ f1),?_⟩;rw[f2];refine⟨b,_,rfl,ff.k (k:= .inl (aT R i:Int)) (s1 _ _ f3),?_⟩;rw[f4];exact k _ s1
def Pd(C:Addr):Sp:=fun vs H Q _=>∃a ps ts L pk R N rs cs v,vs=[.ref a.f,v]∧aF C H a ps ts L pk R N rs cs∧(∀r∈R,1≤r.2)∧(v= .bH∨(∃i:Int,v= .int i)∨∃i t,v= .ref t∧i<R.length∧H t=some (.tup (oz (R.getD i (0,0)).1 (aT R i))))∧∀H',au H H'→Q (.bl true) H'
def U7:Sp:=fun vs H Q E=>LG vs H Q E∨Jj vs H Q E
theorem yV(T:Txt K mg A):aV P w K mg base eI 1 A.jG A.jw ["thing"] U7:=
 ⟨fun vs H Q E h=>h.elim ((kh (P:=P) (w:=w) (base:=base) T).len vs H Q E) ((lY (P:=P) (w:=w) (base:=base) T).len vs H Q E),fun A outer s H args us vs Q E hr he hb hv hs=>hs.elim ((kh T).run A outer s H args us vs Q E hr he hb hv) ((lY T).run A outer s H args us vs Q E hr he hb hv)⟩
theorem tj(T:Txt K mg A):aV P w K mg base eI 5 A.fT A.fP ["self","thing"] (Pd A.aj):=by
 have cc:=jR (P:=P) (w:=w) (base:=base) T;have fz:=(yV (P:=P) (w:=w) (base:=base) T).mono (by decide:_≤4);refine T.mO.ok lG (fun vs H Q E h=> ?_) (fun cF Ar outer s H vs Q E hr h=> ?_)
 ·obtain⟨a,ps,ts,L,pk,R,N,rs,cs,v,rfl,_⟩:=h;rfl
 ·obtain⟨a,ps,ts,L,pk,R,N,rs,cs,v,rfl,F,lz,hv,k⟩:=h;obtain⟨dx,ho⟩:=F.ob;refine⟨_,(aq (aG (Gz (lN rT (pv 1) cW (bu _)) (Gz (ay fz hr rfl T.lP T.g7.kp T.lF .nil aw (aa (pv 1) ah)) (lW (aR (pv 0) T.ar T.fD cc hr T.fC .nil aw (aa (pv 1) ah))))))),?_⟩;rcases hv with rfl|⟨i,rfl⟩|⟨i,t,rfl,hi,e⟩
  ·exact⟨_,rfl,rfl,_,rfl,kj (k _ (au.refl H))⟩
  ·exact⟨_,rfl,rfl,_,rfl,g8 ⟨_,rfl,.inl ⟨i,rfl,_,rfl,kj (k _ (au.refl H))⟩⟩⟩
  ·exact⟨_,rfl,rfl,_,rfl,g8 ⟨_,rfl,.inr ⟨t,_,rfl,e,_,rfl,g8 ⟨_,rfl,a.f,dx,_,rfl,ho,aC (by decide+kernel),_,rfl,a,ps,ts,L,pk,R,N,rs,cs,i,t,rfl,F,lz,hi,e,k⟩⟩⟩⟩
def EB(C:Addr):Sp:=fun vs H Q _=>∃a ps ts L pk R N rs cs i t,vs=[.ref a.f,.ref t]∧aF C H a ps ts L pk R N rs cs∧(∀r∈R,1≤r.2)∧ps.length=ts.length∧i<R.length∧ts[(R.getD i (0,0)).1]? =some none∧H t=some (.tup (oz (R.getD i (0,0)).1 (aT R i)))∧∀H',au H H'→Q (.ref (rs.getD i 0)) H'
theorem cu(T:Txt K mg A):aV P w K mg base eI 6 A.bR A.bT ["self","thing"] (EB A.aj):=by
 have cc:=(jR (P:=P) (w:=w) (base:=base) T).mono (by decide:_≤5);have dB:=gR (P:=P) (w:=w) (base:=base) T;refine T.hV.ok cY (fun vs H Q E h=> ?_) (fun cF Ar outer s H vs Q E hr h=> ?_)
 ·obtain⟨a,ps,ts,L,pk,R,N,rs,cs,i,t,rfl,_⟩:=h;rfl
 ·obtain⟨a,ps,ts,L,pk,R,N,rs,cs,i,t,rfl,F,lz,hl,hi,fE,e,k⟩:=h;have hu:=dS hr;obtain⟨dx,ho⟩:=F.ob;refine⟨_,(ak (cg (fH (eY (aR (pv 0) T.ar T.fD cc hr T.fC .nil aw (aa (pv 1) ah)))) (aq eT) bp) (ak (a_ (i:=2) cY.nd rfl (Or.inl rfl) (aR (pv 0) T.ar T.iD dB hr T.ia .nil aw (aa (bB iG (pv 1) ax (fun _ _=>rfl)) ah))) (ak (cg (ba we (pv 2) cW (bu _)) (aq eT) bp) (aq (aG (aN hu (aN hu (b8 (pv 0) rfl) (bB iG (pv 1) ax (fun _ _=>rfl)) (fun _ _=>rfl)) (bB iG (pv 1) ax (fun _ _=>rfl)) (fun _ _=>rfl))))))),?_⟩;refine⟨_,rfl,a.f,dx,_,rfl,ho,aC (by decide+kernel),_,rfl,a,ps,ts,L,pk,R,N,rs,cs,i,t,rfl,F,lz,hi,e,fun H1 s1=>⟨_,rfl,?_⟩⟩;have F1:=F.same s1;have e1:=s1 _ _ e;obtain⟨pG,AO⟩:=F1.ob;obtain⟨kv,b,f1,f2,f3,f4⟩:=F1.floor lz hi;refine⟨_,rfl,a.f,pG,_,rfl,AO,aC (by decide+kernel),_,rfl,t,_,0,_,rfl,rfl,qS.of e1,rfl,a.f,a.pa,a.ta,ps,ts,(R.getD i (0,0)).1,none,rfl,F1.fr,hl,fE,?_⟩;refine⟨_,rfl,rfl,_,rfl,?_⟩;refine⟨_,rfl,a.f,A.aj,pG,_,_,rfl,AO,T.ar,T.cE,su _ _ _,_,rfl,t,_,0,_,rfl,rfl,qS.of e1,rfl,a.fa,.ref b,rfl,?_,_,rfl,t,_,1,_,rfl,rfl,qS.of e1,rfl,b,.ref (rs.getD i 0),rfl,?_,k H1 s1⟩
  ·have:=ff.k (k:= .inl ((R.getD i (0,0)).1:Int)) f1;rw[f2] at this;exact this
  ·have:=ff.k (k:= .inl (aT R i:Int)) f3;rw[f4] at this;exact this
def Ef:Sp:=fun vs H Q _=>∃(b:Addr) (xs:az) (k:Nat),vs=[.ref b,.int k]∧H b=some (.lst xs)∧k<xs.length∧Q .bH H
theorem nA(T:Txt K mg A):aV P w K mg base eI 3 A.jy A.jl ["room","thing"] Ef:=by
 have ez:=jm (P:=P) (w:=w) (base:=base) T;refine T.gZ.ok ud (fun vs H Q E h=> ?_) (fun cF Ar outer s H vs Q E hr h=> ?_)
 ·obtain⟨b,xs,k,rfl,_⟩:=h;rfl
 ·obtain⟨b,xs,k,rfl,hb,hk,q⟩:=h;refine⟨_,(aq (cg (fH (eY (ay ez hr rfl T.kM T.iV.kp T.ly .nil aw (aa (pv 1) (aa ax (aa (bF j6 (aE aU (by rfl) T.ee Boot.«len» (aa (pv 0) ah)) ax) ah)))))) (aq eT) bp)),?_⟩;refine⟨_,rfl,_,rfl,b,_,rfl,.inl (bA.of hb),_,1,rfl,rfl,(k:Int),0,_,rfl,_,rfl,?_⟩;rw[decide_eq_true (show(0:Int)≤(k:Int) by lia),decide_eq_true (show(k:Int)≤(xs.length:Int) - 1 by lia)];exact q
structure pw(H:Hp)(ts:aO)(R:Rm)(i:Nat)(t:Addr):Prop where
 hi:i<R.length
 st:ts[(R.getD i (0,0)).1]? =some none
 e:H t=some (.tup (oz (R.getD i (0,0)).1 (aT R i)))
theorem pw.same{H H' :Hp}{ts:aO}{R:Rm}{i:Nat}{t:Addr}(w:pw H ts R i t)(s:au H H'):pw H' ts R i t:=⟨w.hi,w.st,s _ _ w.e⟩
def abJ(C:Addr):Sp:=fun vs H Q _=>∃a ps ts L pk R N rs cs i t xs k,vs=[.ref a.f,.ref t,.int (k:Nat)]∧aF C H a ps ts L pk R N rs cs∧(∀r∈R,1≤r.2)∧ps.length=ts.length∧pw H ts R i t∧cs[i]? =some xs∧k<xs.length∧∀v H',xs[k]? =some v→au H H'→Q v H'
theorem N7(T:Txt K mg A):aV P w K mg base eI 7 A.gW A.gU ["self","way","k"] (abJ A.aj):=by
 have aM:=cu (P:=P) (w:=w) (base:=base) T;have fK:=(nA (P:=P) (w:=w) (base:=base) T).mono (by decide:_≤6);refine T.pS.ok fU (fun vs H Q E h=> ?_) (fun cF Ar outer s H vs Q E hr h=> ?_)
 ·obtain⟨a,ps,ts,L,pk,R,N,rs,cs,i,t,xs,k,rfl,_⟩:=h;rfl
 ·obtain⟨a,ps,ts,L,pk,R,N,rs,cs,i,t,xs,k,rfl,F,lz,hl,wa,hc,hk,q⟩:=h;obtain⟨dx,ho⟩:=F.ob;refine⟨_,(ak (a_ (i:=3) fU.nd rfl (Or.inl rfl) (aR (pv 0) T.ar T.bM aM hr T.bL .nil aw (aa (pv 1) ah))) (ak (aZ (ay fK hr rfl T.lM T.gZ.kp T.lE .nil aw (aa (pv 3) (aa (pv 2) ah)))) (aq (aG (bB bj (pv 3) (pv 2) (fun _ _=>rfl)))))),?_⟩;refine⟨_,rfl,a.f,dx,_,rfl,ho,aC (by decide+kernel),_,rfl,a,ps,ts,L,pk,R,N,rs,cs,i,t,rfl,F,lz,hl,wa.hi,wa.st,wa.e,fun H1 s1=> ?_⟩;obtain⟨r1,r2,ys,r3,r4⟩:=(F.same s1).room wa.hi;rw[hc] at r3;cases r3;refine⟨_,rfl,_,rfl,rs.getD i 0,xs,k,rfl,r4,hk,?_⟩;exact⟨_,rfl,_,rfl,rs.getD i 0,_,_,xs[k],rfl,rfl,bA.of r4,dD (by simp[hk]),q _ H1 (by simp[hk]) s1⟩
def Js(C:Addr):Sp:=fun vs H Q _=>∃a ps ts L pk R N rs cs i t xs,vs=[.ref a.f,.ref t]∧aF C H a ps ts L pk R N rs cs∧(∀r∈R,1≤r.2)∧ps.length=ts.length∧pw H ts R i t∧cs[i]? =some xs∧∀H',au H H'→Q (.int xs.length) H'
theorem ra(T:Txt K mg A):aV P w K mg base eI 7 A.eA A.eB ["self","way"] (Js A.aj):=by
 have aM:=cu (P:=P) (w:=w) (base:=base) T;refine T.nP.ok lZ (fun vs H Q E h=> ?_) (fun cF Ar outer s H vs Q E hr h=> ?_)
 ·obtain⟨a,ps,ts,L,pk,R,N,rs,cs,i,t,xs,rfl,_⟩:=h;rfl
 ·obtain⟨a,ps,ts,L,pk,R,N,rs,cs,i,t,xs,rfl,F,lz,hl,wa,hc,q⟩:=h;obtain⟨dx,ho⟩:=F.ob;refine⟨_,(aq (aG (aE aU (by rfl) T.ee Boot.«len» (aa (aR (pv 0) T.ar T.bM aM hr T.bL .nil aw (aa (pv 1) ah)) ah)))),?_⟩;refine⟨_,rfl,a.f,dx,_,rfl,ho,aC (by decide+kernel),_,rfl,a,ps,ts,L,pk,R,N,rs,cs,i,t,rfl,F,lz,hl,wa.hi,wa.st,wa.e,fun H1 s1=> ?_⟩;obtain⟨r1,r2,ys,r3,r4⟩:=(F.same s1).room wa.hi;rw[hc] at r3;cases r3;exact⟨rs.getD i 0,_,rfl,.inl (bA.of r4),q H1 s1⟩
def Pt(C:Addr):Sp:=fun vs H Q _=>∃a ps ts L pk R N rs cs i t xs,vs=[.ref a.f,.ref t]∧aF C H a ps ts L pk R N rs cs∧(∀r∈R,1≤r.2)∧ps.length=ts.length∧pw H ts R i t∧cs[i]? =some xs∧∀l H',H l=none→au H H'→H' l=some (.lst xs)→Q (.ref l) H'
theorem pJ(T:Txt K mg A):aV P w K mg base eI 7 A.md A.l_ ["self","way"] (Pt A.aj):=by
 have aM:=cu (P:=P) (w:=w) (base:=base) T;refine T.zc.ok yi (fun vs H Q E h=> ?_) (fun cF Ar outer s H vs Q E hr h=> ?_)
 ·obtain⟨a,ps,ts,L,pk,R,N,rs,cs,i,t,xs,rfl,_⟩:=h;rfl
 ·obtain⟨a,ps,ts,L,pk,R,N,rs,cs,i,t,xs,rfl,F,lz,hl,wa,hc,q⟩:=h;obtain⟨dx,ho⟩:=F.ob;refine⟨_,(aq (aG (cj g_ (by rfl) T.nZ Boot.«list» (aa (aR (pv 0) T.ar T.bM aM hr T.bL .nil aw (aa (pv 1) ah)) ah)))),?_⟩;refine⟨_,rfl,a.f,dx,_,rfl,ho,aC (by decide+kernel),_,rfl,a,ps,ts,L,pk,R,N,rs,cs,i,t,rfl,F,lz,hl,wa.hi,wa.st,wa.e,fun H1 s1=> ?_⟩;obtain⟨r1,r2,ys,r3,r4⟩:=(F.same s1).room wa.hi;rw[hc] at r3;cases r3;exact⟨rs.getD i 0,_,rfl,.inl (bA.of r4),fun l hl=>q l _ (s1.free hl) (s1.trans (au.upd hl)) ae⟩
def Dz(H:Hp)(R:Rm)(v:V):Prop:=v= .bH∨(∃i:Int,v= .int i)∨∃i t,v= .ref t∧i<R.length∧H t=some (.tup (oz (R.getD i (0,0)).1 (aT R i)))
theorem Dz.same{H H' :Hp}{R:Rm}{v:V}(h:Dz H R v)(s:au H H'):Dz H' R v:=by
 rcases h with h|h|⟨i,t,h1,h2,h3⟩
 ·exact .inl h
 ·exact .inr (.inl h)
 ·exact .inr (.inr ⟨i,t,h1,h2,s _ _ h3⟩)
def aat(C:Addr):Sp:=fun vs H Q _=>∃a ps ts L pk R N rs cs i t xs k v,vs=[.ref a.f,.ref t,.int (k:Nat),v]∧aF C H a ps ts L pk R N rs cs∧(∀r∈R,1≤r.2)∧ps.length=ts.length∧pw H ts R i t∧cs[i]? =some xs∧k<xs.length∧Dz H R v∧∀H2,au H H2→Q .bH (upd H2 (rs.getD i 0) (.lst (xs.set k v)))
theorem AG(T:Txt K mg A):aV P w K mg base eI 7 A.jv A.ju ["self","way","k","value"] (aat A.aj):=by
 have aM:=cu (P:=P) (w:=w) (base:=base) T;have fK:=(nA (P:=P) (w:=w) (base:=base) T).mono (by decide:_≤6);have iP:=(tj (P:=P) (w:=w) (base:=base) T).mono (by decide:_≤6);refine T.vC.ok km (fun vs H Q E h=> ?_) (fun cF Ar outer s H vs Q E hr h=> ?_)
 ·obtain⟨a,ps,ts,L,pk,R,N,rs,cs,i,t,xs,k,v,rfl,_⟩:=h;rfl
 ·obtain⟨a,ps,ts,L,pk,R,N,rs,cs,i,t,xs,k,v,rfl,F,lz,hl,wa,hc,hk,hv,q⟩:=h;obtain⟨dx,ho⟩:=F.ob;refine⟨_,(ak (a_ (i:=4) km.nd rfl (Or.inl rfl) (aR (pv 0) T.ar T.bM aM hr T.bL .nil aw (aa (pv 1) ah))) (ak (aZ (ay fK hr rfl T.lM T.gZ.kp T.lE .nil aw (aa (pv 4) (aa (pv 2) ah)))) (ak (cg (fH (eY (aR (pv 0) T.ar T.mX iP hr T.mK .nil aw (aa (pv 3) ah)))) (aq eT) bp) (aq (ph (pv 3) (nB (pv 4) (pv 2) ww)))))),?_⟩;refine⟨_,rfl,a.f,dx,_,rfl,ho,aC (by decide+kernel),_,rfl,a,ps,ts,L,pk,R,N,rs,cs,i,t,rfl,F,lz,hl,wa.hi,wa.st,wa.e,fun H1 s1=> ?_⟩;have F1:=F.same s1;obtain⟨r1,r2,ys,r3,r4⟩:=F1.room wa.hi;rw[hc] at r3;cases r3;refine⟨_,rfl,_,rfl,rs.getD i 0,xs,k,rfl,r4,hk,?_⟩;obtain⟨pG,AO⟩:=F1.ob;refine⟨_,rfl,a.f,pG,_,rfl,AO,aC (by decide+kernel),_,rfl,a,ps,ts,L,pk,R,N,rs,cs,v,rfl,F1,lz,hv.same s1,fun H2 s2=>⟨_,rfl,?_⟩⟩;have F2:=F1.same s2;refine⟨_,rfl,_,rfl,_,rfl,rs.getD i 0,xs,_,k,rfl,rfl,s2 _ _ r4,qH hk,?_⟩;exact q H2 (s1.trans s2)
end
open PySem.SeqAt
theorem c_.kept{b:Addr}{k:Nat}{H H' :Hp}(B:c_ H b k)(h:∀o,H b=some o→H' b=some o):c_ H' b k:=by
 obtain⟨x,y,z,hb,r⟩:=B;exact⟨x,y,z,h _ hb,r⟩
theorem c_.lst{b:Addr}{k:Nat}{H:Hp}(B:c_ H b k):∃xs,H b=some (.lst xs):=by
 obtain⟨x,y,z,hb,_⟩:=B;exact⟨_,hb⟩
def gQ(f p:Nat):PyData:= .tuple [.int f,.int p]
theorem Ci:∀xs:List (Nat×Nat),PyData.canLayAll0 (xs.map fun x=>gQ x.1 x.2)=true
 |[]=>by simp[PyData.canLayAll0]
 |x::r=>by
  have ih:=Ci r;simp only[List.map_cons,PyData.canLayAll0,gQ,PyData.canLay0] at ih ⊢;rw[ih];rfl
theorem Dt:∀xs:List (Nat×Nat),PyData.depthAll (xs.map fun x=>gQ x.1 x.2)≤2
 |[]=>by simp[PyData.depthAll]
 |x::r=>by
  have ih:=Dt r;simp only[List.map_cons,PyData.depthAll,gQ,PyData.depth] at ih ⊢
  lia
theorem CB(xs:List (Nat×Nat)):shaped (.list (xs.map fun x=>gQ x.1 x.2))=true:=by
 show(PyData.canLay0 (.list (xs.map fun x=>gQ x.1 x.2))&&decide (PyData.depth (.list (xs.map fun x=>gQ x.1 x.2))≤64))=true;rw[Bool.and_eq_true];refine⟨?_,decide_eq_true ?_⟩
 ·simp only[PyData.canLay0];exact Ci xs
 ·have:=Dt xs;simp only[PyData.depth]
  lia
theorem KG(ds:List PyData):noMix (.list ds) (.list [])=true:=by
 simp only[noMix];cases ds<;>simp only[noMixAll]
theorem Hh(ds:List PyData):PySem.Spec.same (.list ds) (.list [])=ds.isEmpty:=by
 simp only[PySem.Spec.same];cases ds<;>simp[PySem.Spec.sameAll]
theorem Ey:shaped (.list [])=true:=by decide+kernel
def Qm(R:Rm)(I:List Nat):List (Nat×Nat):=I.map fun i=>((R.getD i (0,0)).1,aT R i)
theorem Dm{H:Hp}{m:MA}{ps ts:aO}{L top:Nat}{R:Rm}{ws ms:aY}{cs:dM}(M:aP H m ps ts L top R ws ms cs):∀{I:List Nat},(∀i∈I,i<R.length)→DatAll H (wf ws I) ((Qm R I).map fun x=>gQ x.1 x.2)
 |[],_=> .nil
 |i::I,h=> .cons (.tup (M.way i (h i List.mem_cons_self)).2 (.cons (.int _) (.cons (.int _) .nil))) (Dm M fun j hj=>h j (List.mem_cons_of_mem _ hj))
theorem LW(ws:aY):ws.map V.ref=wf ws (List.range ws.length):=by
 unfold wf
 conv=>lhs;rw[vx ws 0]
 rw[List.map_map];rfl
def aaA(b:Addr)(H0:Hp):TS:=fun D σ H=>∃(k:Nat) (way:Int) (x1 x3:Option V),σ=[some (.ref b),x1,some (.int way),x3]∧0≤way∧way<5∧c_ H b k∧k≤1100∧∀v H',(v= .bH∨∃i:Int,v= .int i∧i.natAbs<10 ^ 40)→c_ H' b (k+1)→Kept b H H'→D.rt v H'
section
variable{P:Program}{w:World}{K:Frag}{mg:Str→aH}{base:Heap}{A:pH}
def UE:Sp:=fun vs H Q _=>∃(b l:Addr) (k:Nat) (S:az),vs=[.ref b,.ref l]∧c_ H b k∧k+2≤2000∧H l=some (.lst S)∧l≠b∧S≠[]∧S.length≤1000∧
 ∀v H',v∈S→c_ H' b (k+2)→Kept b H H'→Q v H'
theorem tP(T:Txt K mg A):aV P w K mg base eI 2 A.rZ A.rE ["_law_box_here","_law_some"] UE:=by
 have bK:=kn (P:=P) (w:=w) (base:=base) T;refine T.nW.ok pQ (fun vs H Q E h=> ?_) (fun cF Ar outer s H vs Q E hr h=> ?_)
 ·obtain⟨b,l,k,S,rfl,_⟩:=h;rfl
 ·obtain⟨b,l,k,S,rfl,B,hk,hl,lb,hS,hlen,q⟩:=h;have Az:0<S.length:=List.length_pos_iff.mpr hS;refine⟨_,(ak (a_ (i:=2) pQ.nd rfl (Or.inl rfl) (ay bK hr rfl T.bY T.bS.kp T.bW .nil aw (aa (pv 0) (aa ax ah)))) (ak (a_ (i:=3) pQ.nd rfl (Or.inl rfl) (ay bK hr rfl T.bY T.bS.kp T.bW .nil aw (aa (pv 0) (aa (aE aU (by rfl) T.ee Boot.«len» (aa (pv 1) ah)) ah)))) (aq (aG (bB bj (pv 1) (bB bj (bN (aa (pv 3) (aa (bF j6 (aE aU (by rfl) T.ee Boot.«len» (aa (pv 1) ah)) ax) (aa (pv 3) ah)))) (pv 2) (fun _ _=>rfl)) (fun _ _=>rfl)))))),?_⟩;refine⟨_,rfl,b,3,k,rfl,B,by lia,by decide,by decide,fun way H1 w0 w1 B1 O1=> ?_⟩;have zQ:=O1.kept _ _ lb hl;refine⟨_,rfl,_,rfl,l,_,rfl,.inl (bA.of zQ),b,_,k+1,rfl,B1,by lia,by lia,by lia,fun at_ H2 a0 a1 B2 O2=> ?_⟩;have mW:=O2.kept _ _ lb zQ;refine⟨_,rfl,_,rfl,_,rfl,l,_,rfl,.inl (bA.of mW),_,1,rfl,rfl,_,rfl,(show 3≤sizeLine by decide),fun p hp=> ?_⟩;have sp:=au.upd (o:= .lst [V.int at_,V.int ((S.length:Int) - 1),V.int at_]) hp;refine⟨_,rfl,?_⟩;refine AR (fun v=>∃i:Nat,v= .int i∧i<S.length) ae w0 w1 ?_ fun v hv=> ?_
  ·intro x hx;simp only[List.mem_cons,List.not_mem_nil,or_false] at hx;rcases hx with rfl|rfl|rfl
   ·exact⟨at_.toNat,by congr 1;lia,by lia⟩
   ·exact⟨S.length - 1,by congr 1;lia,by lia⟩
   ·exact⟨at_.toNat,by congr 1;lia,by lia⟩
  obtain⟨i,rfl,hi⟩:=hv;have hx:S[i]? =some S[i]:=by simp[hi]
  exact⟨l,_,_,_,rfl,rfl,bA.of (sp _ _ mW),dD hx,q _ _ (List.getElem_mem hi) (B2.same sp) ((O1.kept.trans O2.kept).trans sp.kept)⟩
def Pc:Sp:=fun vs H Q _=>∃b k m ps ts L top R ws ms cs,vs=[.ref b,.ref m.d]∧c_ H b k∧k≤1000∧aP H m ps ts L top R ws ms cs∧¬b∈m.own∧R.length≤1000∧∀v H',QA ws R.length v→c_ H' b (k+3)→Kept b H H'→Q v H'
theorem yS(T:Txt K mg A):aV P w K mg base eI 3 A.nF A.nY ["_law_box_here","_law_model"] Pc:=by
 have bK:=(kn (P:=P) (w:=w) (base:=base) T).mono (by decide:_≤2);have n5:=tP (P:=P) (w:=w) (base:=base) T;refine T.tV.ok mx (fun vs H Q E h=> ?_) (fun cF Ar outer s H vs Q E hr h=> ?_)
 ·obtain⟨b,k,m,ps,ts,L,top,R,ws,ms,cs,rfl,_⟩:=h;rfl
 ·obtain⟨b,k,m,ps,ts,L,top,R,ws,ms,cs,rfl,B,hk,M,nb,hR,q⟩:=h;have hu:=dS hr;have sN:_+100<cLine:=Nat.lt_of_le_of_lt (Nat.add_le_add_left (by decide:100≤16*2+200) _) (by have:=hr.un;omega);refine⟨_,(ak (a_ (i:=2) mx.nd rfl (Or.inl rfl) (ay bK hr rfl T.bY T.bS.kp T.bW .nil aw (aa (pv 0) (aa ax ah)))) (ak (cg (PW.pt (jaa (ba DA (pv 2) ax (bu _)) (Wp (ba (uE sN) (aN hu (pv 1) aS (fun _ _=>rfl)) (bN ah) (bu _))))) (aq (aG (ay n5 hr rfl T.r9 T.nW.kp T.rO .nil aw (aa (pv 0) (aa (aN hu (pv 1) aS (fun _ _=>rfl)) ah))))) bp) (qA (aaA b H) (ak (a_ (i:=3) mx.nd rfl (Or.inl rfl) (bF j6 (ay bK hr rfl T.bY T.bS.kp T.bW .nil aw (aa (pv 0) (aa ax ah))) ax)) (aq (aG (bB bj (bN (aa cW (aa (pv 3) (aa (pv 3) (aa cW (aa (bF iS (bF xN (bF j6 (bF Bz ax ax) ax) (bB bj (bN (aa ax (aa (Ru Jv ax) ah))) (bF rH (pv 3) ax) (fun _ _=>rfl))) (pv 3)) ah)))))) (pv 2) (fun _ _=>rfl))))) ?aff))),?_⟩
  case aff=>
   rintro D σ H1 ⟨k,way,x1,x3,rfl,w0,w1,B,hk,q⟩
   refine⟨_,rfl,b,12,k,rfl,B,by lia,by decide,by decide,fun r H2 r0 r1 B2 O2=>⟨_,4,rfl,rfl,?_⟩⟩;dsimp only;generalize hn:r - 4=n;have n0: -4≤n:=by lia
   have n1:n<8:=by lia
   refine⟨_,rfl,_,rfl,10,30,rfl,rfl,⟨by decide,by decide,by decide⟩,_,20,rfl,rfl,1,rfl,(show 2≤sizeLine by decide),fun p hp=>⟨_,rfl,n,2,rfl,rfl,(show(0:Int)<2 by decide),?_⟩⟩;have s3:=au.upd (o:= .lst [V.int 1,V.int (-1)]) hp;refine AR (fun v=>v= .int 1∨v= .int (-1)) ae (Int.emod_nonneg _ (by decide)) (Int.emod_lt_of_pos _ (by decide)) (by simp) fun v hv=> ?_
   have fin:∀(i:Int),i.natAbs<10 ^ 40→∀(H3:Hp),au (upd H2 p (.lst [V.int 1,V.int (-1)])) H3→∀(p2:Addr) (xs:az),H3 p2=some (.lst [.bH,.int n,.int n,.bH,.int i])→Pn K (.ref p2) (.int way) H3 D.rt:=fun i hi H3 s p2 xs h2=>by
    refine AR (fun v=>v= .bH∨∃i:Int,v= .int i∧i.natAbs<10 ^ 40) h2 w0 (by show way<((5:Nat):Int);lia) ?_ fun v hv=>q v _ hv ((B2.same s3).same s) ((O2.kept.trans s3.kept).trans s.kept);have hnn:n.natAbs<10 ^ 40:=Nat.lt_of_le_of_lt (show n.natAbs≤8 by lia) (by decide+kernel);intro x hx;simp only[List.mem_cons,List.not_mem_nil,or_false] at hx;rcases hx with rfl|rfl|rfl|rfl|rfl
    ·exact .inl rfl
    ·exact .inr ⟨n,rfl,hnn⟩
    ·exact .inr ⟨n,rfl,hnn⟩
    ·exact .inl rfl
    ·exact .inr ⟨i,rfl,hi⟩
   have big:(10:Int) ^ (30:Int).toNat - 20=999999999999999999999999999980:=by decide+kernel
   rcases hv with rfl|rfl
   ·refine⟨_,1,rfl,rfl,.inr ⟨by decide,by decide⟩,_,rfl,_,_,rfl,rfl,(show 5≤sizeLine by decide),fun p2 w_=>⟨_,rfl,?_⟩⟩;refine fin _ ?_ _ (au.upd w_) p2 [] ae;rw[big];have:(10:Nat) ^ 40=10000000000000000000000000000000000000000:=by decide+kernel
    rw[this]
    lia
   ·refine⟨_, -1,rfl,rfl,.inr ⟨by decide,by decide⟩,_,rfl,_,_,rfl,rfl,(show 5≤sizeLine by decide),fun p2 w_=>⟨_,rfl,?_⟩⟩;refine fin _ ?_ _ (au.upd w_) p2 [] ae;rw[big];have:(10:Nat) ^ 40=10000000000000000000000000000000000000000:=by decide+kernel
    rw[this]
    lia
  refine⟨_,rfl,b,5,k,rfl,B,by lia,by decide,by decide,fun way H1 w0 w1 B1 O1=> ?_⟩;have M1:aP H1 m ps ts L top R ws ms cs:=M.kept fun c o hc e=>O1.kept c o (fun z=>nb (z▸hc)) e;have rest:∀(H2:Hp) (x3:Option V),au H1 H2→aaA b H {nx:=fun _ H' =>Q .bH H',rt:=Q} [some (.ref b),some (.ref m.d),some (.int way),x3] H2:=fun H2 x3 s=>⟨k+1,way,_,_,rfl,w0,w1,B1.same s,by lia,fun v H' hv B' K' =>q v H' (hv.imp id .inl) (B'.mono (by lia)) ((O1.kept.trans s.kept).trans K')⟩;refine⟨_,rfl,way,3,rfl,rfl,_,rfl,?_⟩;refine yv (fun _=> ?_) (fun _=>rest H1 _ (au.refl H1));refine⟨_,rfl,m.d,_,rfl,M1.zh,(show 0≤sizeLine by decide),fun e0 GN=> ?_⟩;have s2:=au.upd (o:= .lst []) GN;have M2:=M1.same s2
  have hI:∀i∈List.range ws.length,i<R.length:=fun i hi=>by
   have:=List.mem_range.mp hi;rw[M.iu] at this;exact this
  have D2:=Dm M2 hI;rw[←LW] at D2;refine⟨_,_,.lst M2.wl D2,.lst ae .nil,CB _,Ey,KG _,_,rfl,?_⟩;rw[Hh];by_cases hw:ws=[]
  ·have:((Qm R (List.range ws.length)).map fun x=>gQ x.1 x.2).isEmpty=true:=by rw[hw];rfl
   rw[this];exact rest _ _ s2
  ·have:((Qm R (List.range ws.length)).map fun x=>gQ x.1 x.2).isEmpty=false:=by
    unfold Qm;rw[List.isEmpty_eq_false_iff];intro z;have z:=List.map_eq_nil_iff.mp (List.map_eq_nil_iff.mp z);have hz:(List.range ws.length).length=0:=by rw[z];rfl
    rw[List.length_range] at hz;exact hw (List.length_eq_zero_iff.mp hz)
   rw[this];refine kj ?_;have B2:=B1.same s2;have lb:m.wl≠b:=fun z=>nb (z▸M.sW.2.2.2.1);refine⟨_,rfl,_,rfl,m.d,_,rfl,M2.zh,b,m.wl,k+1,ws.map V.ref,rfl,B2,by lia,M2.wl,lb,(fun z=>hw (List.map_eq_nil_iff.mp z)),(by rw[List.length_map,M.iu];exact hR),fun v H3 hv B3 K3=> ?_⟩;obtain⟨t,ht,rfl⟩:=List.mem_map.mp hv;obtain⟨i,hi,rfl⟩:=List.mem_iff_getElem.mp ht;refine q _ H3 (.inr (.inr ⟨i,by rw[←M.iu];exact hi,?_⟩)) (B3.mono (by lia)) ((O1.kept.trans s2.kept).trans K3);rw[List.getD_eq_getElem?_getD,List.getElem?_eq_getElem hi];rfl
end
theorem WF.begun{ps ts:aO}(W:WF ps ts){t:Nat}(ht:t<ps.length)(hle:ps.length≤100):WF (ps++[some t]) (ts++[none]):=by
 have hl:=W.len;refine⟨by simp[hl],by simp,by simp;lia,?_,fun i h0 hi=> ?_,fun i j e=> ?_⟩
 ·rw[List.getElem?_append_left W.pos];exact W.root
 ·by_cases hi2:i<ps.length
  ·rw[List.getElem?_append_left hi2];exact W.par i h0 hi2
  ·have e:i=ps.length:=by simp at hi;lia
   subst e;exact⟨t,by simp,ht⟩
 ·rw[List.length_append];by_cases hi2:i<ts.length
  ·rw[List.getElem?_append_left hi2] at e;have:=W.tk i j e
   lia
  ·rw[List.getElem?_append_right (by lia)] at e
   cases q:i - ts.length with
   |zero=>rw[q] at e;cases e
   |succ m=>rw[q] at e;simp at e
theorem wX(t:Nat):∀(E:List Nat) (ts:aO) (i:Nat),(xz t E ts)[i]? =ts[i]?∨(i∈E∧(xz t E ts)[i]? =some (some t))
 |[],ts,i=> .inl rfl
 |n::r,ts,i=>by
  rcases wX t r (ts.set n (some t)) i with h|⟨h1,h2⟩
  ·by_cases e:n=i
   ·subst e;by_cases hn:n<ts.length
    ·exact .inr ⟨List.mem_cons_self,by show(xz t r (ts.set n (some t)))[n]? =_;rw[h,List.getElem?_set_self hn]⟩
    ·refine .inl ?_;show(xz t r (ts.set n (some t)))[n]? =_;rw[h,List.getElem?_eq_none (by rw[List.length_set];lia),List.getElem?_eq_none (by lia)]
   ·refine .inl ?_;show(xz t r (ts.set n (some t)))[i]? =_;rw[h,List.getElem?_set_ne e]
  ·exact .inr ⟨List.mem_cons_of_mem _ h1,h2⟩
theorem WF.ended{ps ts:aO}(W:WF ps ts){t:Nat}(ht:t<ps.length)(E:List Nat):WF ps (xz t E ts):=by
 refine⟨by rw[qh];exact W.len,W.pos,W.le,W.root,W.par,fun i j e=> ?_⟩;rcases wX t E ts i with h|⟨_,h⟩
 ·rw[h] at e;exact W.tk i j e
 ·rw[h] at e;cases e;exact ht
theorem MQ{ps ts:aO}(W:WF ps ts){t:Nat}(h:t≠0):¬0∈iX ps ts t:=fun hm=>by
 have h1:=(List.mem_filter.mp hm).2;have h1:=of_decide_eq_true h1
 have e:lT ps 0=[0]:=by
  show(Bm ps 0 0).reverse=[0];rfl
 rw[e] at h1;simp at h1;exact h h1
structure Fits(B k:Nat)(d:PyData):Prop where
 sh:d.showable=true
 dp:d.depth≤k
 ln:d.shown.length≤B
theorem Fits.mono{B B' k k' :Nat}{d:PyData}(g:Fits B k d)(h:B≤B')(h' :k≤k'):Fits B' k' d:=⟨g.sh,Nat.le_trans g.dp h',Nat.le_trans g.ln h⟩
theorem xT{B k:Nat}:∀{ds:List PyData},(∀d∈ds,Fits B k d)→PyData.showableAll ds=true∧PyData.depthAll ds≤k∧((PyData.shownAll ds).map (·.length)).sum≤B*ds.length∧(PyData.shownAll ds).length=ds.length
 |[],_=>by simp[PyData.showableAll,PyData.depthAll,PyData.shownAll]
 |d::r,h=>by
  obtain⟨h1,h2,h3,h4⟩:=xT (ds:=r) fun x hx=>h x (List.mem_cons_of_mem _ hx);have g:=h d List.mem_cons_self;have gl:=g.ln;refine⟨?_,?_,?_,?_⟩
  ·simp only[PyData.showableAll,g.sh,h1,Bool.and_self]
  ·simp only[PyData.depthAll];exact Nat.max_le.mpr ⟨g.dp,h2⟩
  ·simp only[PyData.shownAll,List.map_cons,List.sum_cons,List.length_cons,Nat.mul_add,Nat.mul_one]
   lia
  ·simp only[PyData.shownAll,List.length_cons,h4]
theorem Fits.list{B k:Nat}{ds:List PyData}(h:∀d∈ds,Fits B k d):Fits (B*ds.length+2*ds.length+3) (k+1) (.list ds):=by
 obtain⟨h1,h2,h3,h4⟩:=xT h;refine⟨?_,?_,?_⟩
 ·simp only[PyData.showable,h1]
 ·simp only[PyData.depth]
  lia
 ·simp only[PyData.shown];have:=listText_len_le (PyData.shownAll ds);rw[h4] at this
  lia
theorem jB{n:Nat}(h:n≤1000):Fits 5 1 (.int n):=by
 refine⟨?_,?_,?_⟩
 ·simp only[PyData.showable];exact decide_eq_true (Hm h)
 ·simp[PyData.depth]
 ·simp only[PyData.shown];rw[PySem.ofString_length];exact PySem.int_text_length_le10 (k:=4) (by decide) (by rw[Int.natAbs_natCast];lia)
theorem Fits.tup{B k:Nat}{ds:List PyData}(h:∀d∈ds,Fits B k d):Fits (B*ds.length+2*ds.length+3) (k+1) (.tuple ds):=by
 obtain⟨h1,h2,h3,h4⟩:=xT h;refine⟨?_,?_,?_⟩
 ·simp only[PyData.showable,h1]
 ·simp only[PyData.depth]
  lia
 ·simp only[PyData.shown];have:=tupleText_len_le (PyData.shownAll ds);rw[h4] at this
  lia
theorem Fits.rep{B k:Nat}{d:PyData}(g:Fits B k d)(hB:B≤100000)(hk:k≤90):d.showable=true∧d.depth≤90∧d.shown.length≤sizeLine:=⟨g.sh,Nat.le_trans g.dp hk,Nat.le_trans g.ln (Nat.le_of_lt (bX hB))⟩
theorem abv{n p:Nat}(h1:n≤1000)(h2:p≤1000):Fits 100 3 (.tuple [.int n,.int p]):=by
 refine(Fits.tup (B:=5) (k:=1) fun d hd=> ?_).mono (by show 5*2+2*2+3≤100;decide) (by decide);simp only[List.mem_cons,List.not_mem_nil,or_false] at hd;rcases hd with rfl|rfl
 ·exact jB h1
 ·exact jB h2
theorem uk{i:Int}(h:i.natAbs<10 ^ 40):Fits 100 3 (.int i):=by
 refine⟨?_,?_,?_⟩
 ·simp only[PyData.showable];refine decide_eq_true ?_;by_cases h0:i.natAbs=0
  ·rw[h0];decide
  ·refine(Nat.log2_lt h0).mpr (Nat.lt_trans h ?_);decide+kernel
 ·simp[PyData.depth]
 ·simp only[PyData.shown];rw[PySem.ofString_length];exact Nat.le_trans (PySem.int_text_length_le10 (k:=40) (by decide) h) (by decide)
theorem Aa:Fits 100 3 .none:=by
 refine⟨?_,?_,?_⟩
 ·simp only[PyData.showable]
 ·simp[PyData.depth]
 ·simp only[PyData.shown];decide+kernel
theorem MT{f p:Nat}(h1:f≤100000)(h2:p≤100000):Fits 1000 4 (gQ f p):=by
 have h:∀n:Nat,n≤100000→Fits 100 3 (.int (n:Int)):=fun n hn=>uk (Nat.lt_of_le_of_lt (show(n:Int).natAbs≤100000 by rw[Int.natAbs_natCast];exact hn) (by decide+kernel));refine(Fits.tup (B:=100) (k:=3) fun d hd=> ?_).mono (by show 100*2+2*2+3≤1000;decide) (by decide);simp only[List.mem_cons,List.not_mem_nil,or_false] at hd;rcases hd with rfl|rfl
 ·exact h f h1
 ·exact h p h2
structure nk(C:Addr)(H:Hp)(a:HA)(m:MA)(ps ts:aO)(L pk:Nat)(R:Rm)(N:Nat)(rs ws ms:aY)(cs:dM):Prop where
 h:aF C H a ps ts L pk R N rs cs
 mo:aP H m ps ts L pk R ws ms cs
 G:Good ps ts L pk R
 ok:Br R ws cs
 ap:∀c∈a.own,¬c∈m.own
section
variable{C:Addr}{H H' H4 H5 H6:Hp}{a:HA}{m:MA}{ps ts:aO}{L pk:Nat}{R:Rm}{N:Nat}{rs ws ms:aY}{cs:dM}{t:Nat}
theorem nk.same(t:nk C H a m ps ts L pk R N rs ws ms cs)(s:au H H'):nk C H' a m ps ts L pk R N rs ws ms cs:=⟨t.h.same s,t.mo.same s,t.G,t.ok,t.ap⟩
theorem nk.kept(t:nk C H a m ps ts L pk R N rs ws ms cs)(k:∀c o,c∈a.own∨c∈m.own→H c=some o→H' c=some o):nk C H' a m ps ts L pk R N rs ws ms cs:=⟨t.h.kept fun c o hc e=>k c o (.inl hc) e,t.mo.kept fun c o hc e=>k c o (.inr hc) e,t.G,t.ok,t.ap⟩
theorem nk.r1(t:nk C H a m ps ts L pk R N rs ws ms cs):∀r∈R,1≤r.2:=fun r hr=>(t.G.rw r hr).1
theorem nk.rt(t:nk C H a m ps ts L pk R N rs ws ms cs):∀r∈R,r.1<ts.length:=fun r hr=>by
 have:=(t.G.rw r hr).2.2;have:=t.G.W.len
 lia
theorem nk.BY(t:nk C H a m ps ts L pk R N rs ws ms cs){i:Nat}(hi:i<R.length)(st:ts[(R.getD i (0,0)).1]? =some none):pw H ts R i (ws.getD i 0):=⟨hi,st,(t.mo.way i hi).2⟩
theorem nk.valAt(t:nk C H a m ps ts L pk R N rs ws ms cs){v:V}(h:QA ws R.length v):Dz H R v:=by
 rcases h with h|⟨i,h,_⟩|⟨i,hi,h⟩
 ·exact .inl h
 ·exact .inr (.inl ⟨i,h⟩)
 ·exact .inr (.inr ⟨i,_,h,hi,(t.mo.way i hi).2⟩)
theorem Dv(R:Rm)(h:∀r∈R,r.2≤6)(i:Nat):aT R i≤6*R.length:=by
 unfold aT;refine Nat.le_trans (Ga (R:=R.take i) (fun r hr=>h r (List.mem_of_mem_take hr)) _) ?_;rw[List.length_take]
 lia
theorem nk.dat(t:nk C H a m ps ts L pk R N rs ws ms cs)(hR:R.length≤1000):∀{xs:az},(∀v∈xs,QA ws R.length v)→∃ds,ds.length=xs.length∧DatAll H xs ds∧∀d∈ds,Fits 1000 4 d
 |[],_=>⟨[],rfl,.nil,fun d hd=>by cases hd⟩
 |v::xs,h=>by
  obtain⟨ds,h1,h2,h3⟩:=nk.dat t hR (xs:=xs) fun u hu=>h u (List.mem_cons_of_mem _ hu)
  have hv:∃d,Dat H v d∧Fits 1000 4 d:=by
   rcases h v List.mem_cons_self with rfl|⟨i,rfl,hi⟩|⟨i,hi,rfl⟩
   ·exact⟨.none,.bH,Aa.mono (by decide) (by decide)⟩
   ·exact⟨.int i,.int i,(uk hi).mono (by decide) (by decide)⟩
   ·refine⟨_,.tup (t.mo.way i hi).2 (.cons (.int _) (.cons (.int _) .nil)),MT ?_ ?_⟩
    ·have:=t.rt _ (wv hi);have:=t.G.ts
     lia
    ·have:=Dv R (fun r hr=>(t.G.rw r hr).2.1) i
     lia
  obtain⟨d,d1,d2⟩:=hv;refine⟨d::ds,by rw[List.length_cons,List.length_cons,h1],.cons d1 h2,fun e he=> ?_⟩;rcases List.mem_cons.mp he with rfl|he
  ·exact d2
  ·exact h3 e he
theorem Br.put{i k:Nat}{xs:az}{v:V}(c:Br R ws cs)(hc:cs[i]? =some xs)(hv:QA ws R.length v):Br R ws (cs.set i (xs.set k v)):=by
 refine⟨by rw[List.length_set];exact c.cl,fun j vs e=> ?_,fun j vs e u hu=> ?_⟩
 ·rw[wk hc] at e;by_cases z:i=j
  ·rw[if_pos z] at e;cases e;subst z;rw[List.length_set];exact c.cz i xs hc
  ·rw[if_neg z] at e;exact c.cz j vs e
 ·rw[wk hc] at e;by_cases z:i=j
  ·rw[if_pos z] at e;cases e;rcases List.mem_or_eq_of_mem_set hu with h|rfl
   ·exact c.vo i xs hc u h
   ·exact hv
  ·rw[if_neg z] at e;exact c.vo j vs e u hu
theorem Br.snoc{t n:Nat}{wt:Addr}(c:Br R ws cs)(hw:ws.length=R.length):Br (R++[(t,n)]) (ws++[wt]) (cs++[List.replicate n .bH]):=by
 have up:∀{v:V},QA ws R.length v→QA (ws++[wt]) (R++[(t,n)]).length v:=fun h=>by
  rcases h with h|h|⟨i,hi,h⟩
  ·exact .inl h
  ·exact .inr (.inl h)
  ·exact .inr (.inr ⟨i,by rw[List.length_append];lia,by rw[iI (by lia)];exact h⟩)
 refine⟨by rw[List.length_append,List.length_append,c.cl];rfl,fun j vs e=> ?_,fun j vs e u hu=> ?_⟩
 ·by_cases hj:j<cs.length
  ·rw[List.getElem?_append_left hj] at e;rw[iI (by rw[←c.cl];exact hj)];exact c.cz j vs e
  ·have yl :=(List.getElem?_eq_some_iff.mp e).1;rw[List.length_append] at yl;have hj:j=cs.length:=by simp at yl;lia
   subst hj;rw[List.getElem?_append_right (Nat.le_refl _),Nat.sub_self] at e;cases e;rw[c.cl,wP];exact List.length_replicate
 ·by_cases hj:j<cs.length
  ·rw[List.getElem?_append_left hj] at e;exact up (c.vo j vs e u hu)
  ·have yl :=(List.getElem?_eq_some_iff.mp e).1;rw[List.length_append] at yl;have hj:j=cs.length:=by simp at yl;lia
   subst hj;rw[List.getElem?_append_right (Nat.le_refl _),Nat.sub_self] at e;cases e;exact .inl (List.eq_of_mem_replicate hu)
theorem nk.finish(Z:nk C H4 a m ps ts L pk R N rs ws ms cs)(h0:t≠0)(ht:t<ps.length)(F5:ke C H5 a.f a.pa a.ta ps (xz t (iX ps ts t) ts))(K5:jC a.pa a.ta H4 H5)
 (M6:fW H6 m.d m.ha m.tk ps (xz t (iX ps ts t) ts)) (K6:jC m.ha m.tk H5 H6):nk C H6 a m ps (xz t (iX ps ts t) ts) L pk R N rs ws ms cs∧∀c o,¬c∈a.own→¬c∈m.own→H4 c=some o→H6 c=some o:=by
 obtain⟨o1,o2,o3,o4,o5⟩:=Z.h.sW;obtain⟨q1,q2,q3,q4,q5⟩:=Z.mo.sW;have h5:=Z.h.frames F5 K5;have m5:aP H5 m ps ts L pk R ws ms cs:=Z.mo.kept fun c o hc e=>K5 c o (fun z=>Z.ap _ o2 (z▸hc)) (fun z=>Z.ap _ o3 (z▸hc)) e;have h6:aF C H6 a ps (xz t (iX ps ts t) ts) L pk R N rs cs:=h5.kept fun c o hc e=>K6 c o (fun z=>Z.ap c hc (z▸q2)) (fun z=>Z.ap c hc (z▸q3)) e;refine⟨⟨h6,m5.frames M6 K6,⟨Z.G.W.ended ht (iX ps ts t),?_,Z.G.rw,Z.G.lo,Z.G.hi,Nat.le_trans (AQ _ _ _ _) Z.G.use,Z.G.pk⟩,Z.ok,Z.ap⟩,fun c o h1 h2 e=>K6 c o (fun z=>h2 (z▸q2)) (fun z=>h2 (z▸q3)) (K5 c o (fun z=>h1 (z▸o2)) (fun z=>h1 (z▸o3)) e)⟩;rcases wX t (iX ps ts t) ts 0 with h|⟨h,_⟩
 ·rw[h];exact Z.G.g
 ·exact absurd h (MQ Z.G.W h0)
theorem nk.begin(Z:nk C H4 a m ps ts L pk R N rs ws ms cs)(ht:t<ps.length)(Ot:ps.length≤100)(F5:ke C H5 a.f a.pa a.ta (ps++[some t]) (ts++[none]))(K5:jC a.pa a.ta H4 H5)
 (M6:fW H6 m.d m.ha m.tk (ps++[some t]) (ts++[none])) (K6:jC m.ha m.tk H5 H6):nk C H6 a m (ps++[some t]) (ts++[none]) L pk R N rs ws ms cs∧∀c o,¬c∈a.own→¬c∈m.own→H4 c=some o→H6 c=some o:=by
 obtain⟨o1,o2,o3,o4,o5⟩:=Z.h.sW;obtain⟨q1,q2,q3,q4,q5⟩:=Z.mo.sW;have h5:=Z.h.frames F5 K5;have m5:aP H5 m ps ts L pk R ws ms cs:=Z.mo.kept fun c o hc e=>K5 c o (fun z=>Z.ap _ o2 (z▸hc)) (fun z=>Z.ap _ o3 (z▸hc)) e;have h6:aF C H6 a (ps++[some t]) (ts++[none]) L pk R N rs cs:=h5.kept fun c o hc e=>K6 c o (fun z=>Z.ap c hc (z▸q2)) (fun z=>Z.ap c hc (z▸q3)) e;have hW:=Z.G.W.len;have Az:=Z.G.W.pos;refine⟨⟨h6,m5.frames M6 K6,⟨Z.G.W.begun ht Ot,?_,fun r hr=> ?_,Z.G.lo,Z.G.hi,?_,Z.G.pk⟩,Z.ok,Z.ap⟩,fun c o h1 h2 e=>K6 c o (fun z=>h2 (z▸q2)) (fun z=>h2 (z▸q3)) (K5 c o (fun z=>h1 (z▸o2)) (fun z=>h1 (z▸o3)) e)⟩
 ·rw[List.getElem?_append_left (by lia)];exact Z.G.g
 ·obtain⟨r1,r2,r3⟩:=Z.G.rw r hr;refine⟨r1,r2,?_⟩;rw[List.length_append]
  lia
 ·rw[Cd ts fun r hr=>by have:=(Z.G.rw r hr).2.2;lia];exact Z.G.use
end
section
variable{P:Program}{w:World}{K:Frag}{mg:Str→aH}{base:Heap}{A:pH}
def JT:Sp:=fun vs H Q _=>∃L:Nat,vs=[.int L]∧∀m H',(∀c∈m.own,H c=none)→aP H' m [none] [none] L 0 [] [] [] []→au H H'→Q (.ref m.d) H'
theorem yG(T:Txt K mg A):aV P w K mg base eI 1 A.oZ A.nM ["_law_limit"] JT:=by
 refine T.ko.ok y_ (fun vs H Q E h=> ?_) (fun cF Ar outer s H vs Q E hr h=> ?_)
 ·obtain⟨L,rfl,_⟩:=h;rfl
 ·obtain⟨L,rfl,k⟩:=h;refine⟨_,(aq (aG (Pm (mJ aS (bN (aa cW ah)) (mJ aS (bN (aa cW ah)) (mJ aS (pv 0) (mJ aS ax (mJ aS (bN ah) (mJ aS Jz PJ)))))) rfl rfl (by simp) (by decide)))),?_⟩;intro d hd;have s0:=au.upd (o:= .dK []) hd;refine⟨(show 1≤sizeLine by decide),fun ha hha=>⟨(show 1≤sizeLine by decide),fun tk VS=>⟨_,rfl,(show 0≤sizeLine by decide),fun wl wg=>fun ca Qq=> ?_⟩⟩⟩;have s1:=au.upd (o:= .lst [.bH]) hha;have s2:=au.upd (o:= .lst [.bH]) VS;have s3:=au.upd (o:= .lst []) wg;have s4:=au.upd (o:= .dT []) Qq;have d0:upd H d (.dK []) d=some (.dK []):=ae;have h1:upd (upd H d (.dK [])) ha (.lst [.bH]) ha=some (.lst [.bH]):=ae;have h2:upd (upd (upd H d (.dK [])) ha (.lst [.bH])) tk (.lst [.bH]) tk=some (.lst [.bH]):=ae;have h3:upd (upd (upd (upd H d (.dK [])) ha (.lst [.bH])) tk (.lst [.bH])) wl (.lst []) wl=some (.lst []):=ae;have nd1:ha≠d:=(ag d0 hha).symm;have nd2:tk≠d:=(ag (s1 _ _ d0) VS).symm;have nd3:wl≠d:=(ag (s2 _ _ (s1 _ _ d0)) wg).symm;have nd4:ca≠d:=(ag (s3 _ _ (s2 _ _ (s1 _ _ d0))) Qq).symm;have n12:ha≠tk:=ag h1 VS;have n13:wl≠ha:=(ag (s2 _ _ h1) wg).symm;have n23:wl≠tk:=(ag h2 wg).symm;refine⟨s4 _ _ (s3 _ _ (s2 _ _ (s1 _ _ d0))),[(kH,.ref ha),(kT,.ref tk),(kL,.int L),(kP,.int 0),(kW,.ref wl),(kC,.ref ca)],(by kernel_rfl),by show 6≤15;decide,?_⟩;have em:mH [] [(kH,V.ref ha),(kT,.ref tk),(kL,.int L),(kP,.int 0),(kW,.ref wl),(kC,.ref ca)]=qX ha tk ⟨.int L,.int 0,.ref wl,.ref ca⟩:=by kernel_rfl
  rw[em]
  have nf:∀{c:Addr},c≠d→∀{o},upd (upd (upd (upd (upd H d (.dK [])) ha (.lst [.bH])) tk (.lst [.bH])) wl (.lst [])) ca (.dT []) c=some o→upd (upd (upd (upd (upd (upd H d (.dK [])) ha (.lst [.bH])) tk (.lst [.bH])) wl (.lst [])) ca (.dT [])) d (.dK (qX ha tk ⟨.int L,.int 0,.ref wl,.ref ca⟩)) c=some o:=fun h _ e=>by
   rw[af h];exact e
  refine k ⟨d,ha,tk,wl,ca,[d,ha,tk,wl,ca]⟩ _ ?_ ⟨ae,nf nd1 (s4 _ _ (s3 _ _ (s2 _ _ h1))),nf nd2 (s4 _ _ (s3 _ _ h2)),n12,nf nd3 (s4 _ _ h3),rfl,(fun i hi=>absurd hi (Nat.not_lt_zero _)),⟨[],nf nd4 ae,Nat.le_refl _,(fun i hi=>absurd hi (Nat.not_lt_zero _))⟩,⟨n13,n23⟩,rfl,(fun i b e=>by cases e),.nil,(by simp),fun c hc=> ?_⟩ fun c o e=> ?_
  ·intro c hc;simp only[List.mem_cons,List.not_mem_nil,or_false] at hc;rcases hc with rfl|rfl|rfl|rfl|rfl
   ·exact hd
   ·exact s0.free hha
   ·exact s0.free (s1.free VS)
   ·exact s0.free (s1.free (s2.free wg))
   ·exact s0.free (s1.free (s2.free (s3.free Qq)))
  ·simp only[List.mem_cons,List.not_mem_nil,or_false] at hc;rcases hc with rfl|rfl|rfl|rfl|rfl
   ·exact⟨_,ae⟩
   ·exact⟨_,nf nd1 (s4 _ _ (s3 _ _ (s2 _ _ h1)))⟩
   ·exact⟨_,nf nd2 (s4 _ _ (s3 _ _ h2))⟩
   ·exact⟨_,nf nd3 (s4 _ _ h3)⟩
   ·exact⟨_,nf nd4 ae⟩
  ·exact nf (ag e hd) (s4 _ _ (s3 _ _ (s2 _ _ (s1 _ _ (s0 _ _ e)))))
end
theorem xP{J:It}{n k:Nat}{js:List Nat}{Y:Nat→V→Hp→Prop}{g:TG}{te:TE}{σ:L2.St}{H:Hp}{Q:VK}(E:Nat→V→(Addr→Prop)→Hp→Prop)(F:qd J H n Y)(hlen:n≤sizeLine)
 (fE:∀i v M H1 H2,(∀c o,M c→H1 c=some o→H2 c=some o)→E i v M H1→E i v M H2) (hal:∀i v M H1,E i v M H1→∀c,M c→∃o,H1 c=some o)
 (kU:∀(i:Nat) (x:V) (H' :Hp) (C1:V→Hp→Prop),i<n→au H H'→Y i x H'→(∀v lC M,au H' lC→(∀c,M c→H' c=none)→E i v M lC→C1 v lC)→
  g x (vN k js σ) H' fun oB H2=>gw (vN k js σ) oB∧te oB H2 C1)
 (hq:∀p H' ys (M:Nat→Addr→Prop),H p=none→au H H'→H' p=some (.lst ys)→ys.length=n→(∀i v,ys[i]? =some v→E i v (M i) H'∧∀c,M i c→c≠p∧H c=none)→(∀i j,i<j→j<n→∀c,M i c→¬M j c)→Q (.ref p) H'):
 mU J k js g WG te σ H Q:=by
 intro p hp
 refine⟨fun i m ys H' =>m=n - i∧i≤n∧ys.length=i∧H' p=some (.lst ys)∧au H H'∧∃M:Nat→Addr→Prop,(∀j v,ys[j]? =some v→E j v (M j) H'∧∀c,M j c→c≠p∧H c=none)∧∀j1 j2,j1<j2→j2<i→∀c,M j1 c→¬M j2 c,
  ⟨n,rfl,Nat.zero_le _,rfl,ae,au.upd hp,fun _ _=>False,fun j v e=>by simp at e,fun j1 j2 _ h=>by lia⟩,?_⟩
 rintro i m ys H' ⟨rfl,hi,rM,hl,hs,M,hE,hM⟩
 refine⟨hl,?_⟩;by_cases eO:i<n
 ·refine .inr ⟨F.go i _ hs eO,by lia,fun x lC hy=> ?_⟩;obtain⟨s1,y1⟩:=F.wy i _ x lC hs eO hy;refine kU i x lC (fun v H4=>H4 p=some (.lst ys)∧∃m',m' <n - i∧(m' =n - (i+1)∧i+1≤n∧(ys++[v]).length=i+1∧upd H4 p (.lst (ys++[v])) p=some (.lst (ys++[v]))∧au H (upd H4 p (.lst (ys++[v])))∧∃M:Nat→Addr→Prop,(∀j v',(ys++[v])[j]? =some v'→E j v' (M j) (upd H4 p (.lst (ys++[v])))∧∀c,M j c→c≠p∧H c=none)∧∀j1 j2,j1<j2→j2<i+1→∀c,M j1 c→¬M j2 c)) eO (hs.trans s1) y1 ?_;intro v H4 M4 s4 f4 e4;have hp4:H4 p=some (.lst ys):=s4 _ _ (s1 _ _ hl)
  have np:∀c,lC c=none→c≠p:=fun c z z' =>by
   rw[z',s1 _ _ hl] at z;cases z
  refine⟨hp4,n - (i+1),by lia,rfl,eO,by simp[rM],ae,fun c o e=> ?_,fun j=>if j=i then M4 else M j,fun j v' e=> ?_,fun j1 j2 h12 h2 c=> ?_⟩
  ·rw[af (ag e hp)];exact s4 _ _ (s1 _ _ (hs _ _ e))
  ·by_cases hj:j<ys.length
   ·rw[List.getElem?_append_left hj] at e;obtain⟨h1,h2⟩:=hE j v' e;dsimp only;rw[if_neg (by lia)];refine⟨fE _ _ _ _ _ (fun c o z q=> ?_) h1,h2⟩;rw[af (h2 c z).1];exact s4 _ _ (s1 _ _ q)
   ·rw[List.getElem?_append_right (by lia)] at e
    have R9:j - ys.length=0:=by
     have:=(List.getElem?_eq_some_iff.mp e).1;simp at this
     lia
    rw[R9] at e;cases e;have:j=i:=by lia
    subst this;dsimp only;rw[if_pos rfl];refine⟨fE _ _ _ _ _ (fun c o z q=> ?_) e4,fun c z=>⟨np c (f4 c z),(hs.trans s1).free (f4 c z)⟩⟩;rw[af (np c (f4 c z))];exact q
  ·dsimp only;by_cases z2:j2=i
   ·rw[if_neg (by lia),if_pos z2];intro h1 h4;have S8:∃v1,ys[j1]? =some v1:=⟨ys[j1],by simp⟩;obtain⟨v1,e1⟩:=S8;obtain⟨o,eo⟩:=hal _ _ _ _ (hE j1 v1 e1).1 c h1;have:=s1 _ _ eo;rw[f4 c h4] at this;cases this
   ·rw[if_neg (by lia),if_neg z2];exact hM j1 j2 h12 (by lia) c
 ·have e:i=n:=by lia
  subst e;exact .inl ⟨F.stop _ _ hs (Nat.le_refl _),hq p H' ys M hp hs hl rM hE hM⟩
theorem zU(R:Rm)(n:Nat):(bV R n).Nodup:=List.Pairwise.filter _ List.nodup_range
def gK(R:Rm)(g:Nat→Addr)(n:Nat):bJ:=(bV R n).map fun i=>(Sum.inl (aT R i:Int),V.ref (g i))
theorem xf{α:Type}(f:α→wp)(h:α→V):∀(l:List α) (acc:bJ),(l.map f).Nodup→(∀x∈l,bz acc (f x)=none)→mH acc (l.map fun x=>(f x,h x))=acc++l.map fun x=>(f x,h x)
 |[],acc,_,_=>by
  show acc=acc++[];rw[List.append_nil]
 |x::r,acc,hn,hv=>by
  rw[List.map_cons,List.nodup_cons] at hn;have e:=tF (h x) (hv x (.head _))
  have hh:=xf f h r (v4 acc (f x) (h x)) hn.2 fun y hy=>by
   rw[fL,if_neg (show ¬f y=f x from fun z=>hn.1 (by rw[←z];exact List.mem_map_of_mem hy))];exact hv y (.tail _ hy)
  show mH (v4 acc (f x) (h x)) (r.map fun x=>(f x,h x))=_;rw[hh,e,List.append_assoc];rfl
theorem Dw{R:Rm}(hr:∀r∈R,1≤r.2)(g:Nat→Addr)(n:Nat):mH [] (gK R g n)=gK R g n:=by
 refine(xf (fun i=>(Sum.inl (aT R i:Int):wp)) (fun i=>V.ref (g i)) (bV R n) [] ?_ fun x _=>rfl).trans (List.nil_append _);refine List.pairwise_map.mpr (List.Pairwise.imp_of_mem (fun{a b} ha hb jA z=>jA (mL hr ha hb ?_)) (zU R n));have:(aT R a:Int)=aT R b:=Sum.inl.inj z
 lia
structure TwI(H4 H' :Hp)(fa:Addr)(R:Rm)(cs:dM)(S:Nat→Prop)(kv:bJ)(g:Nat→Addr):Prop where
 fl:H' fa=some (.dK kv)
 ok:A0 kv
 on:∀n,S n→∃d,bz kv (.inl (n:Int))=some (.ref d)∧H4 d=none∧H' d=some (.dK (gK R g n))
 off:∀n,¬S n→bz kv (.inl (n:Int))=none
 inj:∀(n n' :Nat) d,bz kv (.inl (n:Int))=some (.ref d)→bz kv (.inl (n' :Int))=some (.ref d)→n=n'
 rm:∀n,S n→∀m∈bV R n,H4 (g m)=none∧∃vs,cs[m]? =some vs∧H' (g m)=some (.lst vs)
 gi:∀n n',S n→S n'→∀m∈bV R n,∀m'∈bV R n',g m=g m'→m=m'
theorem Hr{kv:bJ}(h:A0 kv){t:Nat}{b:Addr}:A0 (v4 kv (.inl (t:Int)) (.ref b)):=by
 have aa6:bz (v4 kv (.inl (t:Int)) (.ref b)) (.inl (t:Int))=some (.ref b):=by rw[fL,if_pos rfl]
 have old:∀p∈kv,p∈v4 kv (.inl (t:Int)) (.ref b)→¬p.1= .inl (t:Int)→∃(n:Nat) (c:Addr),p=(.inl (n:Int),.ref c)∧bz (v4 kv (.inl (t:Int)) (.ref b)) (.inl (n:Int))=some (.ref c):=fun p hp _ jA=>by
  obtain⟨n,c,e1,e2⟩:=h p hp;refine⟨n,c,e1,?_⟩;rw[fL,if_neg (fun z=>jA (by rw[e1];exact z))];exact e2
 intro p hp;have hp' :=hp;unfold v4 at hp
 split at hp
 ·obtain⟨p0,h0,e0⟩:=List.mem_map.mp hp;by_cases z:p0.1= .inl (t:Int)
  ·rw[if_pos z] at e0;exact⟨t,b,by rw[←e0,z],aa6⟩
  ·rw[if_neg z] at e0;subst e0;exact old _ h0 hp' z
 ·rename_i YX;rcases List.mem_append.mp hp with hp|hp
  ·by_cases z:p.1= .inl (t:Int)
   ·obtain⟨n,c,e1,e2⟩:=h p hp;rw[e1] at z;have hn:(n:Int)=t:=Sum.inl.inj z;rw[ni,←hn,e2] at YX;exact absurd rfl YX
   ·exact old p hp hp' z
  ·have hp:p=(.inl (t:Int),.ref b):=by simpa using hp
   exact⟨t,b,hp,aa6⟩
theorem TwI.step{H4 H5 H9:Hp}{fa:Addr}{R:Rm}{cs:dM}{S:Nat→Prop}{kv:bJ}{g g2:Nat→Addr}(h:TwI H4 H5 fa R cs S kv g){n:Nat}{d:Addr}{q4:HO}(e4:H4 fa=some q4)(k:∀c o,H5 c=some o→H9 c=some o)(hd:H5 d=none)(ed:H9 d=some (.dK (gK R g2 n)))(fr:∀c,H5 c=none→H4 c=none)
 (hg:∀m∈bV R n,H5 (g2 m)=none∧∃vs,cs[m]? =some vs∧H9 (g2 m)=some (.lst vs)) (gi:∀m∈bV R n,∀m'∈bV R n,g2 m=g2 m'→m=m'):
 TwI H4 (upd H9 fa (.dK (v4 kv (.inl (n:Int)) (.ref d)))) fa R cs (fun x=>S x∨x=n) (v4 kv (.inl (n:Int)) (.ref d)) (fun m=>if(R.getD m (0,0)).1=n then g2 m else g m):=by
 have Vt:fa≠d:=ag h.fl hd
 have k' :∀c o,c≠fa→H9 c=some o→upd H9 fa (.dK (v4 kv (.inl (n:Int)) (.ref d))) c=some o:=fun c o hc e=>by
  rw[af hc];exact e
 have WM:∀c,H5 c=none→c≠fa:=fun c e z=>by
  rw[z,h.fl] at e;cases e
 have kne:∀x:Nat,¬x=n→¬(Sum.inl (x:Int):wp)=Sum.inl (n:Int):=fun x hx z=>hx (by have:(x:Int)=n:=Sum.inl.inj z;lia);have VH:bz (v4 kv (.inl (n:Int)) (.ref d)) (.inl (n:Int))=some (.ref d):=by rw[fL,if_pos rfl]
 have HS:∀x:Nat,¬x=n→bz (v4 kv (.inl (n:Int)) (.ref d)) (.inl (x:Int))=bz kv (.inl (x:Int)):=fun x hx=>by rw[fL,if_neg (kne x hx)]
 have dN:∀(x:Nat) (e:Addr),bz kv (.inl (x:Int))=some (.ref e)→S x→e≠d:=fun x e hv hs=>by
  obtain⟨d0,e1,_,e3⟩:=h.on x hs;rw[hv] at e1;cases e1;exact ag e3 hd
 have gn:∀m∈bV R n,(if(R.getD m (0,0)).1=n then g2 m else g m)=g2 m:=fun m hm=>if_pos (nO hm);have go:∀x,¬x=n→∀m∈bV R x,(if(R.getD m (0,0)).1=n then g2 m else g m)=g m:=fun x hx m hm=>if_neg (fun z=>hx ((nO hm).symm.trans z));have fn:gK R (fun m=>if(R.getD m (0,0)).1=n then g2 m else g m) n=gK R g2 n:=List.map_congr_left fun m hm=>by simp only[gn m hm]
 have fo:∀x,¬x=n→gK R (fun m=>if(R.getD m (0,0)).1=n then g2 m else g m) x=gK R g x:=fun x hx=>List.map_congr_left fun m hm=>by simp only[go x hx m hm]
 have sx:∀x,(S x∨x=n)→¬x=n→S x:=fun x h hx=>h.elim id fun z=>absurd z hx;refine⟨ae,Hr h.ok,fun x hx=> ?_,fun x hx=> ?_,fun x x' e h1 h2=> ?_,fun x hx m hm=> ?_,fun x x' hx T3 m hm m' II e=> ?_⟩
 ·by_cases z:x=n
  ·subst z;rw[fn];exact⟨d,VH,fr d hd,k' _ _ Vt.symm ed⟩
  ·obtain⟨d0,e1,e2,e3⟩:=h.on x (sx x hx z);rw[fo x z];exact⟨d0,(HS x z).trans e1,e2,k' _ _ (ag e4 e2).symm (k _ _ e3)⟩
 ·rw[HS x fun z=>hx (.inr z)];exact h.off x fun z=>hx (.inl z)
 ·by_cases z:x=n<;>by_cases z' :x' =n
  ·rw[z,z']
  ·subst z;rw[VH] at h1;cases h1;rw[HS x' z'] at h2;by_cases hs:S x'
   ·exact absurd rfl (dN x' d h2 hs)
   ·rw[h.off x' hs] at h2;cases h2
  ·subst z';rw[VH] at h2;cases h2;rw[HS x z] at h1;by_cases hs:S x
   ·exact absurd rfl (dN x d h1 hs)
   ·rw[h.off x hs] at h1;cases h1
  ·rw[HS x z] at h1;rw[HS x' z'] at h2;exact h.inj x x' e h1 h2
 ·by_cases z:x=n
  ·subst z;rw[gn m hm];obtain⟨e1,vs,e2,e3⟩:=hg m hm;exact⟨fr _ e1,vs,e2,k' _ _ (WM _ e1) e3⟩
  ·rw[go x z m hm];obtain⟨e1,vs,e2,e3⟩:=h.rm x (sx x hx z) m hm;exact⟨e1,vs,e2,k' _ _ (aK e3 h.fl (by intro z;cases z)) (k _ _ e3)⟩
 ·by_cases z:x=n<;>by_cases z' :x' =n
  ·subst z;subst z';rw[gn m hm,gn m' II] at e;exact gi m hm m' II e
  ·subst z;rw[gn m hm,go x' z' m' II] at e;obtain⟨_,vs,_,e3⟩:=h.rm x' (sx x' T3 z') m' II;rw[←e,(hg m hm).1] at e3;cases e3
  ·subst z';rw[go x z m hm,gn m' II] at e;obtain⟨_,vs,_,e3⟩:=h.rm x (sx x hx z) m hm;rw[e,(hg m' II).1] at e3;cases e3
  ·rw[go x z m hm,go x' z' m' II] at e;exact h.gi x x' (sx x hx z) (sx x' T3 z') m hm m' II e
def wI(kv:bJ)(i n:Nat):Prop:=∃j b,j<i∧kv[j]? =some (.inl (n:Int),V.ref b)
theorem sI(kv:bJ)(n:Nat):¬wI kv 0 n:=fun⟨j,b,h,_⟩=>Nat.not_lt_zero j h
theorem E2{kv:bJ}{i n:Nat}{b:Addr}(h:kv[i]? =some (.inl (n:Int),V.ref b)):(fun x=>wI kv i x∨x=n)=wI kv (i+1):=by
 funext x
 refine propext ⟨fun z=> ?_,fun⟨j,c,hj,e⟩=> ?_⟩
 ·rcases z with⟨j,c,hj,e⟩|rfl
  ·exact⟨j,c,by lia,e⟩
  ·exact⟨i,b,by lia,h⟩
 ·by_cases z:j=i
  ·subst z;rw[h] at e
   have:(n:Int)=x:=by
    have:=congrArg Prod.fst (Option.some.inj e);exact Sum.inl.inj this
   exact .inr (by lia)
  ·exact .inl ⟨j,c,by lia,e⟩
def dOf(p:wp×V):Option Addr:=match p.2 with| .ref d=>some d|_=>none
theorem Gx{kv:bJ}(h:A0 kv){c:Addr}(hc:c∈kv.filterMap dOf):∃n:Nat,bz kv (.inl (n:Int))=some (.ref c):=by
 obtain⟨p,hp,e⟩:=List.mem_filterMap.mp hc;obtain⟨n,b,e1,e2⟩:=h p hp;rw[e1] at e;cases e;exact⟨n,e2⟩
theorem xp{kv:bJ}{k:wp}{v:V}(h:bz kv k=some v):(k,v)∈kv:=by
 unfold bz at h
 cases e:kv.find? fun kv=>decide (kv.1=k) with
 |none=>rw[e] at h;cases h
 |some p=>
  rw[e] at h;cases h;have h1:=List.mem_of_find?_eq_some e;have h2:=List.find?_some e;have h2:p.1=k:=by simpa using h2
  rw[←h2];exact h1
theorem UP{kv:bJ}{k:wp}{c:Addr}(h:bz kv k=some (.ref c)):c∈kv.filterMap dOf:=List.mem_filterMap.mpr ⟨_,xp h,rfl⟩
theorem CW{kv:bJ}(_:A0 kv){n:Nat}{b:Addr}(h:bz kv (.inl (n:Int))=some (.ref b)):wI kv kv.length n:=by
 obtain⟨j,hj⟩:=List.mem_iff_getElem?.mp (xp h);exact⟨j,b,(List.getElem?_eq_some_iff.mp hj).1,hj⟩
theorem Ih{kv:bJ}(h:A0 kv){j n:Nat}{b:Addr}(e:kv[j]? =some (.inl (n:Int),V.ref b)):bz kv (.inl (n:Int))=some (.ref b):=by
 obtain⟨n',c,e1,e2⟩:=h _ (List.mem_of_getElem? e);cases e1;exact e2
theorem La(x pa ta:Addr)(z:HX):cq "parents" (.ref x) (du pa ta z)=du x ta z:=by kernel_rfl
theorem Jh(x pa ta:Addr)(z:HX):cq "takers" (.ref x) (du pa ta z)=du pa x z:=by kernel_rfl
theorem Ho(pa ta:Addr)(z:HX)(v:V):cq "lengths" v (du pa ta z)=du pa ta {z with la:=v}:=by kernel_rfl
section
variable{P:Program}{w:World}{K:Frag}{mg:Str→aH}{base:Heap}{A:pH}
def VF(C:Addr):Sp:=fun vs H Q _=>∃a ps ts L pk R N rs cs,vs=[.ref a.f]∧aF C H a ps ts L pk R N rs cs∧1≤L∧L≤1000∧ps.length≤1000∧ts.length≤1000∧R.length≤1000000∧N≤1000000∧(∀r∈R,1≤r.2)∧
 ∀a2 Xr H',(∀c∈a2.own,H c=none)→aF C H' a2 ps ts L pk R N Xr cs→au H H'→Q (.ref a2.f) H'
theorem yo(T:Txt K mg A):aV P w K mg base eI 5 A.nq A.oX ["self"] (VF A.aj):=by
 have dR:=lD (P:=P) (w:=w) (base:=base) T;refine T.Bl.ok i6 (fun vs H Q E h=> ?_) (fun cF Ar outer s H vs Q E hr h=> ?_)
 ·obtain⟨a,ps,ts,L,pk,R,N,rs,cs,rfl,_⟩:=h;rfl
 ·obtain⟨a,ps,ts,L,pk,R,N,rs,cs,rfl,F,L1,L2,Hj,ht1,hR1,hN1,lz,q⟩:=h;have hu:=dS hr;have hL:sizeLine=16777216:=by decide
  have DI:(2:Nat)≤sizeLine:=by decide
  obtain⟨dx,ho⟩:=F.ob;refine⟨_,(ak (a_ (i:=1) i6.nd rfl (Or.inl rfl) (wq T.wm dR hr rfl T.uh T.fV .nil aw (aa (b8 (pv 0) rfl) ah))) (ak (kB (pv 1) (cj g_ (by rfl) T.nZ Boot.«list» (aa (b8 (pv 0) rfl) ah)) rfl) (ak (kB (pv 1) (cj g_ (by rfl) T.nZ Boot.«list» (aa (b8 (pv 0) rfl) ah)) rfl) (ak (Pq (gO PassesOwn.never rfl (Cz (EY plainAttrs_dict slot_dict_items type_dict_items Cf (b8 (pv 0) rfl))) (Jp rfl (jc (bc (i:=2) i6.nd rfl (Or.inl rfl) (Or.inl rfl)) (jc (bc (i:=3) i6.nd rfl (Or.inl rfl) (Or.inl rfl)) wb))) (aq (oM hu (b8 (pv 1) rfl) (pv 2) (cj (vU rfl) (by rfl) T.uJ Boot.«dict» (aa (FP (dA (N:=["place","room"]) (k:=2) (js:=[]) rfl (bP (by kernel_rfl)) (Cz (EY plainAttrs_dict slot_dict_items type_dict_items Cf (pv 3))) (fun _ _ _ _ _=>⟨(Bx (K:=K) (n:=2) rfl rfl (jc (bc (i:=0) (show(["place","room"]:aX).Nodup by decide+kernel) rfl (Or.inl rfl) (Or.inr rfl)) (jc (bc (i:=1) (show(["place","room"]:aX).Nodup by decide+kernel) rfl (Or.inl rfl) (Or.inr rfl)) wb)) rfl rfl),za,(oR (aa (pv 0) (aa (cj (rq (K:=K) rfl) (by rfl) T.nZ Boot.«list» (aa (pv 1) ah)) ah)))⟩))) ah)) rfl)))) (ak (kB (pv 1) (cj p4 (by rfl) T.uJ Boot.«dict» (aa (b8 (pv 0) rfl) ah)) rfl) (ak (kB (pv 1) (b8 (pv 0) rfl) rfl) (aq (aG (pv 1))))))))),?_⟩;refine⟨_,rfl,a.f,A.aj,dx,_,_,rfl,ho,T.ar,T.gj,Bk _ _ _,?_⟩;intro p dp np nd ne
  have s0:au H (upd (upd H dp (.own p)) p (.ins A.aj dp [])):=fun c o e=>by
   rw[af (ag e np),af (ag e nd)];exact e
  refine⟨p,dp,L,rfl,ae,L1,L2,fun a' H1 ea' fr' F1 kp1=>⟨rfl,?_⟩⟩;subst ea';have s1:au H H1:=fun c o e=>kp1 c o (s0 c o e) (ag e np)
  have wd:∀c∈a'.own,H c=none:=fun c hc=>by
   rcases fr' c hc with z|z
   ·rw[z];exact np
   ·exact s0.free z
  obtain⟨of,op,ot,NB,ola⟩:=F1.sW;obtain⟨pG,AO⟩:=F1.ob;obtain⟨kv1,g1,g2,_⟩:=F1.fl;have ahd:kv1=[]:=List.length_eq_zero_iff.mp (by have:=g2.1;lia);subst ahd;have Fa:=F.same s1;obtain⟨dxa,hoa⟩:=Fa.ob;refine⟨_,rfl,a.f,A.aj,dxa,_,_,rfl,hoa,T.ar,T.cJ,w4 _ _ _,a.pa,_,rfl,.inl (bA.of Fa.pl),fun l1 zQ=> ?_⟩;have n1f:a'.f≠l1:=ag AO zQ;refine⟨_,rfl,a'.f,A.aj,pG,_,rfl,(by rw[af n1f];exact AO),T.ar,T.cJ,Nat.lt_of_le_of_lt (qo _ _ _) (by decide),?_⟩;rw[La]
  have s2:au H (upd (upd H1 l1 (.lst (ps.map oV))) a'.f (.ins A.aj pG (du l1 a'.ta ⟨.int L,.ref a'.fa,.ref a'.la,.int (0:Nat)⟩))):=fun c o e=>by
   rw[af (ag e (wd _ of)),af (ag (s1 _ _ e) zQ)];exact s1 _ _ e
  have o2:upd (upd H1 l1 (.lst (ps.map oV))) a'.f (.ins A.aj pG (du l1 a'.ta ⟨.int L,.ref a'.fa,.ref a'.la,.int (0:Nat)⟩)) a'.f=some (.ins A.aj pG (du l1 a'.ta ⟨.int L,.ref a'.fa,.ref a'.la,.int (0:Nat)⟩)):=ae;have e2:upd (upd H1 l1 (.lst (ps.map oV))) a'.f (.ins A.aj pG (du l1 a'.ta ⟨.int L,.ref a'.fa,.ref a'.la,.int (0:Nat)⟩)) l1=some (.lst (ps.map oV)):=by rw[af n1f.symm,ae]
  have f2:upd (upd H1 l1 (.lst (ps.map oV))) a'.f (.ins A.aj pG (du l1 a'.ta ⟨.int L,.ref a'.fa,.ref a'.la,.int (0:Nat)⟩)) a'.fa=some (.dK []):=by
   rw[af (aK g1 AO (by intro z;cases z)),af (ag g1 zQ)];exact g1
  have fl1:H l1=none:=s1.free zQ;generalize upd (upd H1 l1 (.lst (ps.map oV))) a'.f (.ins A.aj pG (du l1 a'.ta ⟨.int L,.ref a'.fa,.ref a'.la,.int (0:Nat)⟩))=H2 at s2 o2 e2 f2;have F2:=F.same s2;obtain⟨dxb,X6⟩:=F2.ob;refine⟨_,rfl,a.f,A.aj,dxb,_,_,rfl,X6,T.ar,T.cA,uU _ _ _,a.ta,_,rfl,.inl (bA.of F2.tl),fun l2 mW=> ?_⟩;have n2f:a'.f≠l2:=ag o2 mW;have n12:l1≠l2:=ag e2 mW;refine⟨_,rfl,a'.f,A.aj,pG,_,rfl,(by rw[af n2f];exact o2),T.ar,T.cA,Nat.lt_of_le_of_lt (qo _ _ _) (by decide),?_⟩;rw[Jh];generalize hz:(⟨.int L,.ref a'.fa,.ref a'.la,.int (0:Nat)⟩:HX)=z at o2;have zf:z.fa= .ref a'.fa:=by rw[←hz]
  have s3:au H (upd (upd H2 l2 (.lst (ts.map oV))) a'.f (.ins A.aj pG (du l1 l2 z))):=fun c o e=>by
   rw[af (ag e (wd _ of)),af (ag (s2 _ _ e) mW)];exact s2 _ _ e
  have o3:upd (upd H2 l2 (.lst (ts.map oV))) a'.f (.ins A.aj pG (du l1 l2 z)) a'.f=some (.ins A.aj pG (du l1 l2 z)):=ae;have e31:upd (upd H2 l2 (.lst (ts.map oV))) a'.f (.ins A.aj pG (du l1 l2 z)) l1=some (.lst (ps.map oV)):=by rw[af n1f.symm,af n12];exact e2
  have e32:upd (upd H2 l2 (.lst (ts.map oV))) a'.f (.ins A.aj pG (du l1 l2 z)) l2=some (.lst (ts.map oV)):=by rw[af n2f.symm,ae]
  have Xi :upd (upd H2 l2 (.lst (ts.map oV))) a'.f (.ins A.aj pG (du l1 l2 z)) a'.fa=some (.dK []):=by
   rw[af (aK f2 o2 (by intro z;cases z)),af (ag f2 mW)];exact f2
  have fl2:H l2=none:=s2.free mW;generalize upd (upd H2 l2 (.lst (ts.map oV))) a'.f (.ins A.aj pG (du l1 l2 z))=H3 at s3 o3 e31 e32 Xi;have F3:=F.same s3;obtain⟨dxc,hoc⟩:=F3.ob;obtain⟨kv,k1,⟨k2,kOk⟩,k3,k4⟩:=F3.fl;refine⟨_,rfl,a.f,A.aj,dxc,_,_,rfl,hoc,T.ar,T.cE,su _ _ _,.inr (.inr (.inl ⟨rfl,.inl ⟨_,k1⟩⟩)),a.fa,kv,rfl,rfl,k1,fun v hv=> ?_⟩;have s4:=au.upd (o:=lJ v a.fa) hv;refine⟨v,a.fa,kv,rfl,ae,s4 _ _ k1,fun o nf=> ?_⟩
  have WM:a.fa≠a'.fa:=by
   obtain⟨_,kz,_⟩:=F.fl;exact ag kz (wd _ NB)
  generalize OH:upd H3 v (lJ v a.fa)=H4 at s4;have k14:=s4 _ _ k1;have X3:H4 a'.fa=some (.dK []):=s4 _ _ Xi;refine Hs (d:=a.fa) (o:=o) (kvs:=kv) (fun i σ H' =>∃(x2 x3:Option V) (Qs :bJ) (g:Nat→Addr),σ=[some (.ref a.f),some (.ref a'.f),x2,x3]∧TwI H4 H' a'.fa R cs (wI kv i) Qs g∧Qs.length≤i∧∀c oo,c≠a'.fa→upd H4 a.fa (.gE o (.dK kv)) c=some oo→H' c=some oo) ⟨_,_,[],fun _=>0,rfl,⟨?_,(fun p hp=>nomatch hp),(fun n hn=>absurd hn (sI kv n)),(fun n _=>rfl),(fun n n' d e=>nomatch e),(fun n hn=>absurd hn (sI kv n)),(fun n n' hn=>absurd hn (sI kv n))⟩,Nat.le_refl _,fun _ _ _ e=>e⟩ ?_ ?_ ?_
  ·rw[af WM.symm];exact X3
  ·rintro i σ H' ⟨x2,x3,Qs,g,_,_,_,kk⟩
   exact kk _ _ WM ae
  ·rintro i k w T' σ H5 hi hT ⟨x2,x3,Qs,g,rfl,tw,l5,kk⟩
   have f5:=tw.fl;have xG:i<kv.length:=(List.getElem?_eq_some_iff.mp hi).1;obtain⟨n,b,ekw,Qr⟩:=kOk _ (List.mem_of_getElem? hi);cases ekw
   have V4:b∈a.own∧b≠a.fa∧H3 b=some (.dK (bG R rs n)):=by
    rcases k3 n with h|⟨b',e1,e2,e3,e4,e5⟩
    ·rw[h.1] at Qr;cases Qr
    ·rw[e1] at Qr;cases Qr;exact⟨e2,e3,e5⟩
   obtain⟨bo,bf,V4⟩:=V4;have We:∀{c:Addr} {oo:HO},H3 c=some oo→c≠a'.fa→c≠a.fa→H5 c=some oo:=fun{c oo} e h1 h2=>kk c oo h1 (by rw[af h2];exact s4 _ _ e)
   have ah3 :b≠a'.fa:=by
    obtain⟨ob',eb'⟩:=F.al b bo;exact ag eb' (wd _ NB)
   have Xv:=We V4 ah3 bf;have s6:=au.upd (o:= .tup [kV (.inl (n:Int)),.ref b]) hT;refine⟨T',_,rfl,qS.of ae,rfl,?_⟩;refine⟨_,_,rfl,_,_,rfl,rfl,?_⟩;generalize upd H5 T' (.tup [kV (.inl (n:Int)),.ref b])=H6 at s6;have hb6:=s6 _ _ Xv;refine⟨_,rfl,.inr (.inr (.inl ⟨rfl,.inl ⟨_,hb6⟩⟩)),b,_,rfl,rfl,hb6,fun v2 hv2=> ?_⟩;have s7:=au.upd (o:=lJ v2 b) hv2;refine⟨v2,b,_,rfl,ae,s7 _ _ hb6,fun o2 nf2=> ?_⟩;generalize upd H6 v2 (lJ v2 b)=H7 at s7;have hb7:=s7 _ _ hb6;have DX:upd H7 b (.gE o2 (.dK (bG R rs n))) b=some (.gE o2 (.dK (bG R rs n))):=ae;have Dl:=Ab R rs n
   have back:∀{c:Addr} {oo:HO},H5 c=some oo→c≠b→upd H7 b (.gE o2 (.dK (bG R rs n))) c=some oo:=fun{c oo} e h1=>by
    rw[af h1];exact s7 _ _ (s6 _ _ e)
   refine xP (fun j v M H' =>∃m t l vs,(bV R n)[j]? =some m∧v= .ref t∧M t∧M l∧(∀c,M c→c=t∨c=l)∧H' t=some (.tup [kV (.inl (aT R m:Int)),.ref l])∧H' l=some (.lst vs)∧cs[m]? =some vs) (DG DX) (by lia) ?_ ?_ ?_ ?_
   ·rintro j v M Ha Hb kt ⟨m,t,l,vs,h1,h2,h3,h4,h5,h6,h7,h8⟩
    exact⟨m,t,l,vs,h1,h2,h3,h4,h5,kt _ _ h3 h6,kt _ _ h4 h7,h8⟩
   ·rintro j v M Ha ⟨m,t,l,vs,h1,h2,h3,h4,h5,h6,h7,h8⟩ c hc
    rcases h5 c hc with rfl|rfl
    ·exact⟨_,h6⟩
    ·exact⟨_,h7⟩
   ·intro j x H' C1 hj sm hY c1;obtain⟨T2,k2',w2,rfl,Yx,Io⟩:=hY;unfold bG at Io;rw[List.getElem?_map] at Io
    cases hix:(bV R n)[j]? with
    |none=>rw[hix] at Io;cases Io
    |some m=>
     rw[hix] at Io;cases Io;have hm:m<R.length:=jW (List.mem_of_getElem? hix)
     have hrs:rs[m]? =some (rs.getD m 0):=by
      rw[List.getD_eq_getElem?_getD];simp[show m<rs.length by rw[F3.rl];exact hm]
     obtain⟨ro,_,_,vs,hcs,Xs⟩:=F3.rm m _ hrs
     have rfa:rs.getD m 0≠a'.fa:=by
      obtain⟨ob',eb'⟩:=F.al _ ro;exact ag eb' (wd _ NB)
     have NT :=sm _ _ (back (We Xs rfa (aK Xs k1 (by intro z;cases z))) (aK Xs V4 (by intro z;cases z)));refine⟨T2,_,rfl,qS.of Yx,rfl,_,_,rfl,_,_,rfl,rfl,((gw.refl _).own (by decide)).own (by decide),?_⟩;refine⟨_,rfl,_,rfl,rs.getD m 0,_,rfl,.inl (bA.of NT),fun l hl=>⟨DI,fun t ht=> ?_⟩⟩;have sl:=au.upd (o:= .lst vs) hl
     exact c1 _ _ (fun c=>c=t∨c=l) (sl.trans (au.upd ht)) (fun c hc=>by
      rcases hc with rfl|rfl
      ·exact sl.free ht
      ·exact hl) ⟨m,t,l,vs,hix,rfl,.inl rfl,.inr rfl,fun c hc=>hc,ae,(au.upd ht) _ _ ae,hcs⟩
   ·intro pl H8 ys M rR sm Vn rM hE hM;have pb:pl≠b:=fun z=>by rw[z,DX] at rR;cases rR
    have apM :ys.length=(bV R n).length:=by
     rw[rM];unfold bG;rw[List.length_map]
    refine⟨b,o2,_,sm _ _ DX,nf2,?_⟩
    have ex:∀m,∃l,m∈bV R n→∃j t vs,(bV R n)[j]? =some m∧ys[j]? =some (.ref t)∧M j l∧H8 t=some (.tup [kV (.inl (aT R m:Int)),.ref l])∧H8 l=some (.lst vs)∧cs[m]? =some vs∧upd H7 b (.gE o2 (.dK (bG R rs n))) l=none:=fun m=>by
     by_cases hm:m∈bV R n
     ·obtain⟨j,hj⟩:=List.mem_iff_getElem?.mp hm;have Gr:=(List.getElem?_eq_some_iff.mp hj).1;have Zj:ys[j]? =some ys[j]:=by simp[show j<ys.length by lia]
      obtain⟨⟨m',t,l,vs,h1,h2,h3,h4,h5,h6,h7,h8⟩,hf⟩:=hE j _ Zj;rw[hj] at h1;cases h1;exact⟨l,fun _=>⟨j,t,vs,hj,by rw[Zj,h2],h4,h6,h7,h8,(hf l h4).2⟩⟩
     ·exact⟨0,fun z=>absurd z hm⟩
    obtain⟨g2,hg2⟩:=Classical.axiomOfChoice ex
    have nb8:∀{c:Addr},upd H7 b (.gE o2 (.dK (bG R rs n))) c=none→c≠b:=fun e z=>by
     rw[z,DX] at e;cases e
    have ixn:∀{i j:Nat} {m:Nat},(bV R n)[i]? =some m→(bV R n)[j]? =some m→i=j:=fun{i j m} e1 e2=>by
     obtain⟨h1,U1⟩:=List.getElem?_eq_some_iff.mp e1;obtain⟨h2,SS⟩:=List.getElem?_eq_some_iff.mp e2;exact(List.getElem_inj (zU R n)).mp (U1.trans SS.symm)
    have Uo:Gv (upd H8 b (.dK (bG R rs n))) ys (gK R g2 n):=by
     refine⟨by unfold gK;rw[List.length_map];exact apM,fun i k v e=> ?_⟩;unfold gK at e;rw[List.getElem?_map] at e
     cases yk :(bV R n)[i]? with
     |none=>rw[yk] at e;cases e
     |some m=>
      rw[yk] at e;cases e;obtain⟨j,t,vs,h1,h2,h3,h4,h5,h6,h7⟩:=hg2 m (List.mem_of_getElem? yk);have:=ixn yk h1;subst this;refine⟨t,h2,?_⟩;rw[af (aK h4 (sm _ _ DX) (by intro z;cases z))];exact h4
    have rD:∀{c:Addr} {oo:HO},H5 c=some oo→upd H8 b (.dK (bG R rs n)) c=some oo:=fun{c oo} e=>by
     by_cases z:c=b
     ·subst z;rw[ae,←Xv];exact e
     ·rw[af z];exact sm _ _ (back e z)
    refine⟨pl,ys,gK R g2 n,rfl,(by rw[af pb];exact Vn),Uo,fun d' zt => ?_⟩;rw[Dw lz];have s9:=au.upd (o:= .dK (gK R g2 n)) zt;have o9:=s9 _ _ (rD (We o3 (aK o3 Xi (by intro z;cases z)) (aK o3 k1 (by intro z;cases z))));have f9:=s9 _ _ (rD f5)
    have WX:∀c,upd H7 b (.gE o2 (.dK (bG R rs n))) c=none→H5 c=none:=fun c e=>by
     cases z:H5 c with
     |none=>rfl
     |some q5=>
      rw[back z (nb8 e)] at e;cases e
    have hd5:H5 d' =none:=by
     cases z:H5 d' with
     |none=>rfl
     |some q5=>
      rw[rD z] at zt;cases zt
    have fr4:∀c,H5 c=none→H4 c=none:=fun c e=>by
     cases z:H4 c with
     |none=>rfl
     |some q4=>
      by_cases z1:c=a'.fa
      ·rw[z1,f5] at e;cases e
      ·by_cases z2:c=a.fa
       ·rw[kk c _ z1 (by rw[z2,ae])] at e;cases e
       ·rw[kk c _ z1 (by rw[af z2];exact z)] at e;cases e
    refine⟨_,rfl,a'.f,A.aj,pG,_,_,rfl,o9,T.ar,T.cE,su _ _ _,_,rfl,a'.fa,_,zf,sD.k (k:= .inl (n:Int)) f9 (by lia),?_⟩
    have st:=tw.step (n:=n) (d:=d') (g2:=g2) X3 (fun c q e=>s9 _ _ (rD e)) hd5 ae fr4 (fun m hm=>by
     obtain⟨j,t,vs,h1,h2,h3,h4,h5,h6,h7⟩:=hg2 m hm;refine⟨WX _ h7,vs,h6,s9 _ _ ?_⟩;rw[af (nb8 h7)];exact h5) (fun m hm m' II e=>by
     obtain⟨j,t,vs,h1,h2,h3,h4,h5,h6,h7⟩:=hg2 m hm;obtain⟨j',t',vs',U1,SS,Xh,h4',h5',h6',h7'⟩:=hg2 m' II;have Gr:=(List.getElem?_eq_some_iff.mp h1).1;have UG :=(List.getElem?_eq_some_iff.mp U1).1;rcases Nat.lt_trichotomy j j' with eO|heq|WY
     ·exact absurd (e▸Xh) (hM j j' eO (by unfold bG;rw[List.length_map];exact UG) _ h3)
     ·subst heq;rw[h1] at U1;cases U1;rfl
     ·exact absurd (e▸h3) (hM j' j WY (by unfold bG;rw[List.length_map];exact Gr) _ Xh))
    refine⟨_,_,_,_,rfl,E2 hi▸st,?_,fun c oo h1 e=> ?_⟩
    ·have:=dI Qs (.inl (n:Int)) (.ref d')
     lia
    ·rw[af h1];exact s9 _ _ (rD (kk c oo h1 e))
  ·rintro σ H5 ⟨x2,x3,Qs,g,rfl,tw,l5,kk⟩
   have f5:=tw.fl;refine⟨a.fa,o,kv,kk _ _ WM ae,nf,?_⟩
   have FO:∀{c:Addr} {oo:HO},H3 c=some oo→c≠a'.fa→upd H5 a.fa (.dK kv) c=some oo:=fun{c oo} e h1=>by
    by_cases z:c=a.fa
    ·subst z;rw[ae,←k1];exact e
    ·rw[af z];exact kk c oo h1 (by rw[af z];exact s4 _ _ e)
   have s6:au H (upd H5 a.fa (.dK kv)):=fun c oo e=>FO (s3 _ _ e) (ag e (wd _ NB));have o6:=FO o3 (aK o3 Xi (by intro z;cases z));have e61:=FO e31 (aK e31 Xi (by intro z;cases z));have e62:=FO e32 (aK e32 Xi (by intro z;cases z))
   have Ap:∀c oo,c≠a.fa→H5 c=some oo→upd H5 a.fa (.dK kv) c=some oo:=fun c oo h e=>by
    rw[af h];exact e
   generalize upd H5 a.fa (.dK kv)=H6 at s6 o6 e61 e62 Ap;have F6:=F.same s6;obtain⟨dxd,hod⟩:=F6.ob;obtain⟨kl,m1,m2,m3⟩:=F6.ln;refine⟨_,rfl,a.f,A.aj,dxd,_,_,rfl,hod,T.ar,T.di,Bj _ _ _,a.la,kl,rfl,m1,fun d2 hd2=> ?_⟩;have s7:=au.upd (o:= .dK kl) hd2;have o7:=s7 _ _ o6;refine⟨_,rfl,a'.f,A.aj,pG,_,rfl,o7,T.ar,T.di,Nat.lt_of_le_of_lt (qo _ _ _) (by decide),?_⟩;rw[Ho];have d7:upd H6 d2 (.dK kl) d2=some (.dK kl):=ae;generalize upd H6 d2 (.dK kl)=H7 at s7 o7 d7;have ame:=s7 _ _ hod;have naf:a.f≠a'.f:=ag ho (wd _ of);refine⟨_,rfl,a.f,A.aj,dxd,_,_,rfl,(by rw[af naf];exact ame),T.ar,T.fO,Ep _ _ _,?_⟩;refine⟨_,rfl,a'.f,A.aj,pG,_,rfl,ae,T.ar,T.fO,Nat.lt_of_le_of_lt (qo _ _ _) (by decide),?_⟩;rw[zJ];subst hz;have fd2:H d2=none:=s6.free hd2;have alG :∃q4,H4 a.fa=some q4:=⟨_,k14⟩;obtain⟨q4,eq4⟩:=alG;have n4:∀c,H4 c=none→c≠a.fa∧c≠a'.f∧c≠a'.fa∧c≠l1∧c≠l2∧H c=none:=fun c e=>⟨(ag eq4 e).symm,(ag (s4 _ _ o3) e).symm,(ag X3 e).symm,(ag (s4 _ _ e31) e).symm,(ag (s4 _ _ e32) e).symm,s3.free (s4.free e)⟩;have nf2:d2≠a'.f:=(ag o6 hd2).symm
   have kF:∀c oo,c≠a'.f→H7 c=some oo→upd (upd H7 a'.f (.ins A.aj pG (du l1 l2 ⟨.int L,.ref a'.fa,.ref d2,.int (0:Nat)⟩))) a'.f (.ins A.aj pG (du l1 l2 ⟨.int L,.ref a'.fa,.ref d2,.int pk⟩)) c=some oo:=fun c oo h e=>by
    rw[af h,af h];exact e
   have f6:=Ap _ _ WM.symm f5;have n6d:∀c oo,H6 c=some oo→c≠d2:=fun c oo e=>ag e hd2
   have BK:∀n,bV R n≠[]→wI kv kv.length n:=fun n jA=>by
    rcases k3 n with h|⟨b,e1,_⟩
    ·exact absurd h.2 jA
    ·exact CW kOk e1
   have F0:∀n,bG R ((List.range R.length).map g) n=gK R g n:=fun n=>List.map_congr_left fun m hm=>by
    have:=jW hm;rw[List.getD_eq_getElem?_getD,List.getElem?_map,List.getElem?_range this];rfl
   have rmF:∀m,m<R.length→H4 (g m)=none∧∃vs,cs[m]? =some vs∧H5 (g m)=some (.lst vs):=fun m hm=>tw.rm _ (BK _ fun z=>by
    have:=dZ hm;rw[z] at this;cases this) m (dZ hm)
   have onF:∀(n:Nat) (d:Addr),bz Qs (.inl (n:Int))=some (.ref d)→H4 d=none∧H5 d=some (.dK (gK R g n)):=fun n d e=>by
    by_cases hs:wI kv kv.length n
    ·obtain⟨d0,e1,e2,e3⟩:=tw.on n hs;rw[e] at e1;cases e1;exact⟨e2,e3⟩
    ·rw[tw.off n hs] at e;cases e
   refine⟨_,rfl,?_⟩;refine q ⟨a'.f,l1,l2,a'.fa,d2,[a'.f,l1,l2,a'.fa,d2]++Qs.filterMap dOf++(List.range R.length).map g⟩ ((List.range R.length).map g) _ (fun c hc=> ?_) ⟨⟨pG,ae⟩,kF _ _ n1f.symm (s7 _ _ e61),kF _ _ n2f.symm (s7 _ _ e62),n12,⟨Qs,kF _ _ (aK X3 (s4 _ _ o3) (by intro z;cases z)) (s7 _ _ f6),⟨by lia,tw.ok⟩,fun n=> ?_,tw.inj⟩,⟨kl,kF _ _ nf2 d7,m2,m3⟩,n6d _ _ f6,by rw[List.length_map,List.length_range],fun i b e=> ?_,?_,⟨by simp,by simp,by simp,by simp,by simp⟩,fun c hc=> ?_⟩ fun c oo e=> ?_
   ·rcases List.mem_append.mp hc with hc|hc
    ·rcases List.mem_append.mp hc with hc|hc
     ·simp only[List.mem_cons,List.not_mem_nil,or_false] at hc;rcases hc with rfl|rfl|rfl|rfl|rfl
      ·exact wd _ of
      ·exact fl1
      ·exact fl2
      ·exact wd _ NB
      ·exact fd2
     ·obtain⟨n,hn⟩:=Gx tw.ok hc;exact(n4 c (onF n c hn).1).2.2.2.2.2
    ·obtain⟨m,hm,rfl⟩:=List.mem_map.mp hc;exact(n4 _ (rmF m (List.mem_range.mp hm)).1).2.2.2.2.2
   ·rw[F0];rcases k3 n with h|⟨b,e1,_⟩
    ·exact .inl ⟨tw.off n (fun⟨j,b,hj,e⟩=>by
      have h1:=h.1;rw[Ih kOk e] at h1;cases h1),h.2⟩
    ·obtain⟨d,e2,e3,e5⟩:=tw.on n (CW kOk e1);have hn:=n4 d e3;have e6:=Ap _ _ hn.1 e5;exact .inr ⟨d,e2,List.mem_append_left _ (List.mem_append_right _ (UP e2)),hn.2.2.1,n6d _ _ e6,kF _ _ hn.2.1 (s7 _ _ e6)⟩
   ·rw[List.getElem?_map] at e
    cases hi:(List.range R.length)[i]? with
    |none=>rw[hi] at e;cases e
    |some m=>
     rw[hi] at e;cases e;obtain⟨xG,him⟩:=List.getElem?_eq_some_iff.mp hi;rw[List.length_range] at xG;rw[List.getElem_range] at him;subst him;obtain⟨h1,vs,h2,h3⟩:=rmF i xG;have hn:=n4 _ h1;exact⟨List.mem_append_right _ (List.mem_map_of_mem (List.mem_range.mpr xG)),hn.2.2.2.1,hn.2.2.2.2.1,vs,h2,kF _ _ hn.2.1 (s7 _ _ (Ap _ _ hn.1 h3))⟩
   ·refine List.pairwise_map.mpr (List.Pairwise.imp_of_mem (fun{x y} hx hy jA z=>jA ?_) List.nodup_range);have hx:=List.mem_range.mp hx;have hy:=List.mem_range.mp hy
    have ne0:∀{m},m<R.length→bV R (R.getD m (0,0)).1≠[]:=fun hm z=>by
     have:=dZ hm;rw[z] at this;cases this
    exact tw.gi _ _ (BK _ (ne0 hx)) (BK _ (ne0 hy)) x (dZ hx) y (dZ hy) z
   ·rcases List.mem_append.mp hc with hc|hc
    ·rcases List.mem_append.mp hc with hc|hc
     ·simp only[List.mem_cons,List.not_mem_nil,or_false] at hc;rcases hc with rfl|rfl|rfl|rfl|rfl
      ·exact⟨_,ae⟩
      ·exact⟨_,kF _ _ n1f.symm (s7 _ _ e61)⟩
      ·exact⟨_,kF _ _ n2f.symm (s7 _ _ e62)⟩
      ·exact⟨_,kF _ _ (aK X3 (s4 _ _ o3) (by intro z;cases z)) (s7 _ _ f6)⟩
      ·exact⟨_,kF _ _ nf2 d7⟩
     ·obtain⟨n,hn⟩:=Gx tw.ok hc;obtain⟨h1,h2⟩:=onF n c hn;exact⟨_,kF _ _ (n4 c h1).2.1 (s7 _ _ (Ap _ _ (n4 c h1).1 h2))⟩
    ·obtain⟨m,hm,rfl⟩:=List.mem_map.mp hc;obtain⟨h1,vs,h2,h3⟩:=rmF m (List.mem_range.mp hm);exact⟨_,kF _ _ (n4 _ h1).2.1 (s7 _ _ (Ap _ _ (n4 _ h1).1 h3))⟩
   ·exact kF _ _ (ag e (wd _ of)) (s7 _ _ (s6 _ _ e))
end
theorem kt2{p q:Addr}{x y:az}{H H' :Hp}(k:jC p q H H')(hp:H p=some (.lst x))(hq:H q=some (.lst y))(c:Addr)(xs:az)(e:H c=some (.tup xs)):H' c=some (.tup xs):=k c _ (aK e hp (by intro z;cases z)) (aK e hq (by intro z;cases z)) e
theorem ktb{b:Addr}{k:Nat}{H H' :Hp}(K:Kept b H H')(B:c_ H b k)(c:Addr)(xs:az)(e:H c=some (.tup xs)):H' c=some (.tup xs):=by
 obtain⟨x,y,z,hb,_⟩:=B;exact K c _ (aK e hb (by intro z;cases z)) e
theorem aP.getL{H:Hp}{m:MA}{ps ts:aO}{L top:Nat}{R:Rm}{ws ms:aY}{cs:dM}(M:aP H m ps ts L top R ws ms cs):ff H m.d (.str "limit") (some (.int L)):=by
 have:=ff.k (k:=kL) M.ob;rw[Xy] at this;exact this
def Cr(C b:Addr)(L k:Nat)(H:Hp)(a:HA)(m:MA)(r N:Nat)(Z:Hp→Prop):Prop:=∀a' m' A8 zL u5 R' N' xM vH vR uP H',nk C H' a' m' A8 zL L u5 R' N' xM vH vR uP→a'.f=a.f→m'.d=m.d→(∀c∈a'.own,c∈a.own∨H c=none)→(∀c∈m'.own,c∈m.own∨H c=none)→(∀c o,c≠b→¬c∈a.own→¬c∈m.own→H c=some o→H' c=some o)→(∀c xs,H c=some (.tup xs)→H' c=some (.tup xs))→c_ H' b (k+8)→R'.length+zL.length≤r+1→N'≤N+2→Z H'
def zD(C:Addr):TS:=fun D σ H=>∃(b:Addr) (k:Nat) (a:HA) (m:MA) (ps ts:aO) (L pk:Nat) (R:Rm) (N:Nat) (rs ws ms:aY) (cs:dM) (t n:Nat) (i3:Int) (x6 x7 x8:Option V),σ=[some (.ref b),some (.ref a.f),some (.ref m.d),some (.int i3),some (.int t),some (.int n),x6,x7,x8]∧c_ H b k∧k≤900∧¬b∈a.own∧¬b∈m.own∧nk C H a m ps ts L pk R N rs ws ms cs∧ts[t]? =some none∧1≤n∧n≤6∧R.length≤998∧N≤8000∧Cr C b L k H a m (R.length+ts.length) N fun H' =>∀y6 y7 y8,D.nx [some (.ref b),some (.ref a.f),some (.ref m.d),some (.int i3),some (.int t),some (.int n),y6,y7,y8] H'
section
variable{P:Program}{w:World}{K:Frag}{mg:Str→aH}{base:Heap}{A:pH}
def VB(C:Addr):Sp:=fun vs H Q _=>∃b k a m ps ts L pk R N rs ws ms cs,vs=[.ref b,.ref a.f,.ref m.d]∧c_ H b k∧k≤800∧nk C H a m ps ts L pk R N rs ws ms cs∧¬b∈a.own∧¬b∈m.own∧R.length≤998∧N≤8000∧Cr C b L (k+4) H a m (R.length+ts.length) N fun H' =>Q .bH H'
theorem Bh(T:Txt K mg A):aV P w K mg base eI 9 A.pT A.qv ["_law_box_here","_law_house_here","_law_model"] (VB A.aj):=by
 have bK:=(kn (P:=P) (w:=w) (base:=base) T).mono (by decide:_≤8);have n5:=(tP (P:=P) (w:=w) (base:=base) T).mono (by decide:_≤8);have cm:=(fQ (P:=P) (w:=w) (base:=base) T).mono (by decide:_≤8);have yF:=(xR (P:=P) (w:=w) (base:=base) T).mono (by decide:_≤8);have AB:=(yJ (P:=P) (w:=w) (base:=base) T).mono (by decide:_≤8);have gY:=(oG (P:=P) (w:=w) (base:=base) T).mono (by decide:_≤8);have gT:=(og (P:=P) (w:=w) (base:=base) T).mono (by decide:_≤8);have pN:=(um (P:=P) (w:=w) (base:=base) T).mono (by decide:_≤8);have AH:=(yS (P:=P) (w:=w) (base:=base) T).mono (by decide:_≤8);have v9:=(uT (P:=P) (w:=w) (base:=base) T).mono (by decide:_≤8);have xb:=(vX (P:=P) (w:=w) (base:=base) T).mono (by decide:_≤8);have ou:=(rC (P:=P) (w:=w) (base:=base) T).mono (by decide:_≤8);have qg:=(AG (P:=P) (w:=w) (base:=base) T).mono (by decide:_≤8);refine T.vg.ok ek (fun vs H Q E h=> ?_) (fun cF Ar outer s H vs Q E hr h=> ?_)
 ·obtain⟨b,k,a,m,ps,ts,L,pk,R,N,rs,ws,ms,cs,rfl,_⟩:=h;rfl
 ·obtain⟨b,k,a,m,ps,ts,L,pk,R,N,rs,ws,ms,cs,rfl,B,hk,Z,Iy,Il,hR,hN,q⟩:=h;have hu:=dS hr;have sN:_+100<cLine:=Nat.lt_of_le_of_lt (Nat.add_le_add_left (by decide:100≤16*8+200) _) (by have:=hr.un;omega);have Xe:_<cLine:=Nat.lt_of_le_of_lt (Nat.le_add_right _ _) sN;refine⟨_,(ak (a_ (i:=3) ek.nd rfl (Or.inl rfl) (ay bK hr rfl T.bY T.bS.kp T.bW .nil aw (aa (pv 0) (aa ax ah)))) (ak (a_ (i:=4) ek.nd rfl (Or.inl rfl) (ay n5 hr rfl T.r9 T.nW.kp T.rO .nil aw (aa (pv 0) (aa (ay cm hr rfl T.eL T.dj.kp T.eR .nil aw (aa (pv 2) ah)) ah)))) (ak (a_ (i:=5) ek.nd rfl (Or.inl rfl) (bF iS ax (ay bK hr rfl T.bY T.bS.kp T.bW .nil aw (aa (pv 0) (aa ax ah))))) (aq (cg (PW.pt (jaa (ba xJ (pv 3) ax (bu _)) (Wp (ba J9 (pv 4) ax (bu _))))) (ak (aZ (aR (pv 1) T.ar T.vK v9 hr T.v_ .nil aw (aa (pv 4) ah))) (aq (aZ (ay yF hr rfl T.yX T.rb.kp T.zd .nil aw (aa (pv 2) (aa (pv 4) ah)))))) (qA (zD A.aj) (aq (cg (PW.pt (jaa (ba DA (pv 3) ax (bu _)) (Wp (ba F8 (aE aU (by rfl) T.ee Boot.«len» (aa (aN hu (pv 2) aS (fun _ _=>rfl)) ah)) ax (bu _))))) (ak (aZ (aR (pv 1) T.ar T.wJ xb hr T.wY .nil aw (aa (pv 4) ah))) (aq (aZ (ay AB hr rfl T.Bi T.tO.kp T.A3 .nil aw (aa (pv 2) (aa (pv 4) ah)))))) (qA (zD A.aj) (aq (cg (PW.pt (jak (ba DA (pv 3) ax (bu _)) (jag (ba (xF Xe) (ay gY hr rfl T.lK T.jz.kp T.lO .nil aw (aa (pv 2) ah)) (bN ah) (bu _))))) (qA (zD A.aj) (aq (cg (ba F8 (pv 5) (bF j6 (aN hu (pv 2) aS (fun _ _=>rfl)) (ay gT hr rfl T.lI T.ji.kp T.lH .nil aw (aa (pv 2) ah))) (bu _)) (ak (aZ (aR (pv 1) T.ar T.t7 ou hr T.sT .nil aw (aa (pv 4) (aa (pv 5) ah)))) (aq (aZ (ay pN hr rfl T.vm T.pP.kp T.vj .nil aw (aa (pv 2) (aa (pv 4) (aa (pv 5) ah))))))) bp)) ?agV) (ak (a_ (i:=6) ek.nd rfl (Or.inl rfl) (ay n5 hr rfl T.r9 T.nW.kp T.rO .nil aw (aa (pv 0) (aa (ay gY hr rfl T.lK T.jz.kp T.lO .nil aw (aa (pv 2) ah)) ah)))) (ak (a_ (i:=7) ek.nd rfl (Or.inl rfl) (ay bK hr rfl T.bY T.bS.kp T.bW .nil aw (aa (pv 0) (aa (aE aU (by rfl) T.ee Boot.«len» (aa (aN hu (aN hu (pv 2) aS (fun _ _=>rfl)) (pv 6) (fun _ _=>rfl)) ah)) ah)))) (ak (a_ (i:=8) ek.nd rfl (Or.inl rfl) (ay AH hr rfl T.Bu T.tV.kp T.AE .nil aw (aa (pv 0) (aa (pv 2) ah)))) (ak (aZ (aR (pv 1) T.ar T.vh qg hr T.vk .nil aw (aa (pv 6) (aa (pv 7) (aa (pv 8) ah))))) (aq (ph (pv 8) (nB (aN hu (aN hu (pv 2) aS (fun _ _=>rfl)) (pv 6) (fun _ _=>rfl)) (pv 7) ww))))))))) ?Ug))) ?UI)))))),?_⟩
  case agV=>
   rintro D σ H1 ⟨b,k,a,m,ps,ts,L,pk,R,N,rs,ws,ms,cs,t,n,i3,x6,x7,x8,rfl,B,hk,Iy,Il,Z,uu,n1,n6,hR,hN,q⟩
   have hW:=Z.G.W.len;have NF:t<ts.length:=(List.getElem?_eq_some_iff.mp uu).1;refine⟨_,rfl,_,rfl,m.d,_,rfl,Z.mo.getL,_,rfl,m,ps,ts,L,pk,R,ws,ms,cs,rfl,Z.mo,Z.ok.cz,by lia,fun r hr=>⟨(Z.G.rw r hr).2.1,Z.rt r hr⟩,fun H2 s2=>⟨(L:Int),_,rfl,rfl,_,_,rfl,rfl,_,rfl,?_⟩⟩;refine yv (fun WY=> ?_) (fun _=> ?_)
   rotate_left
   ·exact q a m ps ts pk R N rs ws ms cs H2 (Z.same s2) rfl rfl (fun c hc=> .inl hc) (fun c hc=> .inl hc) (fun c o _ _ _ e=>s2 _ _ e) (fun c xs e=>s2 _ _ e) ((B.same s2).mono (by lia)) (Nat.le_succ _) (by lia) _ _ _
   ·have WY:=of_decide_eq_true WY;have hle:bg ts R+n≤L:=by lia
    have Z2:=Z.same s2;obtain⟨dx,ho⟩:=Z2.h.ob;refine⟨_,rfl,a.f,dx,_,rfl,ho,aC (by decide+kernel),_,rfl,_,rfl,a,ps,ts,L,pk,R,N,rs,cs,t,n,rfl,Z2.h,Z.ok.cl,Z.G,uu,n1,n6,by lia,by lia,hle,fun oa r H3 l F3 sa ga uv NP C7 WS=> ?_⟩;have M3:aP H3 m ps ts L pk R ws ms cs:=Z2.mo.kept fun c o hc e=>uv c o (fun z=>Z.ap c z hc) e;refine⟨_,rfl,_,rfl,_,rfl,m,ps,ts,L,pk,R,ws,ms,cs,t,n,rfl,M3,Z.ok,by lia,fun r hr=>⟨(Z.G.rw r hr).1,(Z.G.rw r hr).2.1,Z.rt r hr⟩,NF,n1,n6,fun om wt rr l' H4 M4 sm gm uw Xq hl4=> ?_⟩;rw[k_ R n uu] at M4
    have nm:∀c∈oa,¬c∈m.own:=fun c hc z=>by
     rcases ga c hc with h|h
     ·exact Z.ap c h z
     ·obtain⟨o,e⟩:=Z2.mo.al c z;rw[h] at e;cases e
    have F4:aF A.aj H4 {a with own:=oa} ps ts L (max pk (bg ts R+n)) (R++[(t,n)]) (N+2) (rs++[r]) (cs++[List.replicate n .bH]):=F3.kept fun c o hc e=>uw c o (nm c hc) e
    have G4:Good ps ts L (max pk (bg ts R+n)) (R++[(t,n)]):=by
     refine⟨Z.G.W,Z.G.g,fun r hr=> ?_,Z.G.lo,Z.G.hi,by rw[k_ R n uu];exact hle,by have:=Z.G.pk;have:=Z.G.hi;lia⟩;rcases List.mem_append.mp hr with hr|hr
     ·exact Z.G.rw r hr
     ·simp only[List.mem_singleton] at hr;subst hr;exact⟨n1,n6,by show t<ps.length;lia⟩
    have ap4:∀c∈oa,¬c∈om:=fun c hc z=>by
     rcases gm c z with h|h
     ·exact nm c hc h
     ·obtain⟨o,e⟩:=F3.al c hc;rw[h] at e;cases e
    refine q {a with own:=oa} {m with own:=om} ps ts _ (R++[(t,n)]) (N+2) _ (ws++[wt]) _ _ H4 ⟨F4,M4,G4,Z.ok.snoc Z.mo.iu,ap4⟩ rfl rfl (fun c hc=> ?_) (fun c hc=> ?_) (fun c o _ h1 h2 e=>uw c o h2 (uv c o h1 (s2 _ _ e))) (fun c xs e=>Xq c xs (NP c xs (s2 _ _ e))) ?_ (by rw[List.length_append];show R.length+1+_≤_;lia) (Nat.le_refl _) _ _ _
    ·rcases ga c hc with h|h
     ·exact .inl h
     ·exact .inr (s2.free h)
    ·rcases gm c hc with h|h
     ·exact .inl h
     ·refine .inr ?_
      cases e:H1 c with
      |none=>rfl
      |some o=>
       by_cases z:c∈a.own
       ·obtain⟨o',e'⟩:=F3.al c (sa c z);rw[h] at e';cases e'
       ·have:=uv c o z (s2 _ _ e);rw[h] at this;cases this
    ·exact(B.kept fun o e=>uw b o Il (uv b o Iy (s2 _ _ e))).mono (by lia)
  case UI=>
   rintro D σ H1 ⟨b,k,a,m,ps,ts,L,pk,R,N,rs,ws,ms,cs,t,n,i3,x6,x7,x8,rfl,B,hk,Iy,Il,Z,uu,n1,n6,hR,hN,q⟩
   have next:∀(D:Ends),Cr A.aj b L k H1 a m (R.length+ts.length) N (fun H' =>∀y6 y7 y8,D.nx [some (.ref b),some (.ref a.f),some (.ref m.d),some (.int i3),some (.int t),some (.int n),y6,y7,y8] H')→zD A.aj D [some (.ref b),some (.ref a.f),some (.ref m.d),some (.int i3),some (.int t),some (.int n),x6,x7,x8] H1:=fun D q=>⟨b,k,a,m,ps,ts,L,pk,R,N,rs,ws,ms,cs,t,n,i3,x6,x7,x8,rfl,B,hk,Iy,Il,Z,uu,n1,n6,hR,hN,q⟩;have hl:=Z.G.W.len
   have NF:t<ps.length:=by
    have:=(List.getElem?_eq_some_iff.mp uu).1
    lia
   have hsn:cT ts (t:Int)=true:=by
    unfold cT;rw[decide_eq_true (show(0:Int)≤t by lia),Int.toNat_natCast,uu];rfl
   refine⟨_,rfl,_,3,rfl,rfl,_,rfl,?_⟩;refine yv (fun _=> ?_) (fun _=>next _ q);refine⟨_,rfl,m.d,_,rfl,Z.mo.mod.BN,m.ha,_,rfl,.inl (bA.of Z.mo.hl),_,100,rfl,rfl,_,rfl,?_⟩;rw[List.length_map];by_cases Ot:(ps.length:Int)≤100
   ·rw[decide_eq_true Ot];obtain⟨dx,ho⟩:=Z.h.ob;refine⟨_,rfl,a.f,dx,_,rfl,ho,aC (by decide+kernel),_,rfl,a.f,a.pa,a.ta,ps,ts,t,rfl,Z.h.fr,hl,hsn,by lia,fun H5 F5 K5=> ?_⟩;obtain⟨o1,o2,o3,o4,o5⟩:=Z.h.sW;have m5:aP H5 m ps ts L pk R ws ms cs:=Z.mo.kept fun c o hc e=>K5 c o (fun z=>Z.ap _ o2 (z▸hc)) (fun z=>Z.ap _ o3 (z▸hc)) e;refine⟨_,rfl,_,rfl,m.d,m.ha,m.tk,ps,ts,t,rfl,m5.mod,by lia,by lia,fun H6 M6 K6=> ?_⟩;obtain⟨Z6,v6⟩:=Z.begin NF (by lia) F5 K5 M6 K6;exact q a m _ _ pk R N rs ws ms cs H6 Z6 rfl rfl (fun c hc=> .inl hc) (fun c hc=> .inl hc) (fun c o _ h1 h2 e=>v6 c o h1 h2 e) (fun c xs e=>kt2 K6 m5.hl m5.tl c xs (kt2 K5 Z.h.pl Z.h.tl c xs e)) ((B.kept fun o e=>v6 b o Iy Il e).mono (by lia)) (by rw[List.length_append];exact Nat.le_refl _) (by lia) _ _ _
   ·rw[decide_eq_false Ot];exact next _ q
  case Ug=>
   rintro D σ H1 ⟨b,k,a,m,ps,ts,L,pk,R,N,rs,ws,ms,cs,t,n,i3,x6,x7,x8,rfl,B,hk,Iy,Il,Z,uu,n1,n6,hR,hN,q⟩
   have mk:∀(D:Ends) (H2:Hp),au H1 H2→Cr A.aj b L k H1 a m (R.length+ts.length) N (fun H' =>∀y6 y7 y8,D.nx [some (.ref b),some (.ref a.f),some (.ref m.d),some (.int i3),some (.int t),some (.int n),y6,y7,y8] H')→zD A.aj D [some (.ref b),some (.ref a.f),some (.ref m.d),some (.int i3),some (.int t),some (.int n),x6,x7,x8] H2:=fun D H2 s q=>
    ⟨b,k,a,m,ps,ts,L,pk,R,N,rs,ws,ms,cs,t,n,i3,x6,x7,x8,rfl,B.same s,hk,Iy,Il,Z.same s,uu,n1,n6,hR,hN,fun a' m' A8 zL u5 R' N' xM vH vR uP H' Z' ef ed ga gm kp kt=>q a' m' A8 zL u5 R' N' xM vH vR uP H' Z' ef ed (fun c hc=>(ga c hc).imp id s.free) (fun c hc=>(gm c hc).imp id s.free) (fun c o hc h1 h2 e=>kp c o hc h1 h2 (s _ _ e)) fun c xs e=>kt c xs (s _ _ e)⟩
   refine⟨_,rfl,_,6,rfl,rfl,_,rfl,?_⟩;refine yv (fun _=>mk _ H1 (au.refl H1) q) (fun _=> ?_);refine⟨_,rfl,m,ps,ts,L,pk,R,ws,ms,cs,rfl,Z.mo,by lia,Z.rt,fun l H2 C7 s2 mW=> ?_⟩;refine⟨(show 0≤sizeLine by decide),fun e0 GN=> ?_⟩;have s3:=au.upd (o:= .lst []) GN;have W9:=s2.trans s3;refine⟨l,e0,_,[],rfl,rfl,s3 _ _ mW,ae,?_⟩;by_cases hh:iN ts R=[]
   ·refine .inr ⟨by rw[hh];rfl,by rw[hh];rfl,rfl,_,rfl,?_⟩;rw[hh];exact mk _ _ W9 q
   refine .inl ⟨fun z=>hh (List.map_eq_nil_iff.mp (List.length_eq_zero_iff.mp z)),_,rfl,?_⟩;have Z0:=Z.same W9;have B0:=B.same W9;generalize upd H2 e0 (.lst [])=H3 at W9 Z0 B0;have kb:∀{H' :Hp},Kept b H3 H'→nk A.aj H' a m ps ts L pk R N rs ws ms cs:=fun K' =>Z0.kept fun c o hc e=>K' c o (fun z=>by rcases hc with h|h;exact Iy (z▸h);exact Il (z▸h)) e;have hhl:=Lg ts R;refine⟨_,rfl,_,rfl,m,ps,ts,L,pk,R,ws,ms,cs,rfl,Z0.mo,by lia,Z.rt,fun l H4 C7 s4 hl4=> ?_⟩;have B4:=B0.same s4;refine⟨b,l,k,_,rfl,B4,by lia,hl4,B0.ne C7,(fun z=>hh (List.map_eq_nil_iff.mp z)),(by show((iN ts R).map fun i=>V.ref (ws.getD i 0)).length≤1000;rw[List.length_map];lia),fun v H5 hv B5 K5=> ?_⟩;obtain⟨i,Rz,rfl⟩:=List.mem_map.mp hv;have hi:=Bs Rz;have st:=r6 Rz;have K35:Kept b H3 H5:=s4.kept.trans K5;have Z5:=kb K35;obtain⟨b',xs,e1,e2,e3,e4,e5⟩:=Z5.mo.at_ hi;have hxl:=Z.ok.cz i xs e2;have hx1:=(Z.G.rw _ (wv hi)).1;have hx6:=(Z.G.rw _ (wv hi)).2.1;refine⟨_,rfl,_,rfl,m.d,_,rfl,Z5.mo.D_,_,rfl,m.ca,_,rfl,e4,b',_,rfl,.inl (bA.of e5),b,_,k+2,rfl,B5,by lia,by lia,by lia,fun r H6 r0 r1 B6 O6=> ?_⟩;obtain⟨kk,rfl⟩:∃kk:Nat,r=kk:=⟨r.toNat,by lia⟩;have hkk:kk<xs.length:=by lia
   have K36:Kept b H3 H6:=K35.trans O6.kept;have Z6:=kb K36;refine⟨_,rfl,_,rfl,b,k+2+1,m,ps,ts,L,pk,R,ws,ms,cs,rfl,B6,by lia,Z6.mo,Il,by lia,fun v3 H7 Xs B7 K7=> ?_⟩;have K37:Kept b H3 H7:=K36.trans K7;have Z7:=kb K37;obtain⟨dx,ho⟩:=Z7.h.ob;refine⟨_,rfl,a.f,dx,_,rfl,ho,aC (by decide+kernel),_,rfl,_,rfl,_,rfl,a,ps,ts,L,pk,R,N,rs,cs,i,_,xs,kk,v3,rfl,Z7.h,Z.r1,Z.G.W.len,Z7.BY hi st,e2,hkk,Z7.valAt Xs,fun H8 s8=> ?_⟩;have Z8:=Z7.same s8;obtain⟨r1',r2',ys,r3',r4'⟩:=Z8.h.room hi;rw[e2] at r3';cases r3';have F9:=Z8.h.put (vs' :=xs.set kk v3) r1' e2
   have M9:aP (upd H8 (rs.getD i 0) (.lst (xs.set kk v3))) m ps ts L pk R ws ms cs:=Z8.mo.kept fun c o hc e=>by
    rw[af (fun z=>Z.ap _ r2' (by rw[←z];exact hc))];exact e
   have kp9:∀c o,¬c∈a.own→H8 c=some o→upd H8 (rs.getD i 0) (.lst (xs.set kk v3)) c=some o:=fun c o hc e=>by
    rw[af (fun z=>hc (by rw[z];exact r2'))];exact e
   have kt9:∀c ys,H8 c=some (.tup ys)→upd H8 (rs.getD i 0) (.lst (xs.set kk v3)) c=some (.tup ys):=fun c ys e=>by
    rw[af (aK e r4' (by intro z;cases z))];exact e
   generalize upd H8 (rs.getD i 0) (.lst (xs.set kk v3))=H9 at F9 M9 kp9 kt9;obtain⟨Yj,xs',f1,f2,f3,f4,f5⟩:=M9.at_ hi;rw[e2] at f2;cases f2;refine⟨_,rfl,_,rfl,m.d,_,rfl,M9.D_,_,rfl,m.ca,_,rfl,f4,_,rfl,Yj,_,_,kk,rfl,rfl,f5,qH hkk,?_⟩;have M10:=M9.put (vs' :=xs.set kk v3) f1 e2;obtain⟨g1,g2,g3,g4,_⟩:=M9.mm i Yj f1
   have F10:aF A.aj (upd H9 Yj (.lst (xs.set kk v3))) a ps ts L pk R N rs (cs.set i (xs.set kk v3)):=F9.kept fun c o hc e=>by
    rw[af (fun z=>Z.ap c hc (by rw[z];exact g1))];exact e
   have ZW:∀c o,¬c∈a.own→¬c∈m.own→H7 c=some o→upd H9 Yj (.lst (xs.set kk v3)) c=some o:=fun c o h1 h2 e=>by
    rw[af (fun z=>h2 (by rw[z];exact g1))];exact kp9 c o h1 (s8 _ _ e)
   have amI:∀c ys,H7 c=some (.tup ys)→upd H9 Yj (.lst (xs.set kk v3)) c=some (.tup ys):=fun c ys e=>by
    rw[af (aK (kt9 c ys (s8 _ _ e)) f5 (by intro z;cases z))];exact kt9 c ys (s8 _ _ e)
   exact q a m ps ts pk R N rs ws ms _ _ ⟨F10,M10,Z.G,Z.ok.put e2 Xs,Z.ap⟩ rfl rfl (fun c hc=> .inl hc) (fun c hc=> .inl hc) (fun c o hc h1 h2 e=>ZW c o h1 h2 (K37 c o hc (W9 _ _ e))) (fun c xs e=>amI c xs (ktb K37 B0 c xs (W9 _ _ e))) ((B7.kept fun o e=>ZW b o Iy Il e).mono (by lia)) (Nat.le_succ _) (by lia) _ _ _
  refine⟨_,rfl,b,9,k,rfl,B,by lia,by decide,by decide,fun r1 H1 _ _ B1 O1=> ?_⟩;have kb:∀{H' :Hp},Kept b H H'→nk A.aj H' a m ps ts L pk R N rs ws ms cs:=fun K' =>Z.kept fun c o hc e=>K' c o (fun z=>by rcases hc with h|h;exact Iy (z▸h);exact Il (z▸h)) e;have Z1:=kb O1.kept;have Fn:=Z.G.ts;refine⟨_,rfl,_,rfl,m.d,m.ha,m.tk,ps,ts,rfl,Z1.mo.mod,by lia,fun sl H2 Tc s2 WT=> ?_⟩;have B2:=B1.same s2
  have jA:aQ ts≠[]:=fun z=>by
   have:0∈aQ ts:=fR.mpr (by rw[Z.G.g];rfl);rw[z] at this;cases this
  have aaW:(aQ ts).length≤1000:=Nat.le_trans (iy ts) (by lia);refine⟨b,sl,k+1,(aQ ts).map nV,rfl,B2,by lia,WT,B1.ne Tc,(fun z=>jA (List.map_eq_nil_iff.mp z)),(by rw[List.length_map];exact aaW),fun vt H3 hvt B3 K3=> ?_⟩;obtain⟨t,ZH,rfl⟩:=List.mem_map.mp hvt;have K13:Kept b H H3:=(O1.kept.trans s2.kept).trans K3;have uu:ts[t]? =some none:=eq_of_beq (fR.mp ZH);refine⟨_,rfl,b,6,k+1+2,rfl,B3,by lia,by decide,by decide,fun r5 H6 h0 h1 B6 O6=>⟨1,r5,rfl,rfl,?_⟩⟩;have K16:Kept b H H6:=K13.trans O6.kept;have Z6:=kb K16;obtain⟨bx,Vv⟩:=B6.lst
  have fr:∀c,H6 c=none→H c=none:=fun c e=>by
   cases z:H c with
   |none=>rfl
   |some o=>
    by_cases hc:c=b
    ·rw[hc,Vv] at e;cases e
    ·rw[K16 c o hc z] at e;cases e
  have post:Cr A.aj b L (k+4) H6 a m (R.length+ts.length) N fun H' =>Q .bH H' :=fun a' m' A8 zL u5 R' N' xM vH vR uP H' Z' ef ed ga gm kp kt B' h1 h2=>
   q a' m' A8 zL u5 R' N' xM vH vR uP H' Z' ef ed (fun c hc=>(ga c hc).imp id (fr c)) (fun c hc=>(gm c hc).imp id (fr c)) (fun c o hc h1 h2 e=>kp c o hc h1 h2 (K16 c o hc e)) (fun c xs e=>kt c xs (ktb K16 B c xs e)) B' h1 h2
  have en:V.int (1+r5)=V.int (((1+r5).toNat:Nat):Int):=by
   congr 1
   lia
  dsimp only;rw[en];generalize hn:(1+r5).toNat=n;have n1:1≤n:=by lia
  have n6:n≤6:=by lia
  have rest:∀(D:Ends),(∀H',Q .bH H'→∀y6 y7 y8,D.nx [some (.ref b),some (.ref a.f),some (.ref m.d),some (.int r1),some (.int t),some (.int n),y6,y7,y8] H')→zD A.aj D [some (.ref b),some (.ref a.f),some (.ref m.d),some (.int r1),some (.int t),some (.int n),none,none,none] H6:=fun D hD=>⟨b,k+4,a,m,ps,ts,L,pk,R,N,rs,ws,ms,cs,t,n,r1,_,_,_,rfl,B6.mono (by lia),by lia,Iy,Il,Z6,uu,n1,n6,hR,hN,fun a' m' A8 zL u5 R' N' xM vH vR uP H' Z' ef ed ga gm kp kt B' h1 h2=>hD H' (post a' m' A8 zL u5 R' N' xM vH vR uP H' Z' ef ed ga gm kp kt B' h1 h2)⟩;have hl:=Z.G.W.len
  have NF:t<ps.length:=by
   have:=(List.getElem?_eq_some_iff.mp uu).1
   lia
  have hsn:cT ts (t:Int)=true:=by
   unfold cT;rw[decide_eq_true (show(0:Int)≤t by lia),Int.toNat_natCast,uu];rfl
  refine⟨_,rfl,rfl,_,rfl,?_⟩;refine yv (fun _=> ?_) (fun _=>rest _ fun H' h _ _ _=>h);refine⟨_,rfl,_,0,rfl,rfl,_,rfl,?_⟩;by_cases ht0:(0:Int)<(t:Int)
  ·rw[decide_eq_true ht0];obtain⟨dx,ho⟩:=Z6.h.ob;refine⟨_,rfl,a.f,dx,_,rfl,ho,aC (by decide+kernel),_,rfl,a.f,a.pa,a.ta,ps,ts,t,rfl,Z6.h.fr,Z.G.W,hsn,by lia,fun l H7 hl7 hL F7 K7=> ?_⟩;obtain⟨o1,o2,o3,o4,o5⟩:=Z.h.sW;have m7:aP H7 m ps ts L pk R ws ms cs:=Z6.mo.kept fun c o hc e=>K7 c o (fun z=>Z.ap _ o2 (z▸hc)) (fun z=>Z.ap _ o3 (z▸hc)) e;refine⟨_,rfl,_,rfl,m.d,m.ha,m.tk,ps,ts,t,rfl,m7.mod,Z.G.W,fun l2 H8 hl8 ZP M8 K8=> ?_⟩;obtain⟨Z8,v8⟩:=Z6.finish (by lia) NF F7 K7 M8 K8;exact post a m _ _ pk R N rs ws ms cs H8 Z8 rfl rfl (fun c hc=> .inl hc) (fun c hc=> .inl hc) (fun c o _ h1 h2 e=>v8 c o h1 h2 e) (fun c xs e=>kt2 K8 m7.hl m7.tl c xs (kt2 K7 Z6.h.pl Z6.h.tl c xs e)) ((B6.kept fun o e=>v8 b o Iy Il e).mono (by lia)) (by rw[qh];exact Nat.le_succ _) (by lia)
  ·rw[decide_eq_false ht0];exact rest _ fun H' h _ _ _=>h
end
def Bo(R:Rm)(cs:dM)(H:Hp)(n:Nat)(o:Option Nat)(v:V):Prop:=∃t tt xs,v= .ref t∧H t=some (.tup [.int n,oV o,.ref tt])∧H tt=some (.tup xs)∧xs.length=(bV R n).length∧∀(j:Nat) x,xs[j]? =some x→∃u m vs,x= .ref u∧(bV R n)[j]? =some m∧cs[m]? =some vs∧H u=some (.tup vs)
theorem Bo.kept{R:Rm}{cs:dM}{H H' :Hp}{n:Nat}{o:Option Nat}{v:V}(h:Bo R cs H n o v)(k:∀c xs,H c=some (.tup xs)→H' c=some (.tup xs)):Bo R cs H' n o v:=by
 obtain⟨t,tt,xs,h1,h2,h3,h4,h5⟩:=h;refine⟨t,tt,xs,h1,k _ _ h2,k _ _ h3,h4,fun j x e=> ?_⟩;obtain⟨u,m,vs,e1,e2,e3,e4⟩:=h5 j x e;exact⟨u,m,vs,e1,e2,e3,k _ _ e4⟩
def xc(ps ts:aO)(L:Nat)(R:Rm)(cs:dM)(H:Hp)(v:V):Prop:=∃t tt xs,v= .ref t∧H t=some (.tup [.int L,.ref tt])∧H tt=some (.tup xs)∧xs.length=(aQ ts).length∧∀(j:Nat) x,xs[j]? =some x→∃n o,(aQ ts)[j]? =some n∧ps[n]? =some o∧Bo R cs H n o x
theorem xc.kept{ps ts:aO}{L:Nat}{R:Rm}{cs:dM}{H H' :Hp}{v:V}(h:xc ps ts L R cs H v)(k:∀c xs,H c=some (.tup xs)→H' c=some (.tup xs)):xc ps ts L R cs H' v:=by
 obtain⟨t,tt,xs,h1,h2,h3,h4,h5⟩:=h;refine⟨t,tt,xs,h1,k _ _ h2,k _ _ h3,h4,fun j x e=> ?_⟩;obtain⟨n,o,e1,e2,e3⟩:=h5 j x e;exact⟨n,o,e1,e2,e3.kept k⟩
section
variable{P:Program}{w:World}{K:Frag}{mg:Str→aH}{base:Heap}{A:pH}
def KD(C:Addr):Sp:=fun vs H Q _=>∃f pa ta ps ts,∃(t:Nat) (o:Option Nat),vs=[.ref f,.int t]∧ke C H f pa ta ps ts∧ps[t]? =some o∧Q (oV o) H
theorem mZ(T:Txt K mg A):aV P w K mg base eI 5 A.jN A.jV ["self","frame"] (KD A.aj):=by
 have bQ:=dq (P:=P) (w:=w) (base:=base) T;refine T.vM.ok u0 (fun vs H Q E h=> ?_) (fun cF Ar outer s H vs Q E hr h=> ?_)
 ·obtain⟨f,pa,ta,ps,ts,t,o,rfl,_⟩:=h;rfl
 ·obtain⟨f,pa,ta,ps,ts,t,o,rfl,F,hx,k⟩:=h;obtain⟨⟨dx,z,ho⟩,hp,ht,ne⟩:=id F;have hj:t<ps.length:=(List.getElem?_eq_some_iff.mp hx).1
  have hb:iT ps (t:Int)=true:=by
   unfold iT;rw[decide_eq_true (show(0:Int)≤t by lia),decide_eq_true (show(t:Int)≤(ps.length:Int) - 1 by lia)];rfl
  refine⟨_,(ak (aZ (aR (pv 0) T.ar T.dQ bQ hr T.dP .nil aw (aa (pv 1) ah))) (aq (aG (bB bj (b8 (pv 0) rfl) (pv 1) (fun _ _=>rfl))))),?_⟩;refine⟨_,rfl,f,dx,_,rfl,ho,aC (by decide+kernel),_,rfl,f,pa,ta,ps,ts,t,rfl,F,hb,?_⟩;exact⟨_,rfl,f,A.aj,dx,_,_,rfl,ho,T.ar,T.cJ,w4 _ _ _,_,rfl,pa,_,_,_,rfl,rfl,bA.of hp,jS hx,k⟩
def Oa(C:Addr):Sp:=fun vs H Q _=>∃a ps ts L pk R N rs cs,∃t:Nat,vs=[.ref a.f,.int t]∧aF C H a ps ts L pk R N rs cs∧ps.length=ts.length∧ts[t]? =some none∧R.length≤1000∧
 ∀l ys H',H l=none→au H H'→H' l=some (.lst ys)→ys.length=(bV R t).length→(∀j v,ys[j]? =some v→∃wt,v= .ref wt∧H' wt=some (.tup (oz t (aT R ((bV R t).getD j 0)))))→Q (.ref l) H'
theorem xr(T:Txt K mg A):aV P w K mg base eI 6 A.ma A.mw ["self","frame"] (Oa A.aj):=by
 have bD:=cG (P:=P) (w:=w) (base:=base) T;refine T.zm.ok xS (fun vs H Q E h=> ?_) (fun cF Ar outer s H vs Q E hr h=> ?_)
 ·obtain⟨a,ps,ts,L,pk,R,N,rs,cs,t,rfl,_⟩:=h;rfl
 ·obtain⟨a,ps,ts,L,pk,R,N,rs,cs,t,rfl,F,hl,fE,hR,q⟩:=h;have hu:=dS hr;obtain⟨dx,ho⟩:=F.ob
  have hsb:cT ts (t:Int)=true:=by
   unfold cT;rw[decide_eq_true (show(0:Int)≤t by lia),Int.toNat_natCast,fE];rfl
  obtain⟨kv,f1,f2,f3,f4⟩:=F.fl;have xG:=qG R t;refine⟨_,(ak (aZ (aR (pv 0) T.ar T.cN bD hr T.cM .nil aw (aa (pv 1) ah))) (aq (aG (FP (dA (N:=["place","frame"]) (k:=1) (js:=[1]) rfl (bP (by kernel_rfl)) (OO (pZ hu (b8 (pv 0) rfl) (pv 1) mT ⟨rfl,rfl,rfl,rfl⟩)) (fun _ _ _ _ _=>⟨(bc (i:=0) (show(["place","frame"]:aX).Nodup by decide+kernel) rfl (Or.inl rfl) (Or.inr rfl)),za,(oR (aa (pv 1) (aa (pv 0) ah)))⟩)))))),?_⟩;refine⟨_,rfl,a.f,dx,_,rfl,ho,aC (by decide+kernel),_,rfl,a.f,a.pa,a.ta,ps,ts,t,rfl,F.fr,hl,hsb,?_⟩;refine⟨_,rfl,a.f,A.aj,dx,_,_,rfl,ho,T.ar,T.cE,su _ _ _,a.fa,rfl,.inl ⟨_,.inl f1⟩,_,rfl,fun e0 GN=> ?_⟩;have s1:=au.upd (o:= .dK []) GN
  have hd:∃d,((bz kv (.inl (t:Int))).getD (V.ref e0))= .ref d∧upd H e0 (.dK []) d=some (.dK (bG R rs t)):=by
   rcases f3 t with⟨h1,h2⟩|⟨b,e1,e2,e3,e4,e5⟩
   ·rw[h1];refine⟨e0,rfl,?_⟩;unfold bG;rw[h2];exact ae
   ·rw[e1];exact⟨b,rfl,s1 _ _ e5⟩
  obtain⟨d,IC,hd2⟩:=hd;generalize upd H e0 (.dK [])=H1 at s1 hd2;refine⟨_,ff.k (k:= .inl (t:Int)) (s1 _ _ f1),?_⟩;show ∃a kvs,(bz kv (.inl (t:Int))).getD (V.ref e0)= .ref a∧_;rw[IC];refine⟨d,_,rfl,hd2,fun o nf=> ?_⟩;have DX:upd H1 d (.gE o (.dK (bG R rs t))) d=some (.gE o (.dK (bG R rs t))):=ae;have Dl:(bG R rs t).length=(bV R t).length:=List.length_map ..;refine tR (fun j v H' =>∃wt,v= .ref wt∧H' wt=some (.tup (oz t (aT R ((bV R t).getD j 0))))) (Et DX) (by rw[Dl];exact Nat.le_of_lt (bX (by lia))) ?_ ?_ ?_
  ·rintro j v Ha Hb k ⟨wt,h1,h2⟩
   exact⟨wt,h1,k _ _ h2⟩
  ·intro j x H' C1 hj sm hx c1;rw[Dl] at hj;obtain⟨kk,vv,h1,rfl⟩:=hx;unfold bG at h1;rw[List.getElem?_map,dv 0 hj] at h1;cases h1;exact⟨(gw.refl _).own (by decide),_,rfl,_,rfl,(show 2≤sizeLine by decide),fun wt hwt=>c1 _ _ (au.upd hwt) ⟨wt,rfl,ae⟩⟩
  ·intro p H' ys hp sm hl' rM hys;refine⟨d,o,_,sm _ _ DX,nf,?_⟩;have pd:p≠d:=fun z=>by rw[z,DX] at hp;cases hp
   have Hj:H1 p=none:=by rw[af pd] at hp;exact hp
   refine q p ys _ (s1.free Hj) (fun c oo e=> ?_) (by rw[af pd];exact hl') (by rw[rM,Dl]) fun j v e=> ?_
   ·by_cases z:c=d
    ·subst z;have:=s1 _ _ e;rw[hd2] at this;cases this;exact ae
    ·rw[af z];exact sm _ _ (by rw[af z];exact s1 _ _ e)
   ·obtain⟨wt,h1,h2⟩:=hys j v e;refine⟨wt,h1,?_⟩;rw[af (fun z=>by rw[z,sm _ _ DX] at h2;cases h2)];exact h2
def Pf(C:Addr):Sp:=fun vs H Q _=>∃a ps ts L pk R N rs cs,∃(n:Nat) (o:Option Nat),vs=[.ref a.f,.int n]∧aF C H a ps ts L pk R N rs cs∧(∀r∈R,1≤r.2)∧cs.length=R.length∧ps.length=ts.length∧ts[n]? =some none∧ps[n]? =some o∧R.length≤1000∧
 ∀v H',au H H'→Bo R cs H' n o v→Q v H'
theorem qO(T:Txt K mg A):aV P w K mg base eI 8 A.gN A.gJ ["self","frame"] (Pf A.aj):=by
 have jI:=(mZ (P:=P) (w:=w) (base:=base) T).mono (by decide:_≤7);have zb:=(xr (P:=P) (w:=w) (base:=base) T).mono (by decide:_≤7);have my:=pJ (P:=P) (w:=w) (base:=base) T;refine T.sy.ok qR (fun vs H Q E h=> ?_) (fun cF Ar outer s H vs Q E hr h=> ?_)
 ·obtain⟨a,ps,ts,L,pk,R,N,rs,cs,n,o,rfl,_⟩:=h;rfl
 ·obtain⟨a,ps,ts,L,pk,R,N,rs,cs,n,o,rfl,F,lz,vB,hl,fE,Ku,hR,q⟩:=h;have hu:=dS hr;obtain⟨dx,ho⟩:=F.ob;have xG:=qG R n;refine⟨_,(aq (aG (oR (aa (pv 1) (aa (aR (pv 0) T.ar T.pB jI hr T.pq .nil aw (aa (pv 1) ah)) (aa (cj gv (by rfl) T.ki Boot.«tuple» (aa (dA (N:=["way","self"]) (k:=1) (js:=[0]) rfl (bP (by kernel_rfl)) (cx (aR (pv 0) T.ar T.yB zb hr T.zz .nil aw (aa (pv 1) ah))) (fun _ _ _ _ _=>⟨(bc (i:=0) (show(["way","self"]:aX).Nodup by decide+kernel) rfl (Or.inl rfl) (Or.inr rfl)),za,(cj (pR (K:=K) rfl) (by rfl) T.ki Boot.«tuple» (aa (aR (pv 1) T.ar T.rp my hr T.qZ .nil aw (aa (pv 0) ah)) ah))⟩)) ah)) ah)))))),?_⟩;refine⟨_,rfl,_,rfl,a.f,dx,_,rfl,ho,aC (by decide+kernel),_,rfl,a.f,a.pa,a.ta,ps,ts,n,o,rfl,F.fr,Ku,?_⟩;refine⟨_,rfl,a.f,dx,_,rfl,ho,aC (by decide+kernel),_,rfl,a,ps,ts,L,pk,R,N,rs,cs,n,rfl,F,hl,fE,hR,fun l ys H1 C7 s1 zQ rM hys=> ?_⟩;refine⟨l,rfl,⟨_,bA.of zQ⟩,?_⟩;refine tR (fun j v H' =>∃u m vs,v= .ref u∧(bV R n)[j]? =some m∧cs[m]? =some vs∧H' u=some (.tup vs)) (dg (bA.of zQ)).g (by rw[rM];exact Nat.le_of_lt (bX (by lia))) ?_ ?_ ?_
  ·rintro j v Ha Hb kt ⟨u,m,vs,h1,h2,h3,h4⟩
   exact⟨u,m,vs,h1,h2,h3,kt _ _ h4⟩
  ·intro j x H' C1 hj sm hx c1;obtain⟨wt,rfl,hw⟩:=hys j x hx;rw[rM] at hj;have ei:=dv 0 hj;generalize (bV R n).getD j 0=m at ei hw;have hm:=jW (List.mem_of_getElem? ei);have qJ:=nO (List.mem_of_getElem? ei);have F' :=(F.same s1).same sm;obtain⟨DH,Bf⟩:=F'.ob;have QT:cs[m]? =some cs[m]:=by simp
   refine⟨(gw.refl _).own (by decide),?_⟩;refine⟨_,rfl,a.f,DH,_,rfl,Bf,aC (by decide+kernel),_,rfl,a,ps,ts,L,pk,R,N,rs,cs,m,wt,cs[m],rfl,F',lz,hl,⟨hm,(by rw[qJ];exact fE),(by rw[qJ];exact sm _ _ hw)⟩,QT,fun l2 H2 mW s2 e2=> ?_⟩;exact⟨l2,_,rfl,.inl ⟨bA.of e2,fun u hu=>c1 _ _ (s2.trans (au.upd hu)) ⟨u,m,_,rfl,ei,QT,ae⟩⟩⟩
  ·intro p H2 LO hp sm w_ EW hE;refine⟨p,_,rfl,.inl ⟨bA.of w_,fun tt VJ=>⟨(show 3≤sizeLine by decide),fun t ht=> ?_⟩⟩⟩;have s3:=au.upd (o:= .tup LO) VJ;have s4:=au.upd (o:= .tup [V.int n,oV o,.ref tt]) ht;refine q _ _ (s1.trans (sm.trans (s3.trans s4))) ⟨t,tt,LO,rfl,ae,s4 _ _ ae,by rw[EW,rM],fun j x e=> ?_⟩;obtain⟨u,m,vs,e1,e2,e3,e4⟩:=hE j x e;exact⟨u,m,vs,e1,e2,e3,s4 _ _ (s3 _ _ e4)⟩
def Ig(C:Addr):Sp:=fun vs H Q _=>∃a ps ts L pk R N rs cs,vs=[.ref a.f]∧aF C H a ps ts L pk R N rs cs∧(∀r∈R,1≤r.2)∧cs.length=R.length∧ps.length=ts.length∧ts.length≤101∧R.length≤1000∧
 ∀v H',au H H'→xc ps ts L R cs H' v→Q v H'
theorem mQ(T:Txt K mg A):aV P w K mg base eI 9 A.jX A.jU ["self"] (Ig A.aj):=by
 have sC:=qO (P:=P) (w:=w) (base:=base) T;have cf:=(eF (P:=P) (w:=w) (base:=base) T).mono (by decide:_≤8);refine T.vI.ok uS (fun vs H Q E h=> ?_) (fun cF Ar outer s H vs Q E hr h=> ?_)
 ·obtain⟨a,ps,ts,L,pk,R,N,rs,cs,rfl,_⟩:=h;rfl
 ·obtain⟨a,ps,ts,L,pk,R,N,rs,cs,rfl,F,lz,vB,hl,ht1,hR,q⟩:=h;have hu:=dS hr;obtain⟨dx,ho⟩:=F.ob;have Tc:=iy ts;refine⟨_,(aq (aG (oR (aa (b8 (pv 0) rfl) (aa (cj gv (by rfl) T.ki Boot.«tuple» (aa (dA (N:=["number","self"]) (k:=1) (js:=[0]) rfl (bP (by kernel_rfl)) (cx (b_ (pv 0) T.ar T.fc cf hr T.e7 .nil aw)) (fun _ _ _ _ _=>⟨(bc (i:=0) (show(["number","self"]:aX).Nodup by decide+kernel) rfl (Or.inl rfl) (Or.inr rfl)),za,(aR (pv 1) T.ar T.sj sC hr T.sL .nil aw (aa (pv 0) ah))⟩)) ah)) ah))))),?_⟩;refine⟨_,rfl,a.f,A.aj,dx,_,_,rfl,ho,T.ar,T.gj,Bk _ _ _,?_⟩;refine⟨_,rfl,a.f,dx,_,rfl,ho,aC (by decide+kernel),a.f,a.pa,a.ta,ps,ts,rfl,F.fr,by lia,fun sl H1 Zs s1 HZ=> ?_⟩;refine⟨sl,rfl,⟨_,bA.of HZ⟩,?_⟩;refine tR (fun j v H' =>∃n o,(aQ ts)[j]? =some n∧ps[n]? =some o∧Bo R cs H' n o v) (dg (bA.of HZ)).g (by rw[List.length_map];exact Nat.le_of_lt (bX (by lia))) ?_ ?_ ?_
  ·rintro j v Ha Hb kt ⟨n,o,h1,h2,h3⟩
   exact⟨n,o,h1,h2,h3.kept kt⟩
  ·intro j x H' C1 hj sm hx c1;rw[List.getElem?_map] at hx
   cases en:(aQ ts)[j]? with
   |none=>rw[en] at hx;cases hx
   |some n=>
    rw[en] at hx;cases hx;have F' :=(F.same s1).same sm;obtain⟨DH,Bf⟩:=F'.ob;have fE:ts[n]? =some none:=eq_of_beq (fR.mp (List.mem_of_getElem? en))
    have hnl:n<ps.length:=by
     have:=(List.getElem?_eq_some_iff.mp fE).1
     lia
    have JL:ps[n]? =some ps[n]:=by simp[hnl]
    exact⟨(gw.refl _).own (by decide),_,rfl,a.f,DH,_,rfl,Bf,aC (by decide+kernel),_,rfl,a,ps,ts,L,pk,R,N,rs,cs,n,_,rfl,F',lz,vB,hl,fE,JL,hR,fun v H2 s2 pf=>c1 _ _ s2 ⟨n,_,en,JL,pf⟩⟩
  ·intro p H2 LO hp sm w_ EW hE;rw[List.length_map] at EW;refine⟨p,_,rfl,.inl ⟨bA.of w_,fun tt VJ=>⟨(show 2≤sizeLine by decide),fun t ht=> ?_⟩⟩⟩;have s3:=au.upd (o:= .tup LO) VJ;have s4:=au.upd (o:= .tup [V.int L,.ref tt]) ht;refine q _ _ (s1.trans (sm.trans (s3.trans s4))) ⟨t,tt,LO,rfl,ae,s4 _ _ ae,EW,fun j x e=> ?_⟩;obtain⟨n,o,e1,e2,e3⟩:=hE j x e;exact⟨n,o,e1,e2,e3.kept fun c xs e=>s4 _ _ (s3 _ _ e)⟩
def Uk:Sp:=fun vs H Q _=>∃m ps ts L top R ws ms cs,vs=[.ref m.d]∧aP H m ps ts L top R ws ms cs∧ps.length=ts.length∧ts.length≤101∧R.length≤1000∧
 ∀v H',au H H'→xc ps ts L R cs H' v→Q v H'
theorem pA(T:Txt K mg A):aV P w K mg base eI 3 A.ll A.kE ["_law_model"] Uk:=by
 have cm:=(fQ (P:=P) (w:=w) (base:=base) T).mono (by decide:_≤2);have oO:=(rB (P:=P) (w:=w) (base:=base) T).mono (by decide:_≤2);refine T.iE.ok gy (fun vs H Q E h=> ?_) (fun cF Ar outer s H vs Q E hr h=> ?_)
 ·obtain⟨m,ps,ts,L,top,R,ws,ms,cs,rfl,_⟩:=h;rfl
 ·obtain⟨m,ps,ts,L,top,R,ws,ms,cs,rfl,M,hl,ht1,hR,q⟩:=h;have hu:=dS hr;have Tc:=iy ts;refine⟨_,(ak (a_ (i:=1) gy.nd rfl (Or.inl rfl) (bN ah)) (ak (gO PassesOwn.never rfl (cx (ay cm hr rfl T.eL T.dj.kp T.eR .nil aw (aa (pv 0) ah))) (bc (i:=2) gy.nd rfl (Or.inl rfl) (Or.inl rfl)) (ak (a_ (i:=3) gy.nd rfl (Or.inl rfl) (cj gv (by rfl) T.ki Boot.«tuple» (aa (dA (N:=["_law_way","_law_model"]) (k:=1) (js:=[0]) rfl (bP (by kernel_rfl)) (cx (ay oO hr rfl T.s_ T.nu.kp T.uj .nil aw (aa (pv 0) (aa (pv 2) ah)))) (fun _ _ _ _ _=>⟨(bc (i:=0) (show(["_law_way","_law_model"]:aX).Nodup by decide+kernel) rfl (Or.inl rfl) (Or.inr rfl)),za,(cj (pR (K:=K) rfl) (by rfl) T.ki Boot.«tuple» (aa (aN hu (aN hu (pv 1) aS (fun _ _=>rfl)) (pv 0) (fun _ _=>rfl)) ah))⟩)) ah))) (aq (aZ (vy plainAttrs_list PySem.F.slot_list_append PySem.F.type_list_append eW (pv 1) (aa (oR (aa (pv 2) (aa (bB bj (aN hu (pv 0) aS (fun _ _=>rfl)) (pv 2) (fun _ _=>rfl)) (aa (pv 3) ah)))) ah)))))) (aq (aG (oR (aa (aN hu (pv 0) aS (fun _ _=>rfl)) (aa (cj gv (by rfl) T.ki Boot.«tuple» (aa (pv 1) ah)) ah))))))),?_⟩;refine⟨(show 0≤sizeLine by decide),fun fl Dl=> ?_⟩;have s0:=au.upd (o:= .lst []) Dl;have e0:upd H fl (.lst []) fl=some (.lst []):=ae;generalize upd H fl (.lst [])=H0 at s0 e0;refine⟨_,rfl,m.d,m.ha,m.tk,ps,ts,rfl,(M.same s0).mod,by lia,fun sl H1 Zs s1 HZ=> ?_⟩;have nsl:sl≠fl:=(ag e0 Zs).symm;refine⟨sl,rfl,⟨_,bA.of HZ⟩,?_⟩;refine gg (K:=K) (a:=sl) (xs:=(aQ ts).map nV) (fun j σ H' =>∃(x2 x3:Option V) (ys:az),σ=[some (.ref m.d),some (.ref fl),x2,x3]∧H' fl=some (.lst ys)∧ys.length=j∧(∀i x,ys[i]? =some x→∃n o,(aQ ts)[i]? =some n∧ps[n]? =some o∧Bo R cs H' n o x)∧∀c q,c≠fl→H1 c=some q→H' c=some q) ⟨_,_,[],rfl,s1 _ _ e0,rfl,(fun i x e=>by rw[List.getElem?_nil] at e;cases e),fun c q _ e=>e⟩ ?_ ?_ ?_
  ·rintro j σ H' _ ⟨x2,x3,ys,rfl,_,_,_,kk⟩
   exact bA.of (kk _ _ nsl HZ)
  ·rintro j x σ H2 hx ⟨x2,x3,ys,rfl,WE,rM,hE,kk⟩
   rw[List.getElem?_map] at hx
   cases en:(aQ ts)[j]? with
   |none=>rw[en] at hx;cases hx
   |some n=>
    rw[en] at hx;cases hx;have fE:ts[n]? =some none:=eq_of_beq (fR.mp (List.mem_of_getElem? en));have Gr:=(List.getElem?_eq_some_iff.mp en).1
    have hnl:n<ps.length:=by
     have:=(List.getElem?_eq_some_iff.mp fE).1
     lia
    have JL:ps[n]? =some ps[n]:=by simp[hnl]
    have sH2:au H H2:=fun c q e=>kk c q (ag e Dl) (s1 _ _ (s0 _ _ e));have M2:=M.same sH2;have xG:=qG R n;refine⟨_,rfl,_,rfl,m,ps,ts,L,top,R,ws,ms,cs,n,rfl,M2,hR,fun gl H3 hgl s3 hg=> ?_⟩;refine⟨gl,rfl,⟨_,bA.of hg⟩,?_⟩;have Ur:(wf ws (bV R n)).length=(bV R n).length:=List.length_map ..;refine tR (fun j v H' =>∃u m vs,v= .ref u∧(bV R n)[j]? =some m∧cs[m]? =some vs∧H' u=some (.tup vs)) (dg (bA.of hg)).g (by rw[Ur];exact Nat.le_of_lt (bX (by lia))) ?_ ?_ ?_
    ·rintro j v Ha Hb kt ⟨u,m,vs,h1,h2,h3,h4⟩
     exact⟨u,m,vs,h1,h2,h3,kt _ _ h4⟩
    ·intro i x H' C1 hi sm hx c1;rw[Ur] at hi;have M' :=(M2.same s3).same sm;have ei:=dv 0 hi;have him:=jW (List.mem_of_getElem? ei);obtain⟨b,vs,e1,e2,e3,e4,e5⟩:=M'.at_ him;unfold wf at hx;rw[List.getElem?_map,ei] at hx;cases hx;refine⟨(gw.refl _).own (by decide),?_⟩;refine⟨_,rfl,m.d,_,rfl,M'.D_,_,rfl,m.ca,_,rfl,e4,b,_,rfl,.inl ⟨bA.of e5,fun u hu=>c1 _ _ (au.upd hu) ⟨u,_,vs,rfl,ei,e2,ae⟩⟩⟩
    ·intro p H4 LO hp sm w_ EW hE2;rw[Ur] at EW;refine⟨p,_,rfl,.inl ⟨bA.of w_,fun tt VJ=> ?_⟩⟩;have s5:=au.upd (o:= .tup LO) VJ;have e5:upd H4 tt (.tup LO) tt=some (.tup LO):=ae;generalize upd H4 tt (.tup LO)=H5 at s5 e5;have s25:=s3.trans (sm.trans s5);have M5:=M2.same s25;refine⟨_,rfl,.inl ⟨rfl,_,bA.of (s25 _ _ WE)⟩,?_⟩;refine⟨_,rfl,_,rfl,m.d,_,rfl,M5.mod.BN,_,rfl,m.ha,_,_,_,rfl,rfl,bA.of M5.hl,jS JL,_,rfl,(show 3≤sizeLine by decide),fun t ht=> ?_⟩;have s6:=au.upd (o:= .tup [nV n,oV ps[n],.ref tt]) ht;have e6:upd H5 t (.tup [nV n,oV ps[n],.ref tt]) t=some (.tup [nV n,oV ps[n],.ref tt]):=ae;generalize upd H5 t (.tup [nV n,oV ps[n],.ref tt])=H6 at s6 e6;have s26:=s25.trans s6;refine⟨fl,_,_,rfl,rfl,s26 _ _ WE,by rw[rM];exact bX (by lia),?_⟩
     have kt7:∀c xs,H6 c=some (.tup xs)→upd H6 fl (.lst (ys++[.ref t])) c=some (.tup xs):=fun c xs e=>by
      rw[af (aK e (s26 _ _ WE) (by intro z;cases z))];exact e
     refine⟨_,_,ys++[.ref t],rfl,ae,by rw[List.length_append,rM];rfl,fun i x e=> ?_,fun c q h e=> ?_⟩
     ·by_cases hi:i<ys.length
      ·rw[List.getElem?_append_left hi] at e;obtain⟨n',o',e1,e2,e3⟩:=hE i x e;exact⟨n',o',e1,e2,e3.kept fun c xs e=>kt7 c xs (s26 _ _ e)⟩
      ·rw[List.getElem?_append_right (by lia)] at e
       have hi0:i - ys.length=0:=by
        have:=(List.getElem?_eq_some_iff.mp e).1;simp at this
        lia
       rw[hi0] at e;cases e;have WK:i=j:=by lia
       subst WK;refine⟨n,_,en,JL,t,tt,LO,rfl,kt7 _ _ e6,kt7 _ _ (s6 _ _ e5),EW,fun i2 x2 e2=> ?_⟩;obtain⟨u,m',vs,f1,f2,f3,f4⟩:=hE2 i2 x2 e2;exact⟨u,m',vs,f1,f2,f3,kt7 _ _ (s6 _ _ (s5 _ _ f4))⟩
     ·rw[af h];exact s26 _ _ (kk c q h e)
  ·rintro σ H2 ⟨x2,x3,ys,rfl,WE,rM,hE,kk⟩
   have sH2:au H H2:=fun c q e=>kk c q (ag e Dl) (s1 _ _ (s0 _ _ e));rw[List.length_map] at rM;refine⟨_,rfl,m.d,_,rfl,(M.same sH2).getL,_,rfl,fl,_,rfl,.inl ⟨bA.of WE,fun tt VJ=>⟨(show 2≤sizeLine by decide),fun t ht=> ?_⟩⟩⟩;have s3:=au.upd (o:= .tup ys) VJ;have s4:=au.upd (o:= .tup [V.int L,.ref tt]) ht;refine q _ _ (sH2.trans (s3.trans s4)) ⟨t,tt,ys,rfl,ae,s4 _ _ ae,rM,fun j x e=> ?_⟩;obtain⟨n,o,e1,e2,e3⟩:=hE j x e;exact⟨n,o,e1,e2,e3.kept fun c xs e=>s4 _ _ (s3 _ _ e)⟩
end
theorem _root_.L2.aV.toX{P:Program}{w:World}{K:Frag}{mg:Str→aH}{base:Heap}{k:Nat}{f:Addr}{fd:FuncData}{ps:aX}{sp:Sp}(F:aV P w K mg base eI k f fd ps sp):aV P w K mg base (vL P w) k f fd ps sp:=
 ⟨F.len,fun A outer s H args us vs Q E hr he hb hv hs=>codeAny_mono (F.run A outer s H args us vs Q E hr he hb hv hs) fun r s' h=>by
  cases r with
  |error e=>exact False.elim h
  |ok fl=>cases fl<;>exact h⟩
def XT(a b:Sp):Sp:=fun vs H Q E=>a vs H Q E∨b vs H Q E
theorem _root_.L2.aV.or{P:Program}{w:World}{K:Frag}{mg:Str→aH}{base:Heap}{CX:AS}{k:Nat}{f:Addr}{fd:FuncData}{ps:aX}{a b:Sp}(F:aV P w K mg base CX k f fd ps a)(G:aV P w K mg base CX k f fd ps b):aV P w K mg base CX k f fd ps (XT a b):=
 ⟨fun vs H Q E h=>h.elim (F.len vs H Q E) (G.len vs H Q E),fun A outer s H args us vs Q E hr he hb hv hs=>hs.elim (F.run A outer s H args us vs Q E hr he hb hv) (G.run A outer s H args us vs Q E hr he hb hv)⟩
section
variable{P:Program}{w:World}{K:Frag}{mg:Str→aH}{base:Heap}{A:pH}
def ahy(K:Frag):Sp:=fun vs H Q _=>∃a C dd n x,vs=[.ref a,x]∧H a=some (.ext (cX a C dd n))∧ExcC K C∧Q .bH H
theorem dh(T:Txt K mg A):aV P w K mg base eI 1 A.dF A.fq ["self","text"] (ahy K):=by
 refine T.qp.ok pF (fun vs H Q E h=> ?_) (fun cF Ar outer s H vs Q E hr h=> ?_)
 ·obtain⟨a,C,dd,n,x,rfl,_⟩:=h;rfl
 ·obtain⟨a,C,dd,n,x,rfl,ea,hc,k⟩:=h;refine⟨_,(aq (aZ (LQ rfl T.pe (aa (pv 0) (aa (pv 1) ah))))),?_⟩;exact⟨_,rfl,_,rfl,a,C,dd,n,x,rfl,ea,hc,k⟩
def aaN(C:Addr)(f g:Str):Sp:=fun vs H Q _=>∃a x y,vs=[.ref a,x,y]∧H a=some (.ext (cX a C none true))∧∀dx,H dx=none→dx≠a→Q .bH (upd (upd (upd H a (.ext (cX a C (some dx) true))) dx (.xd [(f,x)])) dx (.xd (cq g y [(f,x)])))
theorem vc(T:Txt K mg A):aV P w K mg base eI 2 A.gA A.jK ["self","found","by"] (aaN A.fw "found" "by"):=by
 have bO:=dh (P:=P) (w:=w) (base:=base) T;refine T.vY.ok uV (fun vs H Q E h=> ?_) (fun cF Ar outer s H vs Q E hr h=> ?_)
 ·obtain⟨a,x,y,rfl,_⟩:=h;rfl
 ·obtain⟨a,x,y,rfl,ea,k⟩:=h;refine⟨_,(ak (aZ (qx T.dz rfl T.lQ bO hr T.dG .nil aw (aa (pv 0) (aa aS ah)))) (ak (tm (pv 0) (pv 1) rfl) (aq (tm (pv 0) (pv 2) rfl)))),?_⟩;refine⟨_,rfl,a,A.fw,none,true,_,rfl,ea,T.BO.toExcC,?_⟩;refine⟨_,rfl,_,rfl,a,A.fw,true,rfl,T.LZ,T.BG,.inl ⟨ea,fun dx hn ne=> ?_⟩⟩;exact⟨_,rfl,_,rfl,a,A.fw,true,rfl,T.LZ,T.Au,.inr ⟨dx,_,(by rw[af ne.symm,ae]),ae,ne,(show 1≤900 by decide),k dx hn ne⟩⟩
end
theorem VM{K:Frag}{C:Addr}{f g:Str}{k:Ends}{σ:L2.St}{v y:V}{H:Hp}{E:XK}{t:TA}(hc:ExcC K C)(ht:∀Q:az→Hp→Prop,Q [v,y] H→t σ H Q)
 (r:∀dx H2,au H H2→H2 dx=some (.xd (cq g y [(f,v)]))→E (.ref C) (some dx) H2):EE K E (EA C (aaN C f g) E0 t) k σ H:=by
 refine ht _ fun x hx=>⟨x,v,y,rfl,ae,fun dx Cq ne=>⟨rfl,x,C,some dx,rfl,(by rw[af (fun z=>ne z.symm),af (fun z=>ne z.symm),ae]),hc,r dx _ (fun c o e=> ?_) ?_⟩⟩
 ·have hd:H dx=none:=by rw[af ne] at Cq;exact Cq
  rw[af (ag e hx),af (ag e hd),af (ag e hd),af (ag e hx),af (ag e hx)];exact e
 ·rw[af ne,ae]
structure Bt(H:Hp)(ts:aO)(R:Rm)(i j:Nat)(t:Addr):Prop where
 hi:i<R.length
 st:ts[(R.getD i (0,0)).1]? =some (some j)
 e:H t=some (.tup (oz (R.getD i (0,0)).1 (aT R i)))
theorem Bt.same{H H' :Hp}{ts:aO}{R:Rm}{i j:Nat}{t:Addr}(w:Bt H ts R i j t)(s:au H H'):Bt H' ts R i j t:=⟨w.hi,w.st,s _ _ w.e⟩
def Kz(A:pH)(H:Hp)(t:Addr)(j:Nat)(E:XK):Prop:=∀dx H2,au H H2→H2 dx=some (.xd (cq "by" (.int j) [("found",.ref t)]))→E (.ref A.fw) (some dx) H2
section
variable{P:Program}{w:World}{K:Frag}{mg:Str→aH}{base:Heap}{A:pH}
def qF(A:pH)(n:Nat):Sp:=fun vs H _ E=>∃a ps ts L pk R N rs cs i j t,∃xs:az,vs= .ref a.f:: .ref t::xs∧xs.length=n∧aF A.aj H a ps ts L pk R N rs cs∧(∀r∈R,1≤r.2)∧ps.length=ts.length∧Bt H ts R i j t∧Kz A H t j E
theorem j8(T:Txt K mg A):aV P w K mg base (vL P w) 6 A.bR A.bT ["self","thing"] (qF A 0):=by
 have cc:=(jR (P:=P) (w:=w) (base:=base) T).mono (by decide:_≤5);have dB:=gR (P:=P) (w:=w) (base:=base) T;have pD:=(vc (P:=P) (w:=w) (base:=base) T).mono (by decide:_≤4);refine T.hV.Rb cY (fun vs H Q E h=> ?_) (fun cF Ar outer s H vs Q E hr h=> ?_)
 ·obtain⟨a,ps,ts,L,pk,R,N,rs,cs,i,j,t,xs,rfl,hx,_⟩:=h;rw[List.length_cons,List.length_cons,hx];rfl
 ·obtain⟨a,ps,ts,L,pk,R,N,rs,cs,i,j,t,xs,rfl,hx,F,lz,hl,ga,r⟩:=h;obtain rfl:=List.length_eq_zero_iff.mp hx;have hu:=dS hr;obtain⟨dx,ho⟩:=F.ob;refine⟨_,(ak (cg (fH (eY (aR (pv 0) T.ar T.fD cc hr T.fC .nil aw (aa (pv 1) ah)))) (aq eT) bp) (ak (a_ (i:=2) cY.nd rfl (Or.inl rfl) (aR (pv 0) T.ar T.iD dB hr T.ia .nil aw (aa (bB iG (pv 1) ax (fun _ _=>rfl)) ah))) (ak (cg (ba we (pv 2) cW (bu _)) (aq (sR rfl gX (tZ T.BO pD hr rfl T.Jx T.vG aw (aa (pv 1) (aa (pv 2) ah)) (fun _ _ _ _ h=>by rw[pD.len _ _ _ _ h];decide)))) bp) (aq (aG (aN hu (aN hu (b8 (pv 0) rfl) (bB iG (pv 1) ax (fun _ _=>rfl)) (fun _ _=>rfl)) (bB iG (pv 1) ax (fun _ _=>rfl)) (fun _ _=>rfl))))))),?_⟩;refine⟨_,rfl,a.f,dx,_,rfl,ho,aC (by decide+kernel),_,rfl,a,ps,ts,L,pk,R,N,rs,cs,i,t,rfl,F,lz,ga.hi,ga.e,fun H1 s1=>⟨_,rfl,?_⟩⟩;have F1:=F.same s1;have e1:=s1 _ _ ga.e;obtain⟨pG,AO⟩:=F1.ob;refine⟨_,rfl,a.f,pG,_,rfl,AO,aC (by decide+kernel),_,rfl,t,_,0,_,rfl,rfl,qS.of e1,rfl,a.f,a.pa,a.ta,ps,ts,(R.getD i (0,0)).1,some j,rfl,F1.fr,hl,ga.st,?_⟩;refine⟨_,rfl,rfl,_,rfl,?_⟩;exact VM (K:=K) (f:="found") (g:="by") (k:={nx:=fun _ H' =>Q .bH H',rt:=Q}) T.BO.toExcC (fun Q' q=>⟨_,rfl,_,rfl,q⟩) fun DH H2 s2 e2=>r DH H2 (s1.trans s2) e2
theorem NU(T:Txt K mg A):aV P w K mg base (vL P w) 7 A.gW A.gU ["self","way","k"] (qF A 1):=by
 have aM:aV P w K mg base (vL P w) 6 A.bR A.bT ["self","thing"] (qF A 0):=j8 T;refine T.pS.Rb fU (fun vs H Q E h=> ?_) (fun cF Ar outer s H vs Q E hr h=> ?_)
 ·obtain⟨a,ps,ts,L,pk,R,N,rs,cs,i,j,t,xs,rfl,hx,_⟩:=h;rw[List.length_cons,List.length_cons,hx];rfl
 ·obtain⟨a,ps,ts,L,pk,R,N,rs,cs,i,j,t,xs,rfl,hx,F,lz,hl,ga,r⟩:=h;obtain⟨dx,ho⟩:=F.ob
  match xs,hx with
  |[x],_=>exact⟨_,(ak (a_ (i:=3) fU.nd rfl (Or.inl rfl) (aR (pv 0) T.ar T.bM aM hr T.bL .nil (ku gX trivial) (aa (pv 1) ah))) zV),_,rfl,a.f,dx,_,rfl,ho,aC (by decide+kernel),_,rfl,a,ps,ts,L,pk,R,N,rs,cs,i,j,t,[],rfl,rfl,F,lz,hl,ga,r⟩
theorem xu(T:Txt K mg A):aV P w K mg base (vL P w) 7 A.eA A.eB ["self","way"] (qF A 0):=by
 have aM:aV P w K mg base (vL P w) 6 A.bR A.bT ["self","thing"] (qF A 0):=j8 T;refine T.nP.Rb lZ (fun vs H Q E h=> ?_) (fun cF Ar outer s H vs Q E hr h=> ?_)
 ·obtain⟨a,ps,ts,L,pk,R,N,rs,cs,i,j,t,xs,rfl,hx,_⟩:=h;rw[List.length_cons,List.length_cons,hx];rfl
 ·obtain⟨a,ps,ts,L,pk,R,N,rs,cs,i,j,t,xs,rfl,hx,F,lz,hl,ga,r⟩:=h;obtain rfl:=List.length_eq_zero_iff.mp hx;obtain⟨dx,ho⟩:=F.ob;exact⟨_,(aq (aG (aE aU (by rfl) T.ee Boot.«len» (aa (aR (pv 0) T.ar T.bM aM hr T.bL .nil (ku gX trivial) (aa (pv 1) ah)) ah)))),_,rfl,a.f,dx,_,rfl,ho,aC (by decide+kernel),_,rfl,a,ps,ts,L,pk,R,N,rs,cs,i,j,t,[],rfl,rfl,F,lz,hl,ga,r⟩
end
theorem amF{A:pH}{H:Hp}{t:Addr}{Rr:Nat→Prop}{G:Prop}(E:XK)(key:∀j,Rr j→Kz A H t j E)(main:(∀j,Rr j→Kz A H t j E)→G):G:=main key
theorem YJ{σ:L2.St}(h:σ.length=4):∃a b c d,σ=[a,b,c,d]:=by
 match σ,h with
 |[a,b,c,d],_=>exact⟨a,b,c,d,rfl⟩
section
variable{P:Program}{w:World}{K:Frag}{mg:Str→aH}{base:Heap}{A:pH}
def Y8(C:Addr):Sp:=fun vs H Q _=>∃a ps ts L pk R N rs cs i t,∃o:Option Nat,vs=[.ref a.f,.ref t]∧aF C H a ps ts L pk R N rs cs∧cs.length=R.length∧(∀r∈R,1≤r.2)∧ps.length=ts.length∧i<R.length∧ts[(R.getD i (0,0)).1]? =some o∧H t=some (.tup (oz (R.getD i (0,0)).1 (aT R i)))∧∀H',au H H'→Q (oV o) H'
theorem ED(T:Txt K mg A):aV P w K mg base eI 8 A.u2 A.uN ["_law_house_here","_law_way"] (Y8 A.aj):=by
 have iF:aV P w K mg base (vL P w) 7 A.eA A.eB ["self","way"] (XT (Js A.aj) (qF A 0)):=(ra T).toX.or (xu T);refine T.z8.ok oA (fun vs H Q E h=> ?_) (fun cF Ar outer s H vs Q E hr h=> ?_)
 ·obtain⟨a,ps,ts,L,pk,R,N,rs,cs,i,t,o,rfl,_⟩:=h;rfl
 ·obtain⟨a,ps,ts,L,pk,R,N,rs,cs,i,t,o,rfl,F,vB,lz,hl,hi,fE,et,q⟩:=h;refine⟨_,(ak (a_ (i:=2) oA.nd rfl (Or.inl rfl) cW) (ak (DE (i:=3) rfl rfl oA.nd rfl rfl rfl T.Jx T.BO.toExcC (fun E pn W hw=>(aq (aZ (aR (pv 0) T.ar T.n8 iF hr T.nI .nil (ku hw trivial) (aa (pv 1) ah))))) (fun a=>(aq (a_ (i:=2) oA.nd rfl (Or.inl rfl) (sQ (K:=K) rfl (pv 3) rfl))))) (aq (aG (pv 2))))),?_⟩;obtain⟨dx,ho⟩:=F.ob;apply amF (A:=A) (H:=H) (t:=t) (Rr:=fun j=>o=some j)
  case main=>
   intro key;refine⟨_,rfl,a.f,dx,_,rfl,ho,aC (by decide+kernel),_,rfl,?_⟩
   cases o with
   |none=>
    exact .inl ⟨a,ps,ts,L,pk,R,N,rs,cs,i,t,cs[i]'(by lia),rfl,F,lz,hl,⟨hi,fE,et⟩,by simp[show i<cs.length by lia],fun H1 s1=>⟨_,rfl,q H1 s1⟩⟩
   |some j=>exact .inr ⟨a,ps,ts,L,pk,R,N,rs,cs,i,j,t,[],rfl,rfl,F,lz,hl,⟨hi,fE,et⟩,key j rfl⟩
  case key=>
   intro j hj;subst hj;intro xd H2 s2 ZF;refine⟨A.fw,rfl,T.DL,fun a' cI ea hlen=> ?_⟩;obtain⟨y0,y1,y2,y3,rfl⟩:=YJ hlen;exact⟨_,rfl,a',A.fw,xd,false,_,_,rfl,ea,ZF,T.Ut,T.Au,rfl,⟨_,rfl,q H2 s2⟩⟩
end
structure ka(H:Hp)(R:Rm)(f p:Nat)(t:Addr):Prop where
 e:H t=some (.tup (oz f p))
 no:∀i,i<R.length→(R.getD i (0,0)).1=f→aT R i≠p
theorem ka.same{H H' :Hp}{R:Rm}{f p:Nat}{t:Addr}(w:ka H R f p t)(s:au H H'):ka H' R f p t:=⟨s _ _ w.e,w.no⟩
theorem JA{R:Rm}{rs:aY}{f p:Nat}(h:∀i,i<R.length→(R.getD i (0,0)).1=f→aT R i≠p):bz (bG R rs f) (.inl (p:Int))=none:=by
 cases e:bz (bG R rs f) (.inl (p:Int)) with
 |none=>rfl
 |some v=>
  obtain⟨i,hi,e2⟩:=List.mem_map.mp (xp e);have h1:=congrArg Prod.fst e2;have h2:(aT R i:Int)=p:=Sum.inl.inj h1;exact absurd (by lia) (h i (jW hi) (nO hi))
section
variable{P:Program}{w:World}{K:Frag}{mg:Str→aH}{base:Heap}{A:pH}
def J3(C:Addr):Sp:=fun vs H Q _=>∃a ps ts L pk R N rs cs f p t,vs=[.ref a.f,.ref t]∧aF C H a ps ts L pk R N rs cs∧ka H R f p t∧∀H',au H H'→Q (.bl false) H'
theorem m_(T:Txt K mg A):aV P w K mg base eI 4 A.ix A.iz ["self","thing"] (J3 A.aj):=by
 have uZ:=xU (P:=P) (w:=w) (base:=base) T;refine T.qb.ok pz (fun vs H Q E h=> ?_) (fun cF Ar outer s H vs Q E hr h=> ?_)
 ·obtain⟨a,ps,ts,L,pk,R,N,rs,cs,f,p,t,rfl,_⟩:=h;rfl
 ·obtain⟨a,ps,ts,L,pk,R,N,rs,cs,f,p,t,rfl,F,nw,k⟩:=h;have hu:=dS hr;obtain⟨dx,ho⟩:=F.ob;obtain⟨kv,f1,f2,f3,f4⟩:=F.fl;have e:=nw.e;refine⟨_,(aq (aG (oJ (ay uZ hr rfl T.Af T.uA.kp T.zB .nil aw (aa (pv 1) ah)) (lW (LI (LM hu (bB iG (pv 1) ax (fun _ _=>rfl)) (pZ hu (b8 (pv 0) rfl) (bB iG (pv 1) ax (fun _ _=>rfl)) mT ⟨rfl,rfl,rfl,rfl⟩))))))),?_⟩;refine⟨_,rfl,t,_,_,rfl,e,_,rfl,kj ⟨_,rfl,t,_,1,_,rfl,rfl,qS.of e,rfl,_,rfl,a.f,A.aj,dx,_,_,rfl,ho,T.ar,T.cE,su _ _ _,a.fa,rfl,.inl ⟨_,.inl f1⟩,_,rfl,t,_,0,_,rfl,rfl,qS.of e,rfl,fun e0 GN=> ?_⟩⟩;have s1:=au.upd (o:= .dK []) GN;refine⟨_,ff.k (k:= .inl (f:Int)) (s1 _ _ f1),?_⟩
  have hd:∃d kd,((bz kv (.inl (f:Int))).getD (V.ref e0))= .ref d∧upd H e0 (.dK []) d=some (.dK kd)∧bz kd (.inl (p:Int))=none:=by
   rcases f3 f with⟨h1,h2⟩|⟨b,e1,e2,e3,e4,e5⟩
   ·rw[h1];exact⟨e0,[],rfl,ae,rfl⟩
   ·rw[e1];exact⟨b,_,rfl,s1 _ _ e5,JA nw.no⟩
  obtain⟨d,kd,IC,hd2,hd3⟩:=hd;rw[IC];refine⟨d,_,rfl,ff.k (k:= .inl (p:Int)) hd2,?_⟩;rw[hd3];exact k _ s1
def Ox(C:Addr)(f:Str):Sp:=fun vs H Q _=>∃a x,vs=[.ref a,x]∧H a=some (.ext (cX a C none true))∧∀dx,H dx=none→dx≠a→Q .bH (upd (upd H a (.ext (cX a C (some dx) true))) dx (.xd [(f,x)]))
theorem t8(T:Txt K mg A):aV P w K mg base eI 2 A.fN A.iZ ["self","found"] (Ox A.eG "found"):=by
 have bO:=dh (P:=P) (w:=w) (base:=base) T;refine T.uO.ok sV (fun vs H Q E h=> ?_) (fun cF Ar outer s H vs Q E hr h=> ?_)
 ·obtain⟨a,x,rfl,_⟩:=h;rfl
 ·obtain⟨a,x,rfl,ea,k⟩:=h;refine⟨_,(ak (aZ (qx T.dz rfl T.lQ bO hr T.dG .nil aw (aa (pv 0) (aa aS ah)))) (aq (tm (pv 0) (pv 1) rfl))),?_⟩;refine⟨_,rfl,a,A.eG,none,true,_,rfl,ea,T.wz.toExcC,?_⟩;exact⟨_,rfl,_,rfl,a,A.eG,true,rfl,T.PY,T.rj,.inl ⟨ea,fun dx hn ne=>k dx hn ne⟩⟩
theorem qV(T:Txt K mg A):aV P w K mg base eI 2 A.eh A.gP ["self","found"] (Ox A.cv "found"):=by
 have bO:=dh (P:=P) (w:=w) (base:=base) T;refine T.sf.ok qT (fun vs H Q E h=> ?_) (fun cF Ar outer s H vs Q E hr h=> ?_)
 ·obtain⟨a,x,rfl,_⟩:=h;rfl
 ·obtain⟨a,x,rfl,ea,k⟩:=h;refine⟨_,(ak (aZ (qx T.dz rfl T.lQ bO hr T.dG .nil aw (aa (pv 0) (aa aS ah)))) (aq (tm (pv 0) (pv 1) rfl))),?_⟩;refine⟨_,rfl,a,A.cv,none,true,_,rfl,ea,T.qE.toExcC,?_⟩;exact⟨_,rfl,_,rfl,a,A.cv,true,rfl,T.HK,T.pC,.inl ⟨ea,fun dx hn ne=>k dx hn ne⟩⟩
theorem sr(T:Txt K mg A):aV P w K mg base eI 2 A.eZ A.iH ["self","found"] (Ox A.cK "found"):=by
 have bO:=dh (P:=P) (w:=w) (base:=base) T;refine T.tS.ok sM (fun vs H Q E h=> ?_) (fun cF Ar outer s H vs Q E hr h=> ?_)
 ·obtain⟨a,x,rfl,_⟩:=h;rfl
 ·obtain⟨a,x,rfl,ea,k⟩:=h;refine⟨_,(ak (aZ (qx T.dz rfl T.lQ bO hr T.dG .nil aw (aa (pv 0) (aa aS ah)))) (aq (tm (pv 0) (pv 1) rfl))),?_⟩;refine⟨_,rfl,a,A.cK,none,true,_,rfl,ea,T.ua.toExcC,?_⟩;exact⟨_,rfl,_,rfl,a,A.cK,true,rfl,T.ML,T.pM,.inl ⟨ea,fun dx hn ne=>k dx hn ne⟩⟩
end
theorem El{K:Frag}{C:Addr}{fd:Str}{k:Ends}{σ:L2.St}{v:V}{H:Hp}{E:XK}{t:TA}(hc:ExcC K C)(ht:∀Q:az→Hp→Prop,Q [v] H→t σ H Q)
 (r:∀dx H2,au H H2→H2 dx=some (.xd [(fd,v)])→E (.ref C) (some dx) H2):EE K E (EA C (Ox C fd) E0 t) k σ H:=by
 refine ht _ fun x hx=>⟨x,v,rfl,ae,fun dx Cq ne=>⟨rfl,x,C,some dx,rfl,(by rw[af (fun z=>ne z.symm),ae]),hc,r dx _ (fun c o e=> ?_) ?_⟩⟩
 ·have hd:H dx=none:=by rw[af ne] at Cq;exact Cq
  rw[af (ag e hx),af (ag e hd),af (ag e hx),af (ag e hx)];exact e
 ·rw[af ne,ae]
def wo(C:Addr)(H:Hp)(v:V)(E:XK):Prop:=∀dx H2,au H H2→H2 dx=some (.xd [("found",v)])→E (.ref C) (some dx) H2
section
variable{P:Program}{w:World}{K:Frag}{mg:Str→aH}{base:Heap}{A:pH}
def sZ(A:pH):Sp:=fun vs H _ E=>∃a ps ts L pk R N rs cs f p t,vs=[.ref a.f,.ref t]∧aF A.aj H a ps ts L pk R N rs cs∧ka H R f p t∧wo A.eG H (.ref t) E
theorem qU(T:Txt K mg A):aV P w K mg base (vL P w) 6 A.bR A.bT ["self","thing"] (sZ A):=by
 have cc:=(m_ (P:=P) (w:=w) (base:=base) T).mono (by decide:_≤5);have mS:=(t8 (P:=P) (w:=w) (base:=base) T).mono (by decide:_≤4);refine T.hV.Rb cY (fun vs H Q E h=> ?_) (fun cF Ar outer s H vs Q E hr h=> ?_)
 ·obtain⟨a,ps,ts,L,pk,R,N,rs,cs,f,p,t,rfl,_⟩:=h;rfl
 ·obtain⟨a,ps,ts,L,pk,R,N,rs,cs,f,p,t,rfl,F,nw,r⟩:=h;have hu:=dS hr;obtain⟨dx,ho⟩:=F.ob;refine⟨_,(ak (cg (fH (eY (aR (pv 0) T.ar T.fD cc hr T.fC .nil aw (aa (pv 1) ah)))) (aq (sR rfl gX (tZ T.wz mS hr rfl T.Gy T.u7 aw (aa (pv 1) ah) (fun _ _ _ _ h=>by rw[mS.len _ _ _ _ h];decide)))) bp) zV),?_⟩;refine⟨_,rfl,a.f,dx,_,rfl,ho,aC (by decide+kernel),_,rfl,a,ps,ts,L,pk,R,N,rs,cs,f,p,t,rfl,F,nw,fun H1 s1=>⟨_,rfl,kj ?_⟩⟩;exact El (K:=K) (v:= .ref t) T.wz.toExcC (fun Q' q=>⟨_,rfl,q⟩) fun DH H2 s2 e2=>r DH H2 (s1.trans s2) e2
theorem w8(T:Txt K mg A):aV P w K mg base (vL P w) 7 A.eA A.eB ["self","way"] (sZ A):=by
 have aM:aV P w K mg base (vL P w) 6 A.bR A.bT ["self","thing"] (sZ A):=qU T;refine T.nP.Rb lZ (fun vs H Q E h=> ?_) (fun cF Ar outer s H vs Q E hr h=> ?_)
 ·obtain⟨a,ps,ts,L,pk,R,N,rs,cs,f,p,t,rfl,_⟩:=h;rfl
 ·obtain⟨a,ps,ts,L,pk,R,N,rs,cs,f,p,t,rfl,F,nw,r⟩:=h;obtain⟨dx,ho⟩:=F.ob;exact⟨_,(aq (aG (aE aU (by rfl) T.ee Boot.«len» (aa (aR (pv 0) T.ar T.bM aM hr T.bL .nil (ku gX trivial) (aa (pv 1) ah)) ah)))),_,rfl,a.f,dx,_,rfl,ho,aC (by decide+kernel),_,rfl,a,ps,ts,L,pk,R,N,rs,cs,f,p,t,rfl,F,nw,r⟩
def IT(C:Addr):Sp:=fun vs H Q _=>∃a ps ts L pk R N rs cs f p t,vs=[.ref a.f,.ref t]∧aF C H a ps ts L pk R N rs cs∧ka H R f p t∧∀H',au H H'→Q (.bl false) H'
theorem rW(T:Txt K mg A):aV P w K mg base eI 5 A.fT A.fP ["self","thing"] (IT A.aj):=by
 have cc:=m_ (P:=P) (w:=w) (base:=base) T;have fz:=(lY (P:=P) (w:=w) (base:=base) T).mono (by decide:_≤4);refine T.mO.ok lG (fun vs H Q E h=> ?_) (fun cF Ar outer s H vs Q E hr h=> ?_)
 ·obtain⟨a,ps,ts,L,pk,R,N,rs,cs,f,p,t,rfl,_⟩:=h;rfl
 ·obtain⟨a,ps,ts,L,pk,R,N,rs,cs,f,p,t,rfl,F,nw,k⟩:=h;obtain⟨dx,ho⟩:=F.ob;refine⟨_,(aq (aG (Gz (lN rT (pv 1) cW (bu _)) (Gz (ay fz hr rfl T.lP T.g7.kp T.lF .nil aw (aa (pv 1) ah)) (lW (aR (pv 0) T.ar T.fD cc hr T.fC .nil aw (aa (pv 1) ah))))))),?_⟩;exact⟨_,rfl,rfl,_,rfl,g8 ⟨_,rfl,t,_,rfl,nw.e,_,rfl,g8 ⟨_,rfl,a.f,dx,_,rfl,ho,aC (by decide+kernel),_,rfl,a,ps,ts,L,pk,R,N,rs,cs,f,p,t,rfl,F,nw,k⟩⟩⟩
def DQ(A:pH):Sp:=fun vs H _ E=>∃a ps ts L pk R N rs cs i t xs f p u,∃k:Nat,vs=[.ref a.f,.ref t,.int k,.ref u]∧aF A.aj H a ps ts L pk R N rs cs∧(∀r∈R,1≤r.2)∧ps.length=ts.length∧pw H ts R i t∧cs[i]? =some xs∧k<xs.length∧ka H R f p u∧wo A.cv H (.ref u) E
theorem yn(T:Txt K mg A):aV P w K mg base (vL P w) 7 A.jv A.ju ["self","way","k","value"] (DQ A):=by
 have aM:=cu (P:=P) (w:=w) (base:=base) T;have fK:=(nA (P:=P) (w:=w) (base:=base) T).mono (by decide:_≤6);have iP:=(rW (P:=P) (w:=w) (base:=base) T).mono (by decide:_≤6);have kO:=(qV (P:=P) (w:=w) (base:=base) T).mono (by decide:_≤5);refine T.vC.Rb km (fun vs H Q E h=> ?_) (fun cF Ar outer s H vs Q E hr h=> ?_)
 ·obtain⟨a,ps,ts,L,pk,R,N,rs,cs,i,t,xs,f,p,u,k,rfl,_⟩:=h;rfl
 ·obtain⟨a,ps,ts,L,pk,R,N,rs,cs,i,t,xs,f,p,u,k,rfl,F,lz,hl,wa,hc,hk,nw,r⟩:=h;obtain⟨dx,ho⟩:=F.ob;refine⟨_,(ak (a_ (i:=4) km.nd rfl (Or.inl rfl) (aR (pv 0) T.ar T.bM aM hr T.bL .nil aw (aa (pv 1) ah))) (ak (aZ (ay fK hr rfl T.lM T.gZ.kp T.lE .nil aw (aa (pv 4) (aa (pv 2) ah)))) (ak (cg (fH (eY (aR (pv 0) T.ar T.mX iP hr T.mK .nil aw (aa (pv 3) ah)))) (aq (sR rfl gX (tZ T.qE kO hr rfl T.zR T.si aw (aa (pv 3) ah) (fun _ _ _ _ h=>by rw[kO.len _ _ _ _ h];decide)))) bp) (aq (ph (pv 3) (nB (pv 4) (pv 2) ww)))))),?_⟩;refine⟨_,rfl,a.f,dx,_,rfl,ho,aC (by decide+kernel),_,rfl,a,ps,ts,L,pk,R,N,rs,cs,i,t,rfl,F,lz,hl,wa.hi,wa.st,wa.e,fun H1 s1=> ?_⟩;have F1:=F.same s1;obtain⟨r1,r2,ys,r3,r4⟩:=F1.room wa.hi;rw[hc] at r3;cases r3;refine⟨_,rfl,_,rfl,rs.getD i 0,xs,k,rfl,r4,hk,?_⟩;obtain⟨pG,AO⟩:=F1.ob;refine⟨_,rfl,a.f,pG,_,rfl,AO,aC (by decide+kernel),_,rfl,a,ps,ts,L,pk,R,N,rs,cs,f,p,u,rfl,F1,nw.same s1,fun H2 s2=>⟨_,rfl,kj ?_⟩⟩;exact El (K:=K) (v:= .ref u) T.qE.toExcC (fun Q' q=>⟨_,rfl,q⟩) fun DH H3 s3 e3=>r DH H3 (s1.trans (s2.trans s3)) e3
def zH(A:pH):Sp:=fun vs H _ E=>∃b xs,vs=[.ref b,.int (xs.length:Nat)]∧H b=some (.lst xs)∧wo A.cK H (.int (xs.length:Nat)) E
theorem zw(T:Txt K mg A):aV P w K mg base (vL P w) 4 A.jy A.jl ["room","thing"] (zH A):=by
 have ez:=(jm (P:=P) (w:=w) (base:=base) T).mono (by decide:_≤3);have lR:=sr (P:=P) (w:=w) (base:=base) T;refine T.gZ.Rb ud (fun vs H Q E h=> ?_) (fun cF Ar outer s H vs Q E hr h=> ?_)
 ·obtain⟨b,xs,rfl,_⟩:=h;rfl
 ·obtain⟨b,xs,rfl,hb,r⟩:=h;refine⟨_,(aq (cg (fH (eY (ay ez hr rfl T.kM T.iV.kp T.ly .nil aw (aa (pv 1) (aa ax (aa (bF j6 (aE aU (by rfl) T.ee Boot.«len» (aa (pv 0) ah)) ax) ah)))))) (aq (sR rfl gX (tZ T.ua lR hr rfl T.Dk T.tH aw (aa (pv 1) ah) (fun _ _ _ _ h=>by rw[lR.len _ _ _ _ h];decide)))) bp)),?_⟩;refine⟨_,rfl,_,rfl,b,_,rfl,.inl (bA.of hb),_,1,rfl,rfl,(xs.length:Int),0,_,rfl,_,rfl,?_⟩;rw[decide_eq_false (show ¬((xs.length:Int)≤(xs.length:Int) - 1) by lia),Bool.and_false];exact kj (El (K:=K) (v:= .int (xs.length:Nat)) T.ua.toExcC (fun Q' q=>⟨_,rfl,q⟩) r)
def J8(A:pH):Sp:=fun vs H _ E=>∃a ps ts L pk R N rs cs i t xs,vs=[.ref a.f,.ref t,.int (xs.length:Nat)]∧aF A.aj H a ps ts L pk R N rs cs∧(∀r∈R,1≤r.2)∧ps.length=ts.length∧pw H ts R i t∧cs[i]? =some xs∧wo A.cK H (.int (xs.length:Nat)) E
theorem yO(T:Txt K mg A):aV P w K mg base (vL P w) 7 A.gW A.gU ["self","way","k"] (J8 A):=by
 have aM:=cu (P:=P) (w:=w) (base:=base) T;have fK:aV P w K mg base (vL P w) 6 A.jy A.jl ["room","thing"] (zH A):=(zw T).mono (by decide);refine T.pS.Rb fU (fun vs H Q E h=> ?_) (fun cF Ar outer s H vs Q E hr h=> ?_)
 ·obtain⟨a,ps,ts,L,pk,R,N,rs,cs,i,t,xs,rfl,_⟩:=h;rfl
 ·obtain⟨a,ps,ts,L,pk,R,N,rs,cs,i,t,xs,rfl,F,lz,hl,wa,hc,r⟩:=h;obtain⟨dx,ho⟩:=F.ob;refine⟨_,(ak (a_ (i:=3) fU.nd rfl (Or.inl rfl) (aR (pv 0) T.ar T.bM aM hr T.bL .nil aw (aa (pv 1) ah))) (ak (aZ (ay fK hr rfl T.lM T.gZ.kp T.lE .nil (ku gX trivial) (aa (pv 3) (aa (pv 2) ah)))) (aq (aG (bB bj (pv 3) (pv 2) (fun _ _=>rfl)))))),?_⟩;refine⟨_,rfl,a.f,dx,_,rfl,ho,aC (by decide+kernel),_,rfl,a,ps,ts,L,pk,R,N,rs,cs,i,t,rfl,F,lz,hl,wa.hi,wa.st,wa.e,fun H1 s1=> ?_⟩;obtain⟨r1,r2,ys,r3,r4⟩:=(F.same s1).room wa.hi;rw[hc] at r3;cases r3;exact⟨_,rfl,_,rfl,rs.getD i 0,xs,rfl,r4,fun DH H2 s2 e2=>r DH H2 (s1.trans s2) e2⟩
def K_(C:Addr):Sp:=fun vs H Q _=>∃a ps ts L pk R N rs cs i t xs,vs=[.ref a.f,.ref t,.int (xs.length:Nat)]∧aF C H a ps ts L pk R N rs cs∧(∀r∈R,1≤r.2)∧ps.length=ts.length∧pw H ts R i t∧cs[i]? =some xs∧∀H',au H H'→Q (.int (xs.length:Nat)) H'
theorem Zm{σ:L2.St}(h:σ.length=5):∃a b c d e,σ=[a,b,c,d,e]:=by
 match σ,h with
 |[a,b,c,d,e],_=>exact⟨a,b,c,d,e,rfl⟩
theorem vD(T:Txt K mg A):aV P w K mg base eI 8 A.lq A.kY ["_law_house_here","_law_way","_law_k"] (K_ A.aj):=by
 have Dp:aV P w K mg base (vL P w) 7 A.gW A.gU ["self","way","k"] (J8 A):=yO T;refine T.qc.ok gC (fun vs H Q E h=> ?_) (fun cF Ar outer s H vs Q E hr h=> ?_)
 ·obtain⟨a,ps,ts,L,pk,R,N,rs,cs,i,t,xs,rfl,_⟩:=h;rfl
 ·obtain⟨a,ps,ts,L,pk,R,N,rs,cs,i,t,xs,rfl,F,lz,hl,wa,hc,q⟩:=h;refine⟨_,(ak (a_ (i:=3) gC.nd rfl (Or.inl rfl) cW) (ak (DE (i:=4) rfl rfl gC.nd rfl rfl rfl T.Dk T.ua.toExcC (fun E pn W hw=>(aq (aZ (aR (pv 0) T.ar T.Dj Dp hr T.CJ .nil (ku hw trivial) (aa (pv 1) (aa (pv 2) ah)))))) (fun a=>(aq (a_ (i:=3) gC.nd rfl (Or.inl rfl) (sQ (K:=K) rfl (pv 4) rfl))))) (aq (aG (pv 3))))),?_⟩;obtain⟨dx,ho⟩:=F.ob;refine⟨_,rfl,a.f,dx,_,rfl,ho,aC (by decide+kernel),_,rfl,_,rfl,a,ps,ts,L,pk,R,N,rs,cs,i,t,xs,rfl,F,lz,hl,wa,hc,?_⟩;intro xd H2 s2 ZF;refine⟨A.cK,rfl,T.vZ,fun a' cI ea hlen=> ?_⟩;obtain⟨y0,y1,y2,y3,y4,rfl⟩:=Zm hlen;exact⟨_,rfl,a',A.cK,xd,false,_,_,rfl,ea,ZF,T.Ma,T.pM,rfl,⟨_,rfl,q H2 s2⟩⟩
def jad(j:Nat):Str:=if j=0 then "way" else "value"
def JR(C:Addr):Sp:=fun vs H Q _=>∃a ps ts L pk R N rs cs f p t rl rooms,vs=[.ref a.f,.ref rl,.ref t]∧aF C H a ps ts L pk R N rs cs∧(∀r∈R,1≤r.2)∧ps.length=ts.length∧(∀(i:Nat) vs,cs[i]? =some vs→1≤vs.length)∧cs.length=R.length∧ka H R f p t∧H rl=some (.lst rooms)∧rooms.length≤1∧(∀(j:Nat) v,rooms[j]? =some v→∃i wt,v= .ref wt∧pw H ts R i wt)∧
 ∀fl ys H',au H H'→H' fl=some (.lst ys)→ys.length=1+rooms.length→(∀(j:Nat) v,ys[j]? =some v→∃l,v= .ref l∧H' l=some (.lst [.str (jad j),.ref t]))→Q (.ref fl) H'
theorem wL(T:Txt K mg A):aV P w K mg base eI 8 A.mj A.mB ["_law_house_here","_law_rooms","_law_way"] (JR A.aj):=by
 have iF:aV P w K mg base (vL P w) 7 A.eA A.eB ["self","way"] (sZ A):=w8 T;have qg:aV P w K mg base (vL P w) 7 A.jv A.ju ["self","way","k","value"] (DQ A):=yn T;refine T.rg.ok fi (fun vs H Q E h=> ?_) (fun cF Ar outer s H vs Q E hr h=> ?_)
 ·obtain⟨a,ps,ts,L,pk,R,N,rs,cs,f,p,t,rl,rooms,rfl,_⟩:=h;rfl
 ·obtain⟨a,ps,ts,L,pk,R,N,rs,cs,f,p,t,rl,rooms,rfl,F,lz,hl,X2,vB,nw,QX,hrn,hrw,q⟩:=h;have DI:(2:Nat)≤sizeLine:=by decide
  refine⟨_,(ak (a_ (i:=3) fi.nd rfl (Or.inl rfl) (bN ah)) (ak (Ao (i:=4) rfl rfl fi.nd rfl rfl rfl T.Gy T.wz.toExcC (fun E pn W hw=>(aq (aZ (Cp (pv 0) T.ar T.n8 iF hr T.nI .nil (yg hw) (aa (pv 2) ah))))) (fun a=>(aq (aZ (Mh (K:=K) rfl plainAttrs_list PySem.F.slot_list_append PySem.F.type_list_append eW (pv 3) (aa (bN (aa aS (aa (sQ (K:=K) rfl (pv 4) rfl) ah))) ah)))))) (ak (gO PassesOwn.never rfl (cx (pv 1)) (bc (i:=5) fi.nd rfl (Or.inl rfl) (Or.inl rfl)) (aq (Ao (i:=4) rfl rfl fi.nd rfl rfl rfl T.zR T.qE.toExcC (fun E pn W hw=>(aq (aZ (Cp (pv 0) T.ar T.vh qg hr T.vk .nil (yg hw) (aa (pv 5) (aa ax (aa (pv 2) ah))))))) (fun a=>(aq (aZ (Mh (K:=K) rfl plainAttrs_list PySem.F.slot_list_append PySem.F.type_list_append eW (pv 3) (aa (bN (aa aS (aa (sQ (K:=K) rfl (pv 4) rfl) ah))) ah)))))))) (aq (aG (pv 3)))))),?_⟩;refine⟨(show 0≤sizeLine by decide),fun fl Dl=> ?_⟩;have s0:=au.upd (o:= .lst []) Dl;have e0:upd H fl (.lst []) fl=some (.lst []):=ae;generalize upd H fl (.lst [])=H0 at s0 e0;obtain⟨dx,ho⟩:=(F.same s0).ob;refine⟨_,rfl,a.f,dx,_,rfl,ho,aC (by decide+kernel),_,rfl,a,ps,ts,L,pk,R,N,rs,cs,f,p,t,rfl,F.same s0,nw.same s0,?_⟩;intro xd H1 s1 ZF;refine⟨A.eG,rfl,T.zj,fun ea hea=> ?_⟩;refine⟨_,rfl,.inl ⟨rfl,_,bA.of (s1 _ _ e0)⟩,_,rfl,ea,A.eG,xd,false,_,_,rfl,hea,ZF,T.PD,T.rj,rfl,DI,fun l1 zQ=> ?_⟩;have s2:=au.upd (o:= .lst [V.str "way",.ref t]) zQ;have e2:upd H1 l1 (.lst [V.str "way",.ref t]) l1=some (.lst [V.str "way",.ref t]):=ae;generalize upd H1 l1 (.lst [V.str "way",.ref t])=H2 at s2 e2;have WE:=s2 _ _ (s1 _ _ e0);refine⟨fl,_,_,rfl,rfl,WE,(show 0<sizeLine by decide),?_⟩;have WU:l1≠fl:=(ag (s1 _ _ e0) zQ).symm;have s02:au H H2:=s0.trans (s1.trans s2);have e3:upd H2 fl (.lst ([]++[V.ref l1])) fl=some (.lst [V.ref l1]):=ae
  have k3:∀c q,c≠fl→H2 c=some q→upd H2 fl (.lst ([]++[V.ref l1])) c=some q:=fun c q h e=>by
   rw[af h];exact e
  have Ob:au H (upd H2 fl (.lst ([]++[V.ref l1]))):=fun c q e=>k3 c q (ag e Dl) (s02 _ _ e);generalize upd H2 fl (.lst ([]++[V.ref l1]))=H3 at e3 k3 Ob;refine⟨_,rfl,rl,rfl,⟨_,bA.of (Ob _ _ QX)⟩,?_⟩;refine gg (K:=K) (a:=rl) (xs:=rooms) (fun j σ H' =>∃(x5:Option V) (ys:az),σ=[some (.ref a.f),some (.ref rl),some (.ref t),some (.ref fl),none,x5]∧H' fl=some (.lst ys)∧ys.length=1+j∧(∀(i:Nat) v,ys[i]? =some v→∃l,v= .ref l∧l≠fl∧H' l=some (.lst [.str (jad i),.ref t]))∧au H H') ⟨_,[V.ref l1],rfl,e3,rfl,fun i v e=> ?_,Ob⟩ ?_ ?_ ?_
  ·have hi:i=0:=by
    have:=(List.getElem?_eq_some_iff.mp e).1;simpa using this
   subst hi;cases e;exact⟨l1,rfl,WU,k3 _ _ WU e2⟩
  ·rintro j σ H' _ ⟨x5,ys,rfl,_,_,_,sH⟩
   exact bA.of (sH _ _ QX)
  ·rintro j x σ H4 hx ⟨x5,ys,rfl,hf4,rM,hE,sH⟩
   obtain⟨i,wt,rfl,wa⟩:=hrw j x hx;have Gr:=(List.getElem?_eq_some_iff.mp hx).1;have F4:=F.same sH;obtain⟨Zp,Q6⟩:=F4.ob;have QT:cs[i]? =some (cs[i]'(by rw[vB];exact wa.hi)):=List.getElem?_eq_getElem (by rw[vB];exact wa.hi);refine⟨_,rfl,a.f,Zp,_,rfl,Q6,aC (by decide+kernel),_,rfl,_,rfl,a,ps,ts,L,pk,R,N,rs,cs,i,wt,_,f,p,t,0,rfl,F4,lz,hl,wa.same sH,QT,X2 i _ QT,nw.same sH,?_⟩;intro xd2 H5 s5 aoe;refine⟨A.cv,rfl,T.tE,fun eb heb=> ?_⟩;refine⟨_,rfl,.inl ⟨rfl,_,bA.of (s5 _ _ hf4)⟩,_,rfl,eb,A.cv,xd2,false,_,_,rfl,heb,aoe,T.GY,T.pC,rfl,DI,fun l2 mW=> ?_⟩;have s6:=au.upd (o:= .lst [V.str "value",.ref t]) mW;have e6:upd H5 l2 (.lst [V.str "value",.ref t]) l2=some (.lst [V.str "value",.ref t]):=ae;generalize upd H5 l2 (.lst [V.str "value",.ref t])=H6 at s6 e6;have hf6:=s6 _ _ (s5 _ _ hf4);have nl2:l2≠fl:=(ag (s5 _ _ hf4) mW).symm;refine⟨fl,_,_,rfl,rfl,hf6,by rw[rM];exact bX (by lia),?_⟩
   have k7:∀c q,c≠fl→H6 c=some q→upd H6 fl (.lst (ys++[V.ref l2])) c=some q:=fun c q h e=>by
    rw[af h];exact e
   refine⟨_,ys++[V.ref l2],rfl,ae,by rw[List.length_append,rM];rfl,fun i' v e=> ?_,fun c q e=>k7 c q (ag e Dl) (s6 _ _ (s5 _ _ (sH _ _ e)))⟩;by_cases hi:i' <ys.length
   ·rw[List.getElem?_append_left hi] at e;obtain⟨l,e1,e2,e3⟩:=hE i' v e;exact⟨l,e1,e2,k7 _ _ e2 (s6 _ _ (s5 _ _ e3))⟩
   ·rw[List.getElem?_append_right (by lia)] at e
    have hi0:i' - ys.length=0:=by
     have:=(List.getElem?_eq_some_iff.mp e).1;simp at this
     lia
    rw[hi0] at e;cases e;refine⟨l2,rfl,nl2,?_⟩;unfold jad;rw[if_neg (by lia)];exact k7 _ _ nl2 e6
  ·rintro σ H4 ⟨x5,ys,rfl,hf4,rM,hE,sH⟩
   refine⟨_,rfl,q fl ys H4 sH hf4 rM fun j v e=> ?_⟩;obtain⟨l,e1,_,e3⟩:=hE j v e;exact⟨l,e1,e3⟩
def Kp(H:Hp)(d:Addr)(qs:aY):Prop:=∃wl,ff H d (.str "ways") (some (.ref wl))∧H wl=some (.lst (qs.map V.ref))∧∀q∈qs,∃f p:Nat,H q=some (.tup (oz f p))
def Pr(C:Addr):Sp:=fun vs H Q _=>∃a m ps ts L pk R N rs ws ms cs ol,∃ds:aY,vs=[.ref a.f,.ref m.d,.ref ol]∧nk C H a m ps ts L pk R N rs ws ms cs∧R.length≤1000∧H ol=some (.lst (ds.map V.ref))∧(∀H',au H H'→∀d∈ds,∃qs,Kp H' d qs)∧∀H',au H H'→Q (.bl true) H'
theorem zq(T:Txt K mg A):aV P w K mg base eI 9 A.oH A.oI ["_law_house_here","_law_model","_law_others"] (Pr A.aj):=by
 have gY:=(oG (P:=P) (w:=w) (base:=base) T).mono (by decide:_≤8);have yZ:=wL (P:=P) (w:=w) (base:=base) T;refine T.sX.ok i7 (fun vs H Q E h=> ?_) (fun cF Ar outer s H vs Q E hr h=> ?_)
 ·obtain⟨a,m,ps,ts,L,pk,R,N,rs,ws,ms,cs,ol,ds,rfl,_⟩:=h;rfl
 ·obtain⟨a,m,ps,ts,L,pk,R,N,rs,ws,ms,cs,ol,ds,rfl,Z,hR,NL,hds,q⟩:=h;have hu:=dS hr;have sN:_+100<cLine:=Nat.lt_of_le_of_lt (Nat.add_le_add_left (by decide:100≤16*8+200) _) (by have:=hr.un;omega);have Xe:_<cLine:=Nat.lt_of_le_of_lt (Nat.le_add_right _ _) sN;refine⟨_,(ak (FY (i:=3) i7.nd rfl (Or.inl rfl) (N:=["_law_way"]) (k:=1) (js:=[]) rfl (bP (by kernel_rfl)) (cx (Jl N_ (ay gY hr rfl T.lK T.jz.kp T.lO .nil aw (aa (pv 1) ah)) PB (GF ax))) (fun _ _ _ _ _=>⟨(bc (i:=0) (show(["_law_way"]:aX).Nodup by decide+kernel) rfl (Or.inl rfl) (Or.inr rfl)),za,(pv 0)⟩)) (ak (gO PassesOwn.never rfl (cx (pv 2)) (bc (i:=4) i7.nd rfl (Or.inl rfl) (Or.inl rfl)) (aq (gO PassesOwn.never rfl (cx (aN hu (pv 4) aS (fun _ _=>rfl))) (bc (i:=5) i7.nd rfl (Or.inl rfl) (Or.inl rfl)) (aq (cg (ba (CA sN) (pv 5) (aN hu (pv 1) aS (fun _ _=>rfl)) (by with_unfolding_all rfl)) (aq (cg (ba (uE sN) (ay yZ hr rfl T.yU T.rg.kp T.zx .nil aw (aa (pv 0) (aa (pv 3) (aa (pv 5) ah)))) (bF Lj (bN (aa (bN (aa aS (aa (pv 5) ah))) ah)) (bF D5 (bN (aa (bN (aa aS (aa (pv 5) ah))) ah)) (aE aU (by rfl) T.ee Boot.«len» (aa (pv 3) ah)))) (bu _)) (aq (aG j9)) bp)) bp))))) (aq (aG j9)))),?_⟩;refine⟨_,rfl,m,ps,ts,L,pk,R,ws,ms,cs,rfl,Z.mo,hR,Z.rt,fun C7 H1 hhl s1 hh1=> ?_⟩;refine⟨1,rfl,C7,_,rfl,bA.of hh1,fun p0 hp0=>⟨p0,rfl,⟨_,bA.of ae⟩,?_⟩⟩;have s2:=au.upd (o:= .lst (xm (wf ws (iN ts R)) none (some 1))) hp0;have e2:upd H1 p0 (.lst (xm (wf ws (iN ts R)) none (some 1))) p0=some (.lst (xm (wf ws (iN ts R)) none (some 1))):=ae;generalize upd H1 p0 (.lst (xm (wf ws (iN ts R)) none (some 1)))=H2 at s2 e2
  have X2:(xm (wf ws (iN ts R)) none (some 1)).length≤1:=by
   show((List.drop _ _).take _).length≤1;rw[List.length_take];have:HT.Ck (wf ws (iN ts R)).length (wf ws (iN ts R)).length (some 1)=min 1 _:=HT.P_ _ _ 1;rw[this]
   lia
  have QT:∀v∈xm (wf ws (iN ts R)) none (some 1),v∈wf ws (iN ts R):=fun v hv=>List.mem_of_mem_drop (List.mem_of_mem_take hv);generalize xm (wf ws (iN ts R)) none (some 1)=cut at e2 X2 QT;refine zY (fun _=>true) (fun v=>v) (dg (bA.of e2)) (Nat.le_trans X2 (by decide)) ?_ fun rl QX=> ?_
  ·intro i x H' C1 C0 hx sm c1 c0;exact⟨(gw.refl _).own (by decide),kj (B:=C0 H') ⟨_,rfl,c1 rfl⟩⟩
  have er:(cut.filter fun _=>true).map (fun v=>v)=cut:=by
   rw[List.filter_eq_self.mpr (fun _ _=>rfl),List.map_id']
  rw[er];have s3:=au.upd (o:= .lst cut) QX;have e3:upd H2 rl (.lst cut) rl=some (.lst cut):=ae;generalize upd H2 rl (.lst cut)=H3 at s3 e3;have Ob:=s1.trans (s2.trans s3);refine⟨_,rfl,ol,rfl,⟨_,bA.of (Ob _ _ NL)⟩,?_⟩;refine gg (K:=K) (a:=ol) (xs:=ds.map V.ref) (fun j σ H' =>∃(x4 x5:Option V),σ=[some (.ref a.f),some (.ref m.d),some (.ref ol),some (.ref rl),x4,x5]∧au H3 H') ⟨_,_,rfl,au.refl _⟩ ?_ ?_ ?_
  ·rintro j σ H' _ ⟨x4,x5,rfl,s'⟩
   exact bA.of (s' _ _ (Ob _ _ NL))
  ·rintro j x σ H4 hx ⟨x4,x5,rfl,s4⟩
   obtain⟨d,hd,rfl⟩:=List.mem_map.mp (List.mem_of_getElem? hx);obtain⟨qs,wl,hw1,hw2,SU⟩:=hds H4 (Ob.trans s4) d hd;refine⟨_,rfl,d,_,rfl,hw1,wl,rfl,⟨_,bA.of hw2⟩,?_⟩;refine gg (K:=K) (a:=wl) (xs:=qs.map V.ref) (fun j σ H' =>∃(x5:Option V),σ=[some (.ref a.f),some (.ref m.d),some (.ref ol),some (.ref rl),some (.ref d),x5]∧au H4 H') ⟨_,rfl,au.refl _⟩ ?_ ?_ ?_
   ·rintro j σ H' _ ⟨x5,rfl,s'⟩
    exact bA.of (s' _ _ hw2)
   ·rintro j x σ H5 hx ⟨x5,rfl,s5⟩
    obtain⟨t,ht,rfl⟩:=List.mem_map.mp (List.mem_of_getElem? hx);obtain⟨f,p,hft⟩:=SU t ht;have Z5:=Z.same (Ob.trans (s4.trans s5));have ht5:=s5 _ _ hft
    have hws:∀c∈ws,∃i' j' :Int,H5 c=some (.tup [.int i',.int j']):=fun c hc=>by
     obtain⟨i,hi,rfl⟩:=List.mem_iff_getElem.mp hc;have hiR:i<R.length:=by rw[←Z.mo.iu];exact hi
     have:=(Z5.mo.way i hiR).2;rw[List.getD_eq_getElem?_getD,List.getElem?_eq_getElem hi] at this;exact⟨_,_,this⟩
    refine⟨_,rfl,_,rfl,m.d,_,rfl,Z5.mo.zh,t,m.wl,_,_,ws,rfl,rfl,ht5,Z5.mo.wl,hws,_,rfl,?_⟩;refine yv (fun hno=> ?_) (fun _=>⟨_,rfl,s5⟩)
    have nw:ka H5 R f p t:=⟨ht5,fun i hi e1 e2=>by
     have hno:(!ws.any fun a=>Vr H5 (f:Int) (p:Int) (.ref a))=true:=hno;have hw:=(Z5.mo.way i hi).2
     have Kv:ws.getD i 0∈ws:=by
      rw[List.getD_eq_getElem?_getD,List.getElem?_eq_getElem (by rw[Z.mo.iu];exact hi)];exact List.getElem_mem _
     have:(ws.any fun a=>Vr H5 (f:Int) (p:Int) (.ref a))=true:=by
      refine List.any_eq_true.mpr ⟨_,Kv,?_⟩;show(match H5 (ws.getD i 0) with|some (.tup [.int x,.int y])=>x==(f:Int)&&y==(p:Int)|_=>false)=true;rw[hw,e1,e2];show((f:Int)==f&&(p:Int)==p)=true;rw[beq_self_eq_true,beq_self_eq_true];rfl
     rw[this] at hno;cases hno⟩
    have s35:=s4.trans s5
    refine⟨_,rfl,_,rfl,_,rfl,a,ps,ts,L,pk,R,N,rs,cs,f,p,t,rl,cut,rfl,Z5.h,Z.r1,Z.G.W.len,(fun i vs e=>by
     have h1:=Z.ok.cz i vs e
     have hi:i<R.length:=by
      rw[←Z.ok.cl];exact(List.getElem?_eq_some_iff.mp e).1
     have:=Z.r1 _ (wv hi)
     lia),Z.ok.cl,nw,s35 _ _ e3,X2,(fun j v e=>by
     obtain⟨i,Rz,rfl⟩:=List.mem_map.mp (QT v (List.mem_of_getElem? e));exact⟨i,_,rfl,Z5.BY (Bs Rz) (r6 Rz)⟩),fun fl ys H6 s6 Dl rM hE=> ?_⟩
    have h1L:(1:Nat)≤sizeLine:=by decide
    have DI:(2:Nat)≤sizeLine:=by decide
    refine⟨_,rfl,DI,fun la TC=>⟨h1L,fun lb hlb=>⟨_,rfl,DI,fun lc hlc=>⟨h1L,fun ld hld=>⟨_,rfl,rl,cut,rfl,?_⟩⟩⟩⟩⟩;have t1:=au.upd (o:= .lst [V.str "way",.ref t]) TC;have g1:upd H6 la (.lst [V.str "way",.ref t]) la=some (.lst [V.str "way",.ref t]):=ae;generalize upd H6 la (.lst [V.str "way",.ref t])=H7 at*
    have t2:=au.upd (o:= .lst [V.ref la]) hlb;have g2:upd H7 lb (.lst [V.ref la]) lb=some (.lst [V.ref la]):=ae;generalize upd H7 lb (.lst [V.ref la])=H8 at*
    have t3:=au.upd (o:= .lst [V.str "value",.ref t]) hlc;have g3:upd H8 lc (.lst [V.str "value",.ref t]) lc=some (.lst [V.str "value",.ref t]):=ae;generalize upd H8 lc (.lst [V.str "value",.ref t])=H9 at*
    have t4:=au.upd (o:= .lst [V.ref lc]) hld;have g4:upd H9 ld (.lst [V.ref lc]) ld=some (.lst [V.ref lc]):=ae;generalize upd H9 ld (.lst [V.ref lc])=Fx at*
    have abL:=t1.trans (t2.trans (t3.trans t4));have apX:=s6.trans abL;refine⟨.inl (bA.of (apX _ _ (s35 _ _ e3))),?_⟩;refine⟨ld,(cut.length:Int),[.ref lc],rfl,rfl,g4,by lia,by lia,?_,fun le hle=> ?_⟩
    ·rw[Int.toNat_natCast];show 1*cut.length≤sizeLine;exact Nat.le_trans (by lia:1*cut.length≤1) h1L
    rw[Int.toNat_natCast];have t5:=au.upd (o:= .lst (List.replicate cut.length [V.ref lc]).flatten) hle;have g5:upd Fx le (.lst (List.replicate cut.length [V.ref lc]).flatten) le=some (.lst (List.replicate cut.length [V.ref lc]).flatten):=ae;generalize upd Fx le (.lst (List.replicate cut.length [V.ref lc]).flatten)=NQ at t5 g5;have Zx:(List.replicate cut.length [V.ref lc]).flatten.length=cut.length*1:=jac [V.ref lc] cut.length;refine⟨lb,le,[.ref la],_,rfl,rfl,t5 _ _ (t4 _ _ (t3 _ _ g2)),g5,?_,fun lf hlf=> ?_⟩
    ·show 1+(List.replicate cut.length [V.ref lc]).flatten.length≤sizeLine;rw[Zx];exact Nat.le_trans (by lia:1+cut.length*1≤2) DI
    have t6:=au.upd (o:= .lst ([V.ref la]++(List.replicate cut.length [V.ref lc]).flatten)) hlf;have g6:upd NQ lf (.lst ([V.ref la]++(List.replicate cut.length [V.ref lc]).flatten)) lf=some (.lst ([V.ref la]++(List.replicate cut.length [V.ref lc]).flatten)):=ae;generalize upd NQ lf (.lst ([V.ref la]++(List.replicate cut.length [V.ref lc]).flatten))=Iz at t6 g6;have Ql:=abL.trans (t5.trans t6);have dt:Dat Iz (.ref t) (gQ f p):= .tup (Ql _ _ (s6 _ _ ht5)) (.cons (.int _) (.cons (.int _) .nil));have dl:∀{l:Addr} {z:Str},Iz l=some (.lst [.str z,.ref t])→Dat Iz (.ref l) (.list [.str z,gQ f p]):=fun e=> .lst e (.cons (.str _) (.cons dt .nil))
    have dy:∀(j:Nat) v,ys[j]? =some v→Dat Iz v (.list [.str (jad j),gQ f p]):=fun j v e=>by
     obtain⟨l,rfl,hl⟩:=hE j v e;exact dl (Ql _ _ hl)
    have ga:=dl ((t2.trans (t3.trans (t4.trans (t5.trans t6)))) _ _ g1);have gc:=dl ((t4.trans (t5.trans t6)) _ _ g3)
    have XB:∃ds,DatAll Iz ys ds∧DatAll Iz ([V.ref la]++(List.replicate cut.length [V.ref lc]).flatten) ds∧SeqAt.shaped (.list ds)=true∧SeqAt.noMix (.list ds) (.list ds)=true:=by
     rcases(show cut.length=0∨cut.length=1 by lia) with h|h
     ·rw[h] at rM ⊢
      match ys,rM with
      |[y0],_=>exact⟨[.list [.str "way",gQ f p]],.cons (dy 0 y0 rfl) .nil,.cons ga .nil,(by simp[SeqAt.shaped,gQ,PyData.canLay0,PyData.canLayAll0,PyData.depth,PyData.depthAll];decide+kernel),by simp[SeqAt.noMix,SeqAt.noMixAll,gQ]⟩
     ·rw[h] at rM ⊢
      match ys,rM with
      |[y0,y1],_=>exact⟨[.list [.str "way",gQ f p],.list [.str "value",gQ f p]],.cons (dy 0 y0 rfl) (.cons (dy 1 y1 rfl) .nil),.cons ga (.cons gc .nil),(by simp[SeqAt.shaped,gQ,PyData.canLay0,PyData.canLayAll0,PyData.depth,PyData.depthAll];decide+kernel),by simp[SeqAt.noMix,SeqAt.noMixAll,gQ]⟩
    obtain⟨dd,h1,h2,h3,h4⟩:=XB;refine⟨.list dd,.list dd,.lst (Ql _ _ Dl) h1,.lst g6 h2,h3,h3,h4,_,rfl,?_⟩;rw[same_refl];exact g8 ⟨_,rfl,s5.trans (s6.trans Ql)⟩
   ·rintro σ H5 ⟨x5,rfl,s5⟩
    exact⟨_,_,rfl,s4.trans s5⟩
  ·rintro σ H4 ⟨x4,x5,rfl,s4⟩
   exact q H4 (Ob.trans s4)
end
theorem VU{ps ts:aO}(W:WF ps ts)(f:Nat):f<ps.length→∀n∈AM ps f,n≤f:=by
 induction f using Nat.strongRecOn with
 |_ f ih=>
  intro hf n hn;by_cases h0:f=0
  ·subst h0;rw[uo W W.root] at hn;rcases List.mem_cons.mp hn with rfl|hn
   ·exact Nat.le_refl _
   ·cases hn
  ·obtain⟨j,ej,hj⟩:=W.par f (by lia) hf;rw[uo W ej] at hn;rcases List.mem_cons.mp hn with rfl|hn
   ·exact Nat.le_refl _
   ·have:=ih j hj (by lia) n hn
    lia
def nD(S:List Nat):List PyData:=(S.map some).map oD
theorem Fe{H:Hp}{l:Addr}{S:List Nat}(h:H l=some (.lst (S.map nV))):Dat H (.ref l) (.list (nD S)):=by
 rw[abc] at h;exact .lst h (kr H _)
theorem wj{o:Option Nat}(h:∀n,o=some n→n≤1000):Fits 5 1 (oD o):=by
 cases o with
 |none=>
  refine⟨?_,?_,?_⟩
  ·show(PyData.none).showable=true;simp only[PyData.showable]
  ·show(PyData.none).depth≤1;simp[PyData.depth]
  ·show(PyData.none).shown.length≤5;simp only[PyData.shown];decide+kernel
 |some n=>exact jB (h n rfl)
theorem Fs{S:List Nat}(h:∀n∈S,n≤1000)(hl:S.length≤200):Fits 1500 2 (.list (nD S)):=by
 have g:=Fits.list (B:=5) (k:=1) (ds:=nD S) fun d hd=>by
  obtain⟨o,ho,rfl⟩:=List.mem_map.mp hd;obtain⟨n,hn,rfl⟩:=List.mem_map.mp ho;exact wj fun m e=>by cases e;exact h n hn
 have e:(nD S).length=S.length:=by unfold nD;rw[List.length_map,List.length_map]
 rw[e] at g;exact g.mono (by lia) (Nat.le_refl _)
theorem HR{ps ts:aO}(W:WF ps ts){i:Nat}(hi:i<ps.length):(∀n∈lT ps i,n≤1000)∧(lT ps i).length≤200:=by
 have hle:=W.le;refine⟨fun n hn=> ?_,?_⟩
 ·have:=VU W i hi n (List.mem_reverse.mp hn)
  lia
 ·have h:=A5 ps i i;have e:(lT ps i).length=(Bm ps i i).length:=List.length_reverse ..
  lia
theorem Ah{ps ts:aO}(W:WF ps ts){i:Nat}{o:Option Nat}(h:ps[i]? =some o):∀n,o=some n→n≤1000:=fun n e=>by
 subst e;have hi:=(List.getElem?_eq_some_iff.mp h).1;have hle:=W.le;by_cases h0:i=0
 ·subst h0;rw[W.root] at h;cases h
 ·obtain⟨j,ej,hj⟩:=W.par i (by lia) hi;rw[ej] at h;cases h
  lia
theorem Ff(H:Hp)(o:Option Nat):Dat H (oV o) (oD o):=by
 cases kr H [o] with
 |cons h _=>exact h
theorem zX(x:Str):(!decide (V.str x=V.str x))=false:=by rw[decide_eq_true rfl];rfl
section
variable{P:Program}{w:World}{K:Frag}{mg:Str→aH}{base:Heap}{A:pH}
def JH(C:Addr):Sp:=fun vs H Q _=>∃a m ps ts L pk R N rs ws ms cs,vs=[.ref a.f,.ref m.d]∧nk C H a m ps ts L pk R N rs ws ms cs∧R.length≤1000∧∀H',au H H'→Q (.bl true) H'
theorem qP(T:Txt K mg A):aV P w K mg base eI 9 A.gG A.gH ["_law_house_here","_law_model"] (JH A.aj):=by
 have gY:=(oG (P:=P) (w:=w) (base:=base) T).mono (by decide:_≤8);have sG:=(vw (P:=P) (w:=w) (base:=base) T).mono (by decide:_≤8);have xq:=vD (P:=P) (w:=w) (base:=base) T;have jI:=(mZ (P:=P) (w:=w) (base:=base) T).mono (by decide:_≤8);have nH:=(rA (P:=P) (w:=w) (base:=base) T).mono (by decide:_≤8);have iF:=(ra (P:=P) (w:=w) (base:=base) T).mono (by decide:_≤8);have my:=(pJ (P:=P) (w:=w) (base:=base) T).mono (by decide:_≤8);refine T.kX.ok dO (fun vs H Q E h=> ?_) (fun cF Ar outer s H vs Q E hr h=> ?_)
 ·obtain⟨a,m,ps,ts,L,pk,R,N,rs,ws,ms,cs,rfl,_⟩:=h;rfl
 ·obtain⟨a,m,ps,ts,L,pk,R,N,rs,ws,ms,cs,rfl,Z,hR,q⟩:=h;have hu:=dS hr;have BS:=hr.gd;have Xe:=hr.D7;have sN:_+100<cLine:=Nat.lt_of_le_of_lt (Nat.add_le_add_left (by decide:100≤16*8+200) _) (by have:=hr.un;omega);have DI:(2:Nat)≤sizeLine:=by decide
  have hl:=Z.G.W.len;have Fn:=Z.G.ts;refine⟨_,(ak (gO PassesOwn.never rfl (iW rfl T.kg (aa (aE aU (by rfl) T.ee Boot.«len» (aa (aN hu (pv 1) aS (fun _ _=>rfl)) ah)) ah)) (bc (i:=2) dO.nd rfl (Or.inl rfl) (Or.inl rfl)) (aq (cg (ba vp (aE (cH BS sN) (by rfl) T.fZ Boot.«repr» (aa (bN (aa (aR (pv 0) T.ar T.pB jI hr T.pq .nil aw (aa (pv 2) ah)) (aa (aR (pv 0) T.ar T.tq nH hr T.ur .nil aw (aa (pv 2) ah)) ah))) ah)) (aE (cH BS sN) (by rfl) T.fZ Boot.«repr» (aa (bN (aa (bB bj (aN hu (pv 1) aS (fun _ _=>rfl)) (pv 2) (fun _ _=>rfl)) (aa (ay sG hr rfl T.xC T.sE.kp T.xD .nil aw (aa (pv 1) (aa (pv 2) ah))) ah))) ah)) (bu _)) (aq (aG j9)) bp))) (ak (gO PassesOwn.never rfl (cx (ay gY hr rfl T.lK T.jz.kp T.lO .nil aw (aa (pv 1) ah))) (bc (i:=3) dO.nd rfl (Or.inl rfl) (Or.inl rfl)) (ak (a_ (i:=4) dO.nd rfl (Or.inl rfl) (aN hu (aN hu (pv 1) aS (fun _ _=>rfl)) (pv 3) (fun _ _=>rfl))) (ak (cg (ba vp (aE (cH BS sN) (by rfl) T.fZ Boot.«repr» (aa (bN (aa (aR (pv 0) T.ar T.n8 iF hr T.nI .nil aw (aa (pv 3) ah)) (aa (aR (pv 0) T.ar T.rp my hr T.qZ .nil aw (aa (pv 3) ah)) ah))) ah)) (aE (cH BS sN) (by rfl) T.fZ Boot.«repr» (aa (bN (aa (aE aU (by rfl) T.ee Boot.«len» (aa (pv 4) ah)) (aa (pv 4) ah))) ah)) (bu _)) (aq (aG j9)) bp) (aq (cg (ba vp (ay xq hr rfl T.xi T.qc.kp T.xB .nil aw (aa (pv 0) (aa (pv 3) (aa (aE aU (by rfl) T.ee Boot.«len» (aa (pv 4) ah)) ah)))) (aE aU (by rfl) T.ee Boot.«len» (aa (pv 4) ah)) (bu _)) (aq (aG j9)) bp))))) (aq (aG j9)))),?_⟩;refine⟨_,rfl,m.d,_,rfl,Z.mo.mod.BN,m.ha,_,rfl,.inl (bA.of Z.mo.hl),?_⟩;rw[List.length_map];refine⟨_,rfl,by lia,by lia,?_⟩;refine qB (lo:=0) (n:=((ps.length:Nat):Int).toNat) (fun i σ H' =>∃(x2 x3 x4:Option V),σ=[some (.ref a.f),some (.ref m.d),x2,x3,x4]∧au H H') ⟨_,_,_,rfl,au.refl _⟩ ?_ ?_
  ·rintro i σ H1 hi ⟨x2,x3,x4,rfl,s1⟩
   rw[Int.toNat_natCast] at hi;have Z1:=Z.same s1;obtain⟨dx,ho⟩:=Z1.h.ob;have hpi:ps[i]? =some ps[i]:=by simp[hi]
   refine⟨_,rfl,a.f,dx,_,rfl,ho,aC (by decide+kernel),_,rfl,a.f,a.pa,a.ta,ps,ts,i,_,(by rw[Int.zero_add];rfl),Z1.h.fr,hpi,?_⟩;obtain⟨r1,r2⟩:=HR Z.G.W hi
   have fd:Fits 4000 3 (.list [oD ps[i],.list (nD (lT ps i))]):=by
    refine(Fits.list (B:=1500) (k:=2) fun e he=> ?_).mono (by show 1500*2+2*2+3≤4000;decide) (Nat.le_refl _);simp only[List.mem_cons,List.not_mem_nil,or_false] at he;rcases he with rfl|rfl
    ·exact(wj (Ah Z.G.W hpi)).mono (by decide) (by decide)
    ·exact Fs r1 r2
   obtain⟨gs,gdp,gln⟩:=fd.rep (by decide) (by decide);refine⟨_,rfl,a.f,dx,_,rfl,ho,aC (by decide+kernel),_,rfl,a.f,a.pa,a.ta,ps,ts,i,(by rw[Int.zero_add];rfl),Z1.h.fr,Z.G.W,hi,fun l1 H2 zQ s2 e2=>⟨DI,fun p1 Hj=>⟨_,_,rfl,.lst ae (.cons (Ff _ _) (.cons (Fe ((au.upd Hj) _ _ e2)) .nil)),gs,gdp,gln,?_⟩⟩⟩;have s3:=s2.trans (au.upd (o:= .lst [oV ps[i],V.ref l1]) Hj);have Z3:=Z1.same s3;generalize upd H2 p1 (.lst [oV ps[i],V.ref l1])=H3 at s3 Z3;refine⟨_,rfl,m.d,_,rfl,Z3.mo.mod.BN,_,rfl,m.ha,_,_,_,rfl,rfl,bA.of Z3.mo.hl,(by rw[Int.zero_add];exact jS hpi),_,rfl,_,rfl,m.d,m.ha,m.tk,ps,ts,i,(by rw[Int.zero_add];rfl),Z3.mo.mod,Z.G.W,hi,fun l2 H4 mW s4 e4=>⟨DI,fun p2 w_=>⟨_,_,rfl,.lst ae (.cons (Ff _ _) (.cons (Fe ((au.upd w_) _ _ e4)) .nil)),gs,gdp,gln,rfl,_,rfl,?_⟩⟩⟩;rw[zX];exact g8 ⟨_,_,_,rfl,s1.trans (s3.trans (s4.trans (au.upd w_)))⟩
  ·rintro σ H1 ⟨x2,x3,x4,rfl,s1⟩
   have Z1:=Z.same s1;refine⟨_,rfl,m,ps,ts,L,pk,R,ws,ms,cs,rfl,Z1.mo,hR,Z.rt,fun l H2 C7 s2 mW=>⟨l,rfl,⟨_,bA.of mW⟩,?_⟩⟩;refine gg (K:=K) (a:=l) (xs:=wf ws (iN ts R)) (fun jj σ H' =>∃(x3 x4:Option V),σ=[some (.ref a.f),some (.ref m.d),x2,x3,x4]∧au H2 H') ⟨_,_,rfl,au.refl _⟩ ?_ ?_ ?_
   ·rintro jj σ H' _ ⟨y3,y4,rfl,s'⟩
    exact bA.of (s' _ _ mW)
   ·rintro jj x σ H3 hx ⟨y3,y4,rfl,s3⟩
    obtain⟨i,Rz,rfl⟩:=List.mem_map.mp (List.mem_of_getElem? hx);have hi:=Bs Rz;have st:=r6 Rz;have Z3:=Z1.same (s2.trans s3);obtain⟨b,xs,e1,hc,e3,e4,e5⟩:=Z3.mo.at_ hi;refine⟨_,rfl,m.d,_,rfl,Z3.mo.D_,_,rfl,m.ca,_,rfl,e4,?_⟩;obtain⟨dx3,W0⟩:=Z3.h.ob;have hxl:=Z.ok.cz i xs hc;have hx6:=(Z.G.rw _ (wv hi)).2.1;obtain⟨ds,d1,d2,d3⟩:=Z3.dat hR (Z.ok.vo i xs hc)
    have fd:Fits 20000 6 (.list [.int (xs.length:Nat),.list ds]):=by
     refine(Fits.list (B:=7000) (k:=5) fun e he=> ?_).mono (by show 7000*2+2*2+3≤20000;decide) (Nat.le_refl _);simp only[List.mem_cons,List.not_mem_nil,or_false] at he;rcases he with rfl|rfl
     ·exact(jB (by lia)).mono (by decide) (by decide)
     ·refine(Fits.list d3).mono ?_ (Nat.le_refl _);rw[d1,hxl]
      lia
    obtain⟨gs,gdp,gln⟩:=fd.rep (by decide) (by decide);refine⟨_,rfl,a.f,dx3,_,rfl,W0,aC (by decide+kernel),_,rfl,a,ps,ts,L,pk,R,N,rs,cs,i,_,xs,rfl,Z3.h,Z.r1,hl,Z3.BY hi st,hc,fun H4 s4=> ?_⟩;have Z4:=Z3.same s4;obtain⟨Zp,Q6⟩:=Z4.h.ob;refine⟨_,rfl,a.f,Zp,_,rfl,Q6,aC (by decide+kernel),_,rfl,a,ps,ts,L,pk,R,N,rs,cs,i,_,xs,rfl,Z4.h,Z.r1,hl,Z4.BY hi st,hc,fun l5 H5 hl5 s5 e5' =>⟨DI,fun p5 hp5=>⟨_,_,rfl,.lst ae (.cons (.int _) (.cons (.lst ((au.upd hp5) _ _ e5') (DatAll.same ((s4.trans s5).trans (au.upd hp5)) d2)) .nil)),gs,gdp,gln,?_⟩⟩⟩;have s6:=(s4.trans s5).trans (au.upd (o:= .lst [V.int (xs.length:Nat),.ref l5]) hp5);generalize upd H5 p5 (.lst [V.int (xs.length:Nat),.ref l5])=H6 at s6;refine⟨_,rfl,b,_,rfl,.inl (bA.of (s6 _ _ e5)),_,rfl,DI,fun p7 hp7=>⟨_,_,rfl,.lst ae (.cons (.int _) (.cons (.lst ((au.upd hp7) _ _ (s6 _ _ e5)) (DatAll.same (s6.trans (au.upd hp7)) d2)) .nil)),gs,gdp,gln,rfl,_,rfl,?_⟩⟩;rw[zX];have s7:=s6.trans (au.upd (o:= .lst [V.int (xs.length:Nat),.ref b]) hp7);generalize upd H6 p7 (.lst [V.int (xs.length:Nat),.ref b])=H7 at s7;have Z7:=Z3.same s7;refine g8 ⟨_,rfl,_,rfl,_,rfl,b,_,rfl,.inl (bA.of (s7 _ _ e5)),a,ps,ts,L,pk,R,N,rs,cs,i,_,xs,rfl,Z7.h,Z.r1,hl,Z7.BY hi st,hc,fun H8 s8=>⟨_,rfl,b,_,rfl,.inl (bA.of (s8 _ _ (s7 _ _ e5))),?_⟩⟩;refine⟨rfl,_,rfl,?_⟩;rw[decide_eq_true rfl];exact g8 ⟨_,_,rfl,s3.trans (s7.trans s8)⟩
   ·rintro σ H3 ⟨y3,y4,rfl,s3⟩
    exact q H3 (s1.trans (s2.trans s3))
end
theorem uM{H:Hp}:∀{xs:az} {ds:List PyData},xs.length=ds.length→(∀(j:Nat) x d,xs[j]? =some x→ds[j]? =some d→Dat H x d)→DatAll H xs ds
 |[],[],_,_=> .nil
 |[],_::_,h,_=>by simp at h
 |_::_,[],h,_=>by simp at h
 |x::xs,d::ds,h,k=> .cons (k 0 x d rfl rfl) (uM (by simpa using h) fun j y e h1 h2=>k (j+1) y e (by simpa using h1) (by simpa using h2))
def Xb(ps:aO)(R:Rm)(dss:Nat→List PyData)(n:Nat):PyData:= .tuple [.int n,oD (ps.getD n none),.tuple ((bV R n).map fun m=> .tuple (dss m))]
def NX(ps ts:aO)(L:Nat)(R:Rm)(dss:Nat→List PyData):PyData:= .tuple [.int L,.tuple ((aQ ts).map fun n=>Xb ps R dss n)]
theorem Bo.dat{ps:aO}{R:Rm}{cs:dM}{H:Hp}{n:Nat}{o:Option Nat}{v:V}{dss:Nat→List PyData}(hp:ps[n]? =some o)(hd:∀(m:Nat) vs,cs[m]? =some vs→DatAll H vs (dss m))(h:Bo R cs H n o v):Dat H v (Xb ps R dss n):=by
 obtain⟨t,tt,xs,rfl,h2,h3,h4,h5⟩:=h;have e:ps.getD n none=o:=by rw[List.getD_eq_getElem?_getD,hp];rfl
 unfold Xb;rw[e];refine .tup h2 (.cons (.int _) (.cons (Ff _ _) (.cons (.tup h3 (uM (by rw[List.length_map];exact h4) fun j x d e1 e2=> ?_)) .nil)));obtain⟨u,m,vs,rfl,f2,f3,f4⟩:=h5 j x e1;rw[List.getElem?_map,f2] at e2;cases e2;exact .tup f4 (hd m vs f3)
theorem xc.dat{ps ts:aO}{L:Nat}{R:Rm}{cs:dM}{H:Hp}{v:V}{dss:Nat→List PyData}(hd:∀(m:Nat) vs,cs[m]? =some vs→DatAll H vs (dss m))(h:xc ps ts L R cs H v):Dat H v (NX ps ts L R dss):=by
 obtain⟨t,tt,xs,rfl,h2,h3,h4,h5⟩:=h;refine .tup h2 (.cons (.int _) (.cons (.tup h3 (uM (by rw[List.length_map];exact h4) fun j x d e1 e2=> ?_)) .nil));obtain⟨n,o,f1,f2,f3⟩:=h5 j x e1;rw[List.getElem?_map,f1] at e2;cases e2;exact f3.dat f2 hd
theorem Im{f p:Nat}(h1:f≤1000)(h2:p≤1000):Fits 50 2 (gQ f p):=by
 refine(Fits.tup (B:=5) (k:=1) fun d hd=> ?_).mono (by show 5*2+2*2+3≤50;decide) (by decide);simp only[List.mem_cons,List.not_mem_nil,or_false] at hd;rcases hd with rfl|rfl
 ·exact jB h1
 ·exact jB h2
theorem nk.Zy{C:Addr}{H:Hp}{a:HA}{m:MA}{ps ts:aO}{L pk:Nat}{R:Rm}{N:Nat}{rs ws ms:aY}{cs:dM}(t:nk C H a m ps ts L pk R N rs ws ms cs)(hR:6*R.length≤1000):∀{xs:az},(∀v∈xs,QA ws R.length v)→∃ds,ds.length=xs.length∧DatAll H xs ds∧∀d∈ds,Fits 100 3 d
 |[],_=>⟨[],rfl,.nil,fun d hd=>by cases hd⟩
 |v::xs,h=>by
  obtain⟨ds,h1,h2,h3⟩:=nk.Zy t hR (xs:=xs) fun u hu=>h u (List.mem_cons_of_mem _ hu)
  have hv:∃d,Dat H v d∧Fits 100 3 d:=by
   rcases h v List.mem_cons_self with rfl|⟨i,rfl,hi⟩|⟨i,hi,rfl⟩
   ·exact⟨.none,.bH,Aa⟩
   ·exact⟨.int i,.int i,uk hi⟩
   ·refine⟨_,.tup (t.mo.way i hi).2 (.cons (.int _) (.cons (.int _) .nil)),(Im ?_ ?_).mono (by decide) (by decide)⟩
    ·have:=t.rt _ (wv hi);have:=t.G.ts
     lia
    ·have:=Dv R (fun r hr=>(t.G.rw r hr).2.1) i
     lia
  obtain⟨d,d1,d2⟩:=hv;refine⟨d::ds,by rw[List.length_cons,List.length_cons,h1],.cons d1 h2,fun e he=> ?_⟩;rcases List.mem_cons.mp he with rfl|he
  ·exact d2
  ·exact h3 e he
theorem nk.dss{C:Addr}{H:Hp}{a:HA}{m:MA}{ps ts:aO}{L pk:Nat}{R:Rm}{N:Nat}{rs ws ms:aY}{cs:dM}(t:nk C H a m ps ts L pk R N rs ws ms cs)(hR:6*R.length≤1000):∃dss:Nat→List PyData,(∀(m:Nat) vs,cs[m]? =some vs→DatAll H vs (dss m))∧∀m,(dss m).length≤6∧∀d∈dss m,Fits 100 3 d:=by
 have ex:∀m:Nat,∃ds:List PyData,(∀vs,cs[m]? =some vs→DatAll H vs ds)∧ds.length≤6∧∀d∈ds,Fits 100 3 d:=fun m=>by
  cases e:cs[m]? with
  |none=>exact⟨[],(fun vs h=>by cases h),Nat.zero_le _,(fun d hd=>by cases hd)⟩
  |some vs=>
   obtain⟨ds,h1,h2,h3⟩:=t.Zy hR (t.ok.vo m vs e);refine⟨ds,(fun vs' h=>by cases h;exact h2),?_,h3⟩
   have hm:m<R.length:=by
    rw[←t.ok.cl];exact(List.getElem?_eq_some_iff.mp e).1
   rw[h1,t.ok.cz m vs e];exact(t.G.rw _ (wv hm)).2.1
 obtain⟨f,hf⟩:=Classical.axiomOfChoice ex;exact⟨f,fun m vs h=>(hf m).1 vs h,fun m=>(hf m).2⟩
theorem ER{B1 B2 B3 k1 k2 k3:Nat}{d1 d2 d3:PyData}(h1:Fits B1 k1 d1)(h2:Fits B2 k2 d2)(h3:Fits B3 k3 d3):Fits (B1+B2+B3+9) (max k1 (max k2 k3)+1) (.tuple [d1,d2,d3]):=by
 obtain⟨a1,a2,a3⟩:=h1;obtain⟨b1,b2,b3⟩:=h2;obtain⟨c1,c2,c3⟩:=h3;refine⟨?_,?_,?_⟩
 ·simp only[PyData.showable,PyData.showableAll,a1,b1,c1,Bool.and_self]
 ·simp only[PyData.depth,PyData.depthAll]
  lia
 ·simp only[PyData.shown];have:=tupleText_len_le (PyData.shownAll [d1,d2,d3]);simp only[PyData.shownAll,List.map_cons,List.map_nil,List.sum_cons,List.sum_nil,List.length_cons,List.length_nil] at this ⊢
  lia
theorem EO{B1 B2 k1 k2:Nat}{d1 d2:PyData}(h1:Fits B1 k1 d1)(h2:Fits B2 k2 d2):Fits (B1+B2+7) (max k1 k2+1) (.tuple [d1,d2]):=by
 obtain⟨a1,a2,a3⟩:=h1;obtain⟨b1,b2,b3⟩:=h2;refine⟨?_,?_,?_⟩
 ·simp only[PyData.showable,PyData.showableAll,a1,b1,Bool.and_self]
 ·simp only[PyData.depth,PyData.depthAll]
  lia
 ·simp only[PyData.shown];have:=tupleText_len_le (PyData.shownAll [d1,d2]);simp only[PyData.shownAll,List.map_cons,List.map_nil,List.sum_cons,List.sum_nil,List.length_cons,List.length_nil] at this ⊢
  lia
theorem xt{ps ts:aO}{L:Nat}{R:Rm}{dss:Nat→List PyData}(W:WF ps ts)(hL:L≤1000)(hR:R.length≤160)(h:∀m,(dss m).length≤6∧∀d∈dss m,Fits 100 3 d):(NX ps ts L R dss).showable=true∧(NX ps ts L R dss).depth≤90∧(NX ps ts L R dss).shown.length≤sizeLine:=by
 have Fn:ts.length≤101:=by
  have:=W.le;have:=W.len
  lia
 have f1:∀m,Fits 620 4 (.tuple (dss m)):=fun m=>(Fits.tup (h m).2).mono (by have:=(h m).1;lia) (Nat.le_refl _)
 have f2:∀n,Fits 100000 5 (.tuple ((bV R n).map fun m=> .tuple (dss m))):=fun n=>by
  refine(Fits.tup (B:=620) (k:=4) fun d hd=> ?_).mono ?_ (Nat.le_refl _)
  ·obtain⟨m,_,rfl⟩:=List.mem_map.mp hd;exact f1 m
  ·rw[List.length_map];have:=qG R n
   lia
 have f3:∀n∈aQ ts,Fits 165000 6 (Xb ps R dss n):=fun n hn=>by
  have fE:ts[n]? =some none:=eq_of_beq (fR.mp hn);have hnl:=(List.getElem?_eq_some_iff.mp fE).1
  have rR:n<ps.length:=by
   have:=W.len
   lia
  have hp:ps[n]? =some ps[n]:=by simp[rR]
  have e:ps.getD n none=ps[n]:=by rw[List.getD_eq_getElem?_getD,hp];rfl
  unfold Xb;rw[e];exact(ER (jB (by lia)) (wj (Ah W hp)) (f2 n)).mono (by lia) (by decide)
 have f4:Fits (165000*ts.length+2*ts.length+3) 7 (.tuple ((aQ ts).map fun n=>Xb ps R dss n)):=by
  refine(Fits.tup (B:=165000) (k:=6) fun d hd=> ?_).mono ?_ (Nat.le_refl _)
  ·obtain⟨n,hn,rfl⟩:=List.mem_map.mp hd;exact f3 n hn
  ·rw[List.length_map];have:=iy ts
   lia
 have f5:=EO (jB hL) f4;have hs:sizeLine=16777216:=by decide
 exact⟨f5.sh,Nat.le_trans f5.dp (by decide),Nat.le_trans f5.ln (by rw[hs];lia)⟩
section
variable{P:Program}{w:World}{K:Frag}{mg:Str→aH}{base:Heap}{A:pH}
def Pa(C:Addr):Sp:=fun vs H Q _=>∃a ps ts L pk R N rs cs,vs=[.ref a.f]∧aF C H a ps ts L pk R N rs cs∧Q (.int L) H
theorem wU(T:Txt K mg A):aV P w K mg base eI 1 A.mh A.mG ["self"] (Pa A.aj):=by
 refine T.zv.ok xj (fun vs H Q E h=> ?_) (fun cF Ar outer s H vs Q E hr h=> ?_)
 ·obtain⟨a,ps,ts,L,pk,R,N,rs,cs,rfl,_⟩:=h;rfl
 ·obtain⟨a,ps,ts,L,pk,R,N,rs,cs,rfl,F,q⟩:=h;obtain⟨dx,ho⟩:=F.ob;refine⟨_,(aq (aG (b8 (pv 0) rfl))),?_⟩;exact⟨_,rfl,a.f,A.aj,dx,_,_,rfl,ho,T.ar,T.gj,Bk _ _ _,q⟩
def EU(C:Addr):Sp:=fun vs H Q _=>∃a ps ts L pk R N rs cs,vs=[.ref a.f]∧aF C H a ps ts L pk R N rs cs∧Q (.int pk) H
theorem tM(T:Txt K mg A):aV P w K mg base eI 1 A.iQ A.iY ["self"] (EU A.aj):=by
 refine T.uK.ok ui (fun vs H Q E h=> ?_) (fun cF Ar outer s H vs Q E hr h=> ?_)
 ·obtain⟨a,ps,ts,L,pk,R,N,rs,cs,rfl,_⟩:=h;rfl
 ·obtain⟨a,ps,ts,L,pk,R,N,rs,cs,rfl,F,q⟩:=h;obtain⟨dx,ho⟩:=F.ob;refine⟨_,(aq (aG (b8 (pv 0) rfl))),?_⟩;exact⟨_,rfl,a.f,A.aj,dx,_,_,rfl,ho,T.ar,T.fO,Ep _ _ _,q⟩
end
structure Mv(C:Addr)(H0:Hp)(a:HA)(m:MA)(H:Hp)(a' :HA)(m' :MA)(ps ts:aO)(L pk:Nat)(R:Rm)(N:Nat)(rs ws ms:aY)(cs:dM)(r n k:Nat):Prop where
 Z:nk C H a' m' ps ts L pk R N rs ws ms cs
 f:a'.f=a.f
 d:m'.d=m.d
 oa:∀c∈a'.own,c∈a.own∨H0 c=none
 om:∀c∈m'.own,c∈m.own∨H0 c=none
 kp:∀c o,¬c∈a.own→¬c∈m.own→H0 c=some o→H c=some o
 kt:∀c xs,H0 c=some (.tup xs)→H c=some (.tup xs)
 al:∀c,H c=none→H0 c=none
 hR:R.length≤r+k
 hN:N≤n+2*k
section
variable{C:Addr}{H0 H H' H2 H3 H4:Hp}{a a' :HA}{m m' :MA}{ps ts:aO}{L pk:Nat}{R:Rm}{N:Nat}{rs ws ms:aY}{cs:dM}{r n k:Nat}
theorem Mv.same(M:Mv C H0 a m H a' m' ps ts L pk R N rs ws ms cs r n k)(s:au H H'):Mv C H0 a m H' a' m' ps ts L pk R N rs ws ms cs r n k:=
 ⟨M.Z.same s,M.f,M.d,M.oa,M.om,fun c o h1 h2 e=>s _ _ (M.kp c o h1 h2 e),fun c xs e=>s _ _ (M.kt c xs e),fun c e=>M.al c (s.free e),M.hR,M.hN⟩
theorem Mv.mono{k' :Nat}(M:Mv C H0 a m H a' m' ps ts L pk R N rs ws ms cs r n k)(h:k≤k'):Mv C H0 a m H a' m' ps ts L pk R N rs ws ms cs r n k' :=
 ⟨M.Z,M.f,M.d,M.oa,M.om,M.kp,M.kt,M.al,by have:=M.hR;lia,by have:=M.hN;lia⟩
theorem Mv.made{t:Nat}{oa om:aY}{r1 wt r2:Addr}(M:Mv C H0 a m H a' m' ps ts L pk R N rs ws ms cs r n k)(uu:ts[t]? =some none)(hle:bg ts R+1≤L)
 (F3:aF C H3 {a' with own:=oa} ps ts L (max pk (bg ts R+1)) (R++[(t,1)]) (N+2) (rs++[r1]) (cs++[List.replicate 1 .bH])) (sa:∀c∈a'.own,c∈oa) (ga:∀c∈oa,c∈a'.own∨H c=none) (uv:∀c o,¬c∈a'.own→H c=some o→H3 c=some o) (NP:∀c xs,H c=some (.tup xs)→H3 c=some (.tup xs))
 (M4:aP H4 {m' with own:=om} ps ts L (max pk (bg ts (R++[(t,1)]))) (R++[(t,1)]) (ws++[wt]) (ms++[r2]) (cs++[List.replicate 1 .bH])) (sm:∀c∈m'.own,c∈om) (gm:∀c∈om,c∈m'.own∨H3 c=none) (uw:∀c o,¬c∈m'.own→H3 c=some o→H4 c=some o) (Xq:∀c xs,H3 c=some (.tup xs)→H4 c=some (.tup xs)):
 Mv C H0 a m H4 {a' with own:=oa} {m' with own:=om} ps ts L (max pk (bg ts R+1)) (R++[(t,1)]) (N+2) (rs++[r1]) (ws++[wt]) (ms++[r2]) (cs++[List.replicate 1 .bH]) r n (k+1):=by
 have Z:=M.Z;have hW:=Z.G.W.len;have NF:t<ts.length:=(List.getElem?_eq_some_iff.mp uu).1;rw[k_ R 1 uu] at M4
 have nm:∀c∈oa,¬c∈m'.own:=fun c hc z=>by
  rcases ga c hc with h|h
  ·exact Z.ap c h z
  ·obtain⟨o,e⟩:=Z.mo.al c z;rw[h] at e;cases e
 have F4:aF C H4 {a' with own:=oa} ps ts L (max pk (bg ts R+1)) (R++[(t,1)]) (N+2) (rs++[r1]) (cs++[List.replicate 1 .bH]):=F3.kept fun c o hc e=>uw c o (nm c hc) e
 have G4:Good ps ts L (max pk (bg ts R+1)) (R++[(t,1)]):=by
  refine⟨Z.G.W,Z.G.g,fun r hr=> ?_,Z.G.lo,Z.G.hi,by rw[k_ R 1 uu];exact hle,by have:=Z.G.pk;have:=Z.G.hi;lia⟩;rcases List.mem_append.mp hr with hr|hr
  ·exact Z.G.rw r hr
  ·simp only[List.mem_singleton] at hr;subst hr;exact⟨Nat.le_refl _,(by show(1:Nat)≤6;decide),by show t<ps.length;lia⟩
 have ap4:∀c∈oa,¬c∈om:=fun c hc z=>by
  rcases gm c z with h|h
  ·exact nm c hc h
  ·obtain⟨o,e⟩:=F3.al c hc;rw[h] at e;cases e
 have Cm:∀c,H3 c=none→H c=none:=fun c h=>by
  cases e:H c with
  |none=>rfl
  |some o=>
   by_cases z:c∈a'.own
   ·obtain⟨o',e'⟩:=F3.al c (sa c z);rw[h] at e';cases e'
   ·have:=uv c o z e;rw[h] at this;cases this
 have Gb:∀c,H4 c=none→H3 c=none:=fun c h=>by
  cases e:H3 c with
  |none=>rfl
  |some o=>
   by_cases z:c∈m'.own
   ·obtain⟨o',e'⟩:=M4.al c (sm c z);rw[h] at e';cases e'
   ·have:=uw c o z e;rw[h] at this;cases this
 refine⟨⟨F4,M4,G4,Z.ok.snoc Z.mo.iu,ap4⟩,M.f,M.d,fun c hc=> ?_,fun c hc=> ?_,fun c o h1 h2 e=> ?_,fun c xs e=>Xq c xs (NP c xs (M.kt c xs e)),fun c e=>M.al c (Cm c (Gb c e)),?_,?_⟩
 ·rcases ga c hc with h|h
  ·exact M.oa c h
  ·exact .inr (M.al c h)
 ·rcases gm c hc with h|h
  ·exact M.om c h
  ·exact .inr (M.al c (Cm c h))
 ·have e' :=M.kp c o h1 h2 e
  have na:¬c∈a'.own:=fun z=>by
   rcases M.oa c z with h|h
   ·exact h1 h
   ·rw[h] at e;cases e
  have nm' :¬c∈m'.own:=fun z=>by
   rcases M.om c z with h|h
   ·exact h2 h
   ·rw[h] at e;cases e
  exact uw c o nm' (uv c o na e')
 ·rw[List.length_append];have:=M.hR;show R.length+1≤_
  lia
 ·have:=M.hN
  lia
end
theorem MB(ts:aO):((List.range ts.length).filter fun _=>true).map (fun i=>oV (ts.getD i none))=ts.map oV:=by
 rw[List.filter_eq_self.mpr (fun _ _=>rfl)];apply List.ext_getElem?;intro i;rw[List.getElem?_map,List.getElem?_map];by_cases hi:i<ts.length
 ·rw[List.getElem?_range hi,show ts[i]? =some ts[i] by simp[hi]];show some (oV (ts.getD i none))=some (oV ts[i]);rw[List.getD_eq_getElem?_getD];simp[hi]
 ·rw[List.getElem?_eq_none (by rw[List.length_range];lia),List.getElem?_eq_none (by lia)];rfl
open PySem.SeqAt in
theorem xY(f p:Nat):shaped (gQ f p)=true:=by
 show(PyData.canLay0 (gQ f p)&&decide (PyData.depth (gQ f p)≤64))=true;simp[gQ,PyData.canLay0,PyData.canLayAll0,PyData.depth,PyData.depthAll]
open PySem.SeqAt in
theorem O4(f p:Nat):noMix (gQ f p) (gQ f p)=true:=by
 simp[gQ,noMix,noMixAll]
theorem Qj(o:Option Nat):V8 (oV o) (oV o)=true:=by cases o<;>rfl
section
variable{P:Program}{w:World}{K:Frag}{mg:Str→aH}{base:Heap}{A:pH}
def Zb(C:Addr)(H:Hp)(a:HA)(m:MA)(L r N k:Nat)(Z:Hp→Prop):Prop:=∀a' m' A8 zL u5 R' N' xM vH vR uP H',nk C H' a' m' A8 zL L u5 R' N' xM vH vR uP→a'.f=a.f→m'.d=m.d→(∀c∈a'.own,c∈a.own∨H c=none)→(∀c∈m'.own,c∈m.own∨H c=none)→(∀c o,¬c∈a.own→¬c∈m.own→H c=some o→H' c=some o)→(∀c xs,H c=some (.tup xs)→H' c=some (.tup xs))→R'.length≤r+k→N'≤N+2*k→Z H'
def PH(C:Addr):Sp:=fun vs H Q _=>∃a m ps ts L pk R N rs ws ms cs,vs=[.ref a.f,.ref m.d]∧nk C H a m ps ts L pk R N rs ws ms cs∧R.length+ts.length≤150∧N≤8000∧Zb C H a m L R.length N ts.length fun H' =>Q (.bl true) H'
theorem zy(T:Txt K mg A):aV P w K mg base eI 10 A.nC A.nQ ["_law_house_here","_law_model"] (PH A.aj):=by
 have gT:=(og (P:=P) (w:=w) (base:=base) T).mono (by decide:_≤9);have cm:=(fQ (P:=P) (w:=w) (base:=base) T).mono (by decide:_≤9);have iB:=(pA (P:=P) (w:=w) (base:=base) T).mono (by decide:_≤9);have Hy:=(ED (P:=P) (w:=w) (base:=base) T).mono (by decide:_≤9);have sg:=qP (P:=P) (w:=w) (base:=base) T;have pN:=(um (P:=P) (w:=w) (base:=base) T).mono (by decide:_≤9);have g9:=(mq (P:=P) (w:=w) (base:=base) T).mono (by decide:_≤9);have oE:=(q_ (P:=P) (w:=w) (base:=base) T).mono (by decide:_≤9);have yY:=(wU (P:=P) (w:=w) (base:=base) T).mono (by decide:_≤9);have uY:=(tM (P:=P) (w:=w) (base:=base) T).mono (by decide:_≤9);have cf:=(eF (P:=P) (w:=w) (base:=base) T).mono (by decide:_≤9);have cS:=(gB (P:=P) (w:=w) (base:=base) T).mono (by decide:_≤9);have dB:=(gR (P:=P) (w:=w) (base:=base) T).mono (by decide:_≤9);have gF:=mQ (P:=P) (w:=w) (base:=base) T;have ou:=(rC (P:=P) (w:=w) (base:=base) T).mono (by decide:_≤9);refine T.sO.ok eV (fun vs H Q E h=> ?_) (fun cF Ar outer s H vs Q E hr h=> ?_)
 ·obtain⟨a,m,ps,ts,L,pk,R,N,rs,ws,ms,cs,rfl,_⟩:=h;rfl
 ·obtain⟨a,m,ps,ts,L,pk,R,N,rs,ws,ms,cs,rfl,Z,hR,hN,q⟩:=h;have hu:=dS hr;have BS:=hr.gd;have Xe:=hr.D7;have sN:_+100<cLine:=Nat.lt_of_le_of_lt (Nat.add_le_add_left (by decide:100≤16*9+200) _) (by have:=hr.un;omega);have h6L:(6:Nat)≤sizeLine:=by decide
  have hl:=Z.G.W.len;have Fn:=Z.G.ts;refine⟨_,(ak (a_ (i:=2) eV.nd rfl (Or.inl rfl) (ay gT hr rfl T.lI T.ji.kp T.lH .nil aw (aa (pv 1) ah))) (ak (a_ (i:=3) eV.nd rfl (Or.inl rfl) (bN (aa (pv 2) (aa (bF j6 (aN hu (pv 1) aS (fun _ _=>rfl)) (pv 2)) (aa (aN hu (pv 1) aS (fun _ _=>rfl)) (aa (aN hu (pv 1) aS (fun _ _=>rfl)) (aa (ay cm hr rfl T.eL T.dj.kp T.eR .nil aw (aa (pv 1) ah)) (aa (bF j6 (aE aU (by rfl) T.ee Boot.«len» (aa (aN hu (pv 1) aS (fun _ _=>rfl)) ah)) ax) ah)))))))) (ak (a_ (i:=4) eV.nd rfl (Or.inl rfl) (bN (aa (b_ (pv 0) T.ar T.oi g9 hr T.oW .nil aw) (aa (b_ (pv 0) T.ar T.uc oE hr T.tJ .nil aw) (aa (b_ (pv 0) T.ar T.yQ yY hr T.yu .nil aw) (aa (b_ (pv 0) T.ar T.uy uY hr T.uX .nil aw) (aa (b_ (pv 0) T.ar T.fc cf hr T.e7 .nil aw) (aa (b_ (pv 0) T.ar T.iq cS hr T.hZ .nil aw) ah)))))))) (ak (cg (PW.pt (jak (ba vp (aE (cH BS sN) (by rfl) T.fZ Boot.«repr» (aa (b_ (pv 0) T.ar T.jM gF hr T.jL .nil aw) ah)) (aE (cH BS sN) (by rfl) T.fZ Boot.«repr» (aa (ay iB hr rfl T.kR T.iE.kp T.kQ .nil aw (aa (pv 1) ah)) ah)) (bu _)) (jag (ba vp (aE (cH BS sN) (by rfl) T.fZ Boot.«repr» (aa (pv 4) ah)) (aE (cH BS sN) (by rfl) T.fZ Boot.«repr» (aa (pv 3) ah)) (bu _))))) (aq (aG j9)) bp) (ak (cg (ba vp (aE (cH BS sN) (by rfl) T.fZ Boot.«repr» (aa (dA (N:=["_law_k","_law_house_here"]) (k:=1) (js:=[0]) rfl (bP (by kernel_rfl)) (iW rfl T.kg (aa (aE aU (by rfl) T.ee Boot.«len» (aa (aN hu (pv 1) aS (fun _ _=>rfl)) ah)) ah)) (fun _ _ _ _ _=>⟨(bc (i:=0) (show(["_law_k","_law_house_here"]:aX).Nodup by decide+kernel) rfl (Or.inl rfl) (Or.inr rfl)),za,(aR (pv 1) T.ar T.iD dB hr T.ia .nil aw (aa (pv 0) ah))⟩)) ah)) (aE (cH BS sN) (by rfl) T.fZ Boot.«repr» (aa (aN hu (pv 1) aS (fun _ _=>rfl)) ah)) (bu _)) (aq (aG j9)) bp) (ak (gO PassesOwn.never rfl (cx (aN hu (pv 1) aS (fun _ _=>rfl))) (bc (i:=5) eV.nd rfl (Or.inl rfl) (Or.inl rfl)) (aq (cg (ba vp (ay Hy hr rfl T.HI T.z8.kp T.HH .nil aw (aa (pv 0) (aa (pv 5) ah))) (bB bj (aN hu (pv 1) aS (fun _ _=>rfl)) (bB iG (pv 5) ax (fun _ _=>rfl)) (fun _ _=>rfl)) (bu _)) (aq (aG j9)) bp))) (ak (cg (fH (eY (ay sg hr rfl T.rJ T.kX.kp T.sA .nil aw (aa (pv 0) (aa (pv 1) ah))))) (aq (aG j9)) bp) (ak (gO PassesOwn.never rfl (cx (ay cm hr rfl T.eL T.dj.kp T.eR .nil aw (aa (pv 1) ah))) (bc (i:=6) eV.nd rfl (Or.inl rfl) (Or.inl rfl)) (aq (cg (PW.pt (jaa (ba DA (ay gT hr rfl T.lI T.ji.kp T.lH .nil aw (aa (pv 1) ah)) (aN hu (pv 1) aS (fun _ _=>rfl)) (bu _)) (Wp (ba (uE sN) (aR (pv 0) T.ar T.t7 ou hr T.sT .nil aw (aa (pv 6) (aa ax ah))) (ay pN hr rfl T.vm T.pP.kp T.vj .nil aw (aa (pv 1) (aa (pv 6) (aa ax ah)))) (bu _))))) (aq (aG j9)) bp))) (aq (aG (lN xJ (aE (cH BS sN) (by rfl) T.fZ Boot.«repr» (aa (b_ (pv 0) T.ar T.jM gF hr T.jL .nil aw) ah)) (aE (cH BS sN) (by rfl) T.fZ Boot.«repr» (aa (ay iB hr rfl T.kR T.iE.kp T.kQ .nil aw (aa (pv 1) ah)) ah)) (bu _)))))))))))),?_⟩;have G8:∀r∈R,r.2≤6∧r.1<ts.length:=fun r hr=>⟨(Z.G.rw r hr).2.1,Z.rt r hr⟩;refine⟨_,rfl,m,ps,ts,L,pk,R,ws,ms,cs,rfl,Z.mo,Z.ok.cz,by lia,G8,fun H1 s1=> ?_⟩;have Z1:=Z.same s1;refine⟨_,rfl,_,rfl,m.d,_,rfl,Z1.mo.getL,_,rfl,_,_,rfl,rfl,_,rfl,m.d,_,rfl,Z1.mo.getL,_,rfl,m.d,_,rfl,Z1.mo.XD,_,rfl,m.d,m.ha,m.tk,ps,ts,rfl,Z1.mo.mod,by lia,fun sl H2 Tc s2 WT=> ?_⟩;have Z2:=Z1.same s2;refine⟨_,rfl,m.d,_,rfl,Z2.mo.mod.xQ,m.tk,_,rfl,.inl (bA.of Z2.mo.tl),_,1,rfl,rfl,h6L,fun dl VD=> ?_⟩;have dul:au H2 (upd H2 dl (.lst [V.int (bg ts R:Nat),.int ((L:Int) - (bg ts R:Nat)),.int L,.int pk,.ref sl,.int ((ts.map oV).length - 1)])):=au.upd VD;have dll:upd H2 dl (.lst [V.int (bg ts R:Nat),.int ((L:Int) - (bg ts R:Nat)),.int L,.int pk,.ref sl,.int ((ts.map oV).length - 1)]) dl=some (.lst [V.int (bg ts R:Nat),.int ((L:Int) - (bg ts R:Nat)),.int L,.int pk,.ref sl,.int ((ts.map oV).length - 1)]):=ae;generalize upd H2 dl (.lst [V.int (bg ts R:Nat),.int ((L:Int) - (bg ts R:Nat)),.int L,.int pk,.ref sl,.int ((ts.map oV).length - 1)])=H3 at dul dll;have Z3:=Z2.same dul;obtain⟨dx3,W0⟩:=Z3.h.ob;refine⟨_,rfl,a.f,dx3,_,rfl,W0,aC (by decide+kernel),a,ps,ts,L,pk,R,N,rs,cs,rfl,Z3.h,fun r hr=>(G8 r hr).1,by lia,Fn,fun H4 s4=> ?_⟩;have Z4:=Z3.same s4;obtain⟨Zp,Q6⟩:=Z4.h.ob;refine⟨_,rfl,a.f,Zp,_,rfl,Q6,aC (by decide+kernel),a,ps,ts,L,pk,R,N,rs,cs,rfl,Z4.h,fun r hr=>(G8 r hr).1,by lia,Fn,fun H5 s5=> ?_⟩;have Z5:=Z4.same s5;obtain⟨Wx,GR⟩:=Z5.h.ob;refine⟨_,rfl,a.f,Wx,_,rfl,GR,aC (by decide+kernel),a,ps,ts,L,pk,R,N,rs,cs,rfl,Z5.h,_,rfl,a.f,Wx,_,rfl,GR,aC (by decide+kernel),a,ps,ts,L,pk,R,N,rs,cs,rfl,Z5.h,_,rfl,a.f,Wx,_,rfl,GR,aC (by decide+kernel),a.f,a.pa,a.ta,ps,ts,rfl,Z5.h.fr,by lia,fun Xa H6 awI s6 hs6=> ?_⟩;have Z6:=Z5.same s6;obtain⟨dx6,ho6⟩:=Z6.h.ob;refine⟨_,rfl,a.f,dx6,_,rfl,ho6,aC (by decide+kernel),a.f,a.pa,a.ta,ps,ts,rfl,Z6.h.fr,h6L,fun fl Dl=> ?_⟩;have ful:au H6 (upd H6 fl (.lst [V.int (bg ts R:Nat),.int ((L:Int) - (bg ts R:Nat)),.int L,.int pk,.ref Xa,.int ((ps.length:Int) - 1)])):=au.upd Dl;have fll:upd H6 fl (.lst [V.int (bg ts R:Nat),.int ((L:Int) - (bg ts R:Nat)),.int L,.int pk,.ref Xa,.int ((ps.length:Int) - 1)]) fl=some (.lst [V.int (bg ts R:Nat),.int ((L:Int) - (bg ts R:Nat)),.int L,.int pk,.ref Xa,.int ((ps.length:Int) - 1)]):=ae;generalize upd H6 fl (.lst [V.int (bg ts R:Nat),.int ((L:Int) - (bg ts R:Nat)),.int L,.int pk,.ref Xa,.int ((ps.length:Int) - 1)])=H7 at ful fll;have Z7:=Z6.same ful;obtain⟨dx7,ho7⟩:=Z7.h.ob;have s37:=s4.trans (s5.trans (s6.trans ful));have s07:au H H7:=s1.trans (s2.trans (dul.trans s37));obtain⟨dss,hdd,OY⟩:=Z.dss (by lia);have dat:∀{H' :Hp},au H H'→∀(m:Nat) vs,cs[m]? =some vs→DatAll H' vs (dss m):=fun s' m vs e=>DatAll.same s' (hdd m vs e);obtain⟨g1,g2,g3⟩:=xt (dss:=dss) (R:=R) Z.G.W Z.G.hi (by lia) OY;refine⟨_,rfl,a.f,dx7,_,rfl,ho7,aC (by decide+kernel),a,ps,ts,L,pk,R,N,rs,cs,rfl,Z7.h,Z.r1,Z.ok.cl,hl,Fn,by lia,fun v1 H8 s8 p1=>⟨v1,_,rfl,p1.dat (dat (s07.trans s8)),g1,g2,g3,?_⟩⟩;refine⟨_,rfl,m,ps,ts,L,pk,R,ws,ms,cs,rfl,(Z7.same s8).mo,hl,Fn,by lia,fun v2 H9 s9 p2=>⟨v2,_,rfl,p2.dat (dat (s07.trans (s8.trans s9))),g1,g2,g3,rfl,_,rfl,?_⟩⟩;rw[zX];have WL:=s8.trans s9
  have e6:((ts.map oV).length:Int) - 1=(ps.length:Int) - 1:=by
   rw[List.length_map]
   lia
  rw[e6] at dll
  have fE:(∀n∈aQ ts,n≤1000)∧(aQ ts).length≤200:=by
   have Tc:=iy ts;refine⟨fun n hn=> ?_,by lia⟩;have h1:=eq_of_beq (fR.mp hn);have:=(List.getElem?_eq_some_iff.mp h1).1
   lia
  have Xj:=Z.G.use;have hhi:=Z.G.hi;have hpk:=Z.G.pk;have big:∀{i:Int},i.natAbs≤1000→Fits 1500 3 (.int i):=fun h=>(uk (Nat.lt_of_le_of_lt h (by decide+kernel))).mono (by decide) (by decide)
  have f6:Fits 20000 4 (.list [.int (bg ts R:Nat),.int ((L:Int) - (bg ts R:Nat)),.int L,.int pk,.list (nD (aQ ts)),.int ((ps.length:Int) - 1)]):=by
   refine(Fits.list (B:=1500) (k:=3) fun e he=> ?_).mono (by show 1500*6+2*6+3≤20000;decide) (Nat.le_refl _);simp only[List.mem_cons,List.not_mem_nil,or_false] at he;rcases he with rfl|rfl|rfl|rfl|rfl|rfl
   ·exact big (by lia)
   ·exact big (by lia)
   ·exact big (by lia)
   ·exact big (by lia)
   ·exact(Fs fE.1 fE.2).mono (by decide) (by decide)
   ·exact big (by lia)
  obtain⟨k1,k2,k3⟩:=f6.rep (by decide) (by decide);have abM:∀{H' :Hp} {l x:Addr},H' l=some (.lst [V.int (bg ts R:Nat),.int ((L:Int) - (bg ts R:Nat)),.int L,.int pk,.ref x,.int ((ps.length:Int) - 1)])→H' x=some (.lst ((aQ ts).map nV))→Dat H' (.ref l) (.list [.int (bg ts R:Nat),.int ((L:Int) - (bg ts R:Nat)),.int L,.int pk,.list (nD (aQ ts)),.int ((ps.length:Int) - 1)]):=fun e1 e2=> .lst e1 (.cons (.int _) (.cons (.int _) (.cons (.int _) (.cons (.int _) (.cons (Fe e2) (.cons (.int _) .nil))))));refine g8 ⟨_,rfl,_,_,rfl,abM (WL _ _ fll) (WL _ _ (ful _ _ hs6)),k1,k2,k3,_,rfl,_,_,rfl,abM (WL _ _ (s37 _ _ dll)) (WL _ _ (s37 _ _ (dul _ _ WT))),k1,k2,k3,rfl,_,rfl,?_⟩;rw[zX];refine g8 ?_;have Z9:=Z7.same WL;have eO:(ts.map oV).length=ts.length:=List.length_map ..;refine⟨_,rfl,m.d,_,rfl,Z9.mo.mod.xQ,m.tk,_,rfl,.inl (bA.of Z9.mo.tl),?_⟩;rw[eO];refine⟨_,rfl,by lia,by lia,?_⟩;rw[Int.toNat_natCast];have Wt:((List.range ts.length).map fun k:Nat=>V.int (0+(k:Int))).length=ts.length:=by rw[List.length_map,List.length_range]
  refine eX (fun _=>true) (fun i=>oV (ts.getD i none)) (vf 0 ts.length H9).g ?_ ?_ fun pc Fx hpc En Qi=> ?_
  ·rw[Wt];exact Nat.le_of_lt (bX (by lia))
  ·intro i x H' C1 C0 hi sm hx c1 c0;rw[Wt] at hi;rw[List.getElem?_map,List.getElem?_range hi] at hx
   obtain rfl:x= .int (i:Int):=by
    have hx:some (V.int (0+(i:Int)))=some x:=hx;rw[Int.zero_add] at hx;cases hx;rfl
   have Z' :=Z9.same sm;obtain⟨DH,Bf⟩:=Z'.h.ob;have ND:ts[i]? =some (ts.getD i none):=by rw[List.getD_eq_getElem?_getD];simp[hi]
   refine⟨(gw.refl _).own (by decide),@kj _ (C0 H') ⟨_,rfl,a.f,DH,_,rfl,Bf,aC (by decide+kernel),_,rfl,a.f,a.pa,a.ta,ps,ts,i,_,rfl,Z'.h.fr,hl,ND,c1 rfl H' (au.refl H')⟩⟩
  rw[Wt,MB] at Qi;have UX:=Z9.same En
  have oD1:Fits 1500 2 (.list (ts.map oD)):=by
   refine(Fits.list (B:=5) (k:=1) fun d hd=> ?_).mono (by rw[List.length_map];lia) (by decide);obtain⟨o,ho,rfl⟩:=List.mem_map.mp hd;refine wj fun n e=> ?_;subst e;obtain⟨i,hi⟩:=List.mem_iff_getElem?.mp ho;have:=Z.G.W.tk i n hi
   lia
  obtain⟨o1,o2,o3⟩:=oD1.rep (by decide) (by decide);refine⟨_,_,rfl,.lst Qi (kr _ ts),o1,o2,o3,_,rfl,m.d,_,rfl,UX.mo.mod.xQ,_,_,rfl,.lst UX.mo.tl (kr _ ts),o1,o2,o3,rfl,_,rfl,?_⟩;rw[zX];refine g8 ?_;refine⟨_,rfl,m.d,_,rfl,UX.mo.zh,m.wl,rfl,⟨_,bA.of UX.mo.wl⟩,?_⟩;refine gg (K:=K) (a:=m.wl) (xs:=ws.map V.ref) (fun i σ H' =>∃(x2 x3 x4 x5:Option V),σ=[some (.ref a.f),some (.ref m.d),x2,x3,x4,x5,none]∧au Fx H') ⟨_,_,_,_,rfl,au.refl _⟩ ?_ ?_ ?_
  ·rintro i σ H' _ ⟨x2,x3,x4,x5,_,sm⟩
   exact bA.of (sm _ _ UX.mo.wl)
  ·rintro i v σ NQ hv ⟨x2,x3,x4,x5,rfl,NK⟩
   obtain⟨t,ZH,rfl⟩:=List.mem_map.mp (List.mem_of_getElem? hv);obtain⟨jj,hjj⟩:=List.mem_iff_getElem?.mp ZH
   have Gr:jj<R.length:=by
    have:=(List.getElem?_eq_some_iff.mp hjj).1;rw[Z.mo.iu] at this;exact this
   have Xd:=UX.same NK;have ew:ws.getD jj 0=t:=by rw[List.getD_eq_getElem?_getD,hjj];rfl
   have et:=(Xd.mo.way jj Gr).2;rw[ew] at et;have hrt:=Z.rt _ (wv Gr);have fE:ts[(R.getD jj (0,0)).1]? =some ts[(R.getD jj (0,0)).1]:=by simp[hrt]
   refine⟨_,rfl,_,rfl,a,ps,ts,L,pk,R,N,rs,cs,jj,t,_,rfl,Xd.h,Z.ok.cl,Z.r1,hl,Gr,fE,et,fun Iz IH=> ?_⟩;have UN:=Xd.same IH;refine⟨_,rfl,m.d,_,rfl,UN.mo.mod.xQ,_,rfl,t,_,0,_,rfl,rfl,qS.of (IH _ _ et),rfl,m.tk,_,_,_,rfl,rfl,bA.of UN.mo.tl,jS fE,Qj _,_,rfl,?_⟩;rw[decide_eq_true rfl];exact g8 ⟨_,_,_,_,rfl,NK.trans IH⟩
  ·rintro σ NQ ⟨x2,x3,x4,x5,rfl,NK⟩
   have Xd:=UX.same NK;refine⟨_,rfl,_,rfl,a,m,ps,ts,L,pk,R,N,rs,ws,ms,cs,rfl,Xd,by lia,fun Iz IH=>⟨_,rfl,?_⟩⟩;have UN:=Xd.same IH;refine⟨_,rfl,m.d,m.ha,m.tk,ps,ts,rfl,UN.mo.mod,by lia,fun Xl H13 Yr NS Zn=> ?_⟩;have Z13:=UN.same NS
   have nsa:¬Xl∈a.own:=fun z=>by
    obtain⟨o,e⟩:=UN.h.al _ z;rw[Yr] at e;cases e
   have nsm:¬Xl∈m.own:=fun z=>by
    obtain⟨o,e⟩:=UN.mo.al _ z;rw[Yr] at e;cases e
   refine⟨Xl,rfl,⟨_,bA.of Zn⟩,?_⟩;refine gg (K:=K) (a:=Xl) (xs:=(aQ ts).map nV) (fun i σ H' =>∃(x2 x3 x4 x5 x6:Option V) (a' :HA) (m' :MA) (u5 :Nat) (R' :Rm) (N' :Nat) (xM vH vR :aY) (uP :dM),σ=[some (.ref a'.f),some (.ref m'.d),x2,x3,x4,x5,x6]∧Mv A.aj H13 a m H' a' m' ps ts L u5 R' N' xM vH vR uP R.length N i) ⟨_,_,_,_,_,a,m,pk,R,N,rs,ws,ms,cs,rfl,⟨Z13,rfl,rfl,fun c hc=> .inl hc,fun c hc=> .inl hc,fun _ _ _ _ e=>e,fun _ _ e=>e,fun _ e=>e,Nat.le_refl _,Nat.le_refl _⟩⟩ ?_ ?_ ?_
   ·rintro i σ H' _ ⟨x2,x3,x4,x5,x6,a',m',u5,R',N',xM,vH,vR,uP,_,M⟩
    exact bA.of (M.kp _ _ nsa nsm Zn)
   ·rintro i v σ H14 hv ⟨x2,x3,x4,x5,x6,a',m',u5,R',N',xM,vH,vR,uP,rfl,M⟩
    obtain⟨t,ZH,rfl⟩:=List.mem_map.mp (List.mem_of_getElem? hv)
    have xG:i<(aQ ts).length:=by
     have:=(List.getElem?_eq_some_iff.mp hv).1;rw[List.length_map] at this;exact this
    have af3:=iy ts;have uu:ts[t]? =some none:=eq_of_beq (fR.mp ZH);have NF:=(List.getElem?_eq_some_iff.mp uu).1;have hMR:=M.hR;have hMN:=M.hN;have ahH :∀r∈R',r.2≤6∧r.1<ts.length:=fun r hr=>⟨(M.Z.G.rw r hr).2.1,M.Z.rt r hr⟩;refine⟨_,rfl,m',ps,ts,L,u5,R',vH,vR,uP,rfl,M.Z.mo,M.Z.ok.cz,by lia,ahH,fun X8 WV=> ?_⟩;have NH:=M.same WV;refine⟨_,rfl,m'.d,_,rfl,NH.Z.mo.getL,_,_,rfl,rfl,_,rfl,?_⟩;refine yv (fun eO=> ?_) (fun _=> ?_)
    rotate_left
    ·first
      |exact⟨_,_,_,_,_,a',m',u5,R',N',xM,vH,vR,uP,rfl,NH.mono (Nat.le_succ _)⟩
      |exact g8 ⟨_,_,_,_,_,a',m',u5,R',N',xM,vH,vR,uP,rfl,NH.mono (Nat.le_succ _)⟩
    ·have eO:=of_decide_eq_true eO;have hle:bg ts R' +1≤L:=by lia
     obtain⟨aee,ahK⟩:=NH.Z.h.ob;refine⟨_,rfl,a'.f,aee,_,rfl,ahK,aC (by decide+kernel),_,rfl,a',ps,ts,L,u5,R',N',xM,uP,t,1,rfl,NH.Z.h,NH.Z.ok.cl,NH.Z.G,uu,Nat.le_refl _,(by decide),by lia,by lia,hle,fun oa r WW l F16 sa ga uv NP C7 WS=> ?_⟩;have Pj:aP WW m' ps ts L u5 R' vH vR uP :=NH.Z.mo.kept fun c o hc e=>uv c o (fun z=>NH.Z.ap c z hc) e;refine⟨_,rfl,_,rfl,m',ps,ts,L,u5,R',vH,vR,uP,t,1,rfl,Pj,M.Z.ok,by lia,fun r hr=>⟨(M.Z.G.rw r hr).1,(M.Z.G.rw r hr).2.1,M.Z.rt r hr⟩,NF,Nat.le_refl _,(by decide),fun om wt rr l' H17 M17 sm gm uw Xq hl4=> ?_⟩;have M18:=NH.made uu hle F16 sa ga uv NP M17 sm gm uw Xq;refine⟨gQ t (cR R' t),gQ t (cR R' t),.tup (Xq _ _ WS) (.cons (.int _) (.cons (.int _) .nil)),.tup hl4 (.cons (.int _) (.cons (.int _) .nil)),xY _ _,xY _ _,O4 _ _,_,rfl,?_⟩;rw[PySem.Spec.same_self];exact g8 ⟨_,_,_,_,_,{a' with own:=oa},{m' with own:=om},_,_,_,_,_,_,_,rfl,M18⟩
   ·rintro σ H14 ⟨x2,x3,x4,x5,x6,a',m',u5,R',N',xM,vH,vR,uP,rfl,M⟩
    have hMR:=M.hR;rw[List.length_map] at hMR;have af3:=iy ts;obtain⟨al0,afn⟩:=M.Z.h.ob;obtain⟨agb,acj,aib⟩:=M.Z.dss (by lia);obtain⟨w1,w2,w3⟩:=xt (dss:=agb) (R:=R') Z.G.W Z.G.hi (by lia) aib;refine⟨_,rfl,a'.f,al0,_,rfl,afn,aC (by decide+kernel),a',ps,ts,L,u5,R',N',xM,uP,rfl,M.Z.h,M.Z.r1,M.Z.ok.cl,hl,Fn,by lia,fun v1 X8 WV p1=>⟨v1,_,rfl,p1.dat (fun m vs e=>DatAll.same WV (acj m vs e)),w1,w2,w3,?_⟩⟩;refine⟨_,rfl,m',ps,ts,L,u5,R',vH,vR,uP,rfl,(M.Z.same WV).mo,hl,Fn,by lia,fun v2 WW s16 p2=>⟨v2,_,rfl,p2.dat (fun m vs e=>DatAll.same (WV.trans s16) (acj m vs e)),w1,w2,w3,rfl,?_⟩⟩;rw[decide_eq_true rfl];have Pj:=M.same (WV.trans s16);have Qt:au H H13:=s07.trans (WL.trans (En.trans (NK.trans (IH.trans NS))));refine q a' m' ps ts u5 R' N' xM vH vR uP WW Pj.Z Pj.f Pj.d (fun c hc=>(Pj.oa c hc).imp id Qt.free) (fun c hc=>(Pj.om c hc).imp id Qt.free) (fun c o h1 h2 e=>Pj.kp c o h1 h2 (Qt _ _ e)) (fun c xs e=>Pj.kt c xs (Qt _ _ e)) (by lia) ?_;have:=M.hN;rw[List.length_map] at this
    lia
end
theorem jae{α:Type}[DecidableEq α]:∀{ks l:List α},ks.Nodup→(∀x∈ks,x∈l)→ks.length≤l.length
 |[],_,_,_=>Nat.zero_le _
 |k::ks,l,hn,h=>by
  obtain⟨h1,h2⟩:=List.nodup_cons.mp hn;have hk:k∈l:=h k List.mem_cons_self;have:=jae (ks:=ks) (l:=l.erase k) h2 fun x hx=>(List.mem_erase_of_ne (show x≠k from fun z=>h1 (z▸hx))).mpr (h x (List.mem_cons_of_mem _ hx));rw[List.length_erase_of_mem hk] at this;have:=List.length_pos_of_mem hk;rw[List.length_cons]
  lia
theorem Pk{α:Type}[DecidableEq α]{ks l:List α}(hn:ks.Nodup)(h:∀x∈ks,x∈l)(hl:l.length≤ks.length){y:α}(hy:y∈l):y∈ks:=by
 by_cases z:y∈ks
 ·exact z
 ·have:=jae (ks:=y::ks) (l:=l) (List.nodup_cons.mpr ⟨z,hn⟩) fun x hx=>by
   rcases List.mem_cons.mp hx with rfl|hx
   ·exact hy
   ·exact h x hx
  rw[List.length_cons] at this
  lia
theorem tI{kv:dJ}{k:List wp}{v:V}(h:bz kv k=some v):(k,v)∈kv:=by
 unfold bz at h
 cases e:kv.find? fun kv=>decide (kv.1=k) with
 |none=>rw[e] at h;cases h
 |some p=>
  rw[e] at h;cases h;have h1:=List.mem_of_find?_eq_some e;have h2:=List.find?_some e;have h2:p.1=k:=by simpa using h2
  rw[←h2];exact h1
theorem AX:∀{kv:dJ},(kv.map (·.1)).Nodup→∀{k:List wp} {v:V},(k,v)∈kv→bz kv k=some v
 |[],_,_,_,h=>nomatch h
 |p::r,hn,k,v,h=>by
  obtain⟨h1,h2⟩:=List.nodup_cons.mp (show(p.1::r.map (·.1)).Nodup from hn);rcases List.mem_cons.mp h with rfl|h
  ·exact b9 rfl
  ·rw[br (fun z=>h1 (List.mem_map.mpr ⟨_,h,z.symm⟩))];exact AX h2 h
theorem xv:∀(more acc:dJ),((acc++more).map (·.1)).Nodup→pU acc more=acc++more
 |[],acc,_=>by rw[List.append_nil];rfl
 |p::r,acc,hn=>by
  have hv:bz acc p.1=none:=by
   cases e:bz acc p.1 with
   |none=>rfl
   |some v=>
    have h1:=tI e;rw[List.map_append,List.nodup_append] at hn;exact absurd rfl (hn.2.2 p.1 (List.mem_map.mpr ⟨_,h1,rfl⟩) p.1 (by simp))
  show pU (v4 acc p.1 p.2) r=_;rw[tF _ hv,xv r]
  ·simp
  ·simpa using hn
theorem wM{t p t' p' :Nat}(h:jY t p=jY t' p'):t=t'∧p=p' :=by
 have h1:=List.cons.inj h;have h2:(t:Int)=t' :=Sum.inl.inj h1.1;have h3:(p:Int)=p' :=Sum.inl.inj (List.cons.inj h1.2).1
 lia
def ksR(R:Rm):List (List wp):=(List.range R.length).map fun i=>jY (R.getD i (0,0)).1 (aT R i)
theorem HE{R:Rm}(hr:∀r∈R,1≤r.2):(ksR R).Nodup:=by
 refine List.pairwise_map.mpr (List.Pairwise.imp_of_mem (fun{i j} hi hj jA z=>jA ?_) List.nodup_range);obtain⟨h1,h2⟩:=wM z;refine mL hr (dZ (List.mem_range.mp hi)) ?_ h2;rw[h1];exact dZ (List.mem_range.mp hj)
theorem Mw{R:Rm}{ms:aY}{kv:dJ}(hr:∀r∈R,1≤r.2)(hl:kv.length≤R.length)(hv:∀i,i<R.length→bz kv (jY (R.getD i (0,0)).1 (aT R i))=some (.ref (ms.getD i 0)))(hn:(kv.map (·.1)).Nodup){k:List wp}{v:V}(h:(k,v)∈kv):
 ∃i,i<R.length∧k=jY (R.getD i (0,0)).1 (aT R i)∧v= .ref (ms.getD i 0):=by
 have hk:k∈ksR R:=by
  refine Pk (HE hr) (l:=kv.map (·.1)) (fun x hx=> ?_) ?_ (List.mem_map.mpr ⟨_,h,rfl⟩)
  ·obtain⟨i,hi,rfl⟩:=List.mem_map.mp hx;exact List.mem_map.mpr ⟨_,tI (hv i (List.mem_range.mp hi)),rfl⟩
  ·unfold ksR;rw[List.length_map,List.length_map,List.length_range];exact hl
 obtain⟨i,hi,rfl⟩:=List.mem_map.mp hk;have hi:=List.mem_range.mp hi;refine⟨i,hi,rfl,?_⟩;have:=AX hn h;rw[hv i hi] at this;cases this;rfl
theorem X_(x ha tk:Addr)(z:MX):v4 (qX ha tk z) kH (.ref x)=qX x tk z:=by kernel_rfl
theorem abo(x ha tk:Addr)(z:MX):v4 (qX ha tk z) kT (.ref x)=qX ha x z:=by kernel_rfl
theorem Y7(x:V)(ha tk:Addr)(z:MX):v4 (qX ha tk z) kW x=qX ha tk {z with wl:=x}:=by kernel_rfl
theorem aaE(x:V)(ha tk:Addr)(z:MX):v4 (qX ha tk z) kC x=qX ha tk {z with ca:=x}:=by kernel_rfl
section
variable{P:Program}{w:World}{K:Frag}{mg:Str→aH}{base:Heap}{A:pH}
def UL:Sp:=fun vs H Q _=>∃m ps ts L top R ws ms cs,vs=[.ref m.d]∧aP H m ps ts L top R ws ms cs∧(∀r∈R,1≤r.2)∧R.length≤1000∧
 ∀m2 Xn H',aP H' m2 ps ts L top R ws Xn cs→(∀c∈m2.own,H c=none∨(c∈m.own∧∃xs,H c=some (.tup xs)))→au H H'→Q (.ref m2.d) H'
theorem A4(T:Txt K mg A):aV P w K mg base eI 1 A.qy A.qw ["_law_model"] UL:=by
 refine T.vq.ok oy (fun vs H Q E h=> ?_) (fun cF Ar outer s H vs Q E hr h=> ?_)
 ·obtain⟨m,ps,ts,L,top,R,ws,ms,cs,rfl,_⟩:=h;rfl
 ·obtain⟨m,ps,ts,L,top,R,ws,ms,cs,rfl,M,lz,hR,q⟩:=h;have hu:=dS hr;have sN:_+100<cLine:=Nat.lt_of_le_of_lt (Nat.add_le_add_left (by decide:100≤16*0+200) _) (by have:=hr.un;omega);have ZK:(3:Nat)≤sizeLine:=by decide
  have DI:(2:Nat)≤sizeLine:=by decide
  refine⟨_,(ak (a_ (i:=1) oy.nd rfl (Or.inl rfl) (cj p4 (by rfl) T.uJ Boot.«dict» (aa (pv 0) ah))) (ak (gO PassesOwn.never rfl (cx (bN (aa aS (aa aS (aa aS ah))))) (bc (i:=2) oy.nd rfl (Or.inl rfl) (Or.inl rfl)) (aq (oM hu (pv 1) (pv 2) (cj g_ (by rfl) T.nZ Boot.«list» (aa (aN hu (pv 0) (pv 2) (fun _ _=>rfl)) ah)) rfl))) (ak (oM hu (pv 1) aS (cj (u9 rfl sN) (by rfl) T.uJ Boot.«dict» (aa (Lx (dA (N:=["_law_way","_law_cells"]) (k:=2) (js:=[]) rfl (bP (by kernel_rfl)) (Hv (EY plainAttrs_dict slot_dict_items type_dict_items Hn (aN hu (pv 0) aS (fun _ _=>rfl)))) (fun _ _ _ _ _=>⟨(Bx (K:=K) (n:=2) rfl rfl (jc (bc (i:=0) (show(["_law_way","_law_cells"]:aX).Nodup by decide+kernel) rfl (Or.inl rfl) (Or.inr rfl)) (jc (bc (i:=1) (show(["_law_way","_law_cells"]:aX).Nodup by decide+kernel) rfl (Or.inl rfl) (Or.inr rfl)) wb)) rfl rfl),za,(oR (aa (pv 0) (aa (cj (rq (K:=K) rfl) (by rfl) T.nZ Boot.«list» (aa (pv 1) ah)) ah)))⟩))) ah)) rfl) (aq (aG (pv 1)))))),?_⟩;refine⟨_,rfl,m.d,_,rfl,M.ob,fun d hd=> ?_⟩;have s1:=au.upd (o:= .dK (qX m.ha m.tk ⟨.int L,.int top,.ref m.wl,.ref m.ca⟩)) hd;have d1:upd H d (.dK (qX m.ha m.tk ⟨.int L,.int top,.ref m.wl,.ref m.ca⟩)) d=some (.dK (qX m.ha m.tk ⟨.int L,.int top,.ref m.wl,.ref m.ca⟩)):=ae;generalize upd H d (.dK (qX m.ha m.tk ⟨.int L,.int top,.ref m.wl,.ref m.ca⟩))=H1 at s1 d1;refine⟨ZK,fun l3 WS=>⟨l3,rfl,⟨_,bA.of ae⟩,?_⟩⟩;have s2:=au.upd (o:= .lst [V.str "holders",V.str "takers",V.str "ways"]) WS;have e2:upd H1 l3 (.lst [V.str "holders",V.str "takers",V.str "ways"]) l3=some (.lst [V.str "holders",V.str "takers",V.str "ways"]):=ae;have d2:=s2 _ _ d1;have s02:=s1.trans s2;generalize upd H1 l3 (.lst [V.str "holders",V.str "takers",V.str "ways"])=H2 at s02 e2 d2;have U2:l3≠d:=fun z=>by rw[z,d1] at WS;cases WS
  refine gg (K:=K) (a:=l3) (xs:=[V.str "holders",V.str "takers",V.str "ways"]) (fun i σ H' =>∃(x2:Option V) (ha tk wl:Addr),σ=[some (.ref m.d),some (.ref d),x2]∧au H H'∧H' l3=some (.lst [V.str "holders",V.str "takers",V.str "ways"])∧H' d=some (.dK (qX ha tk ⟨.int L,.int top,.ref wl,.ref m.ca⟩))∧(1≤i→H ha=none∧H' ha=some (.lst (ps.map oV)))∧(2≤i→H tk=none∧H' tk=some (.lst (ts.map oV))∧ha≠tk)∧(3≤i→H wl=none∧H' wl=some (.lst (ws.map V.ref))∧wl≠ha∧wl≠tk)) ⟨_,m.ha,m.tk,m.wl,rfl,s02,e2,d2,(fun z=>absurd z (by lia)),(fun z=>absurd z (by lia)),(fun z=>absurd z (by lia))⟩ ?_ ?_ ?_
  ·rintro i σ H' _ ⟨x2,ha,tk,wl,_,_,e',_⟩
   exact bA.of e'
  ·rintro i v σ H3 hv ⟨x2,ha,tk,wl,rfl,s3,e3,d3,p1,p2,p3⟩
   have M3:=M.same s3;have hi:i<3:=(List.getElem?_eq_some_iff.mp hv).1;have kl:(qX ha tk ⟨.int L,.int top,.ref wl,.ref m.ca⟩).length<sizeLine:=(by show 6<sizeLine;decide);rcases(show i=0∨i=1∨i=2 by lia) with rfl|rfl|rfl
   ·cases hv;refine⟨_,rfl,_,rfl,m.d,_,rfl,M3.mod.BN,m.ha,_,rfl,.inl (bA.of M3.hl),fun l hl=> ?_⟩;have s4:=au.upd (o:= .lst (ps.map oV)) hl;have ld:l≠d:=fun z=>by rw[z,d3] at hl;cases hl
    refine⟨_,rfl,_,rfl,d,_,rfl,sD.k (k:=kH) (s4 _ _ d3) kl,?_⟩;rw[X_];refine⟨_,l,tk,wl,rfl,fun c o e=> ?_,?_,ae,(fun _=>⟨s3.free hl,?_⟩),(fun z=>absurd z (by lia)),(fun z=>absurd z (by lia))⟩
    ·rw[af (ag e hd)];exact s4 _ _ (s3 _ _ e)
    ·rw[af U2];exact s4 _ _ e3
    ·rw[af ld];exact ae
   ·cases hv;refine⟨_,rfl,_,rfl,m.d,_,rfl,M3.mod.xQ,m.tk,_,rfl,.inl (bA.of M3.tl),fun l hl=> ?_⟩;have s4:=au.upd (o:= .lst (ts.map oV)) hl;have ld:l≠d:=fun z=>by rw[z,d3] at hl;cases hl
    obtain⟨Yw,Mz⟩:=p1 (Nat.le_refl _);refine⟨_,rfl,_,rfl,d,_,rfl,sD.k (k:=kT) (s4 _ _ d3) kl,?_⟩;rw[abo];refine⟨_,ha,l,wl,rfl,fun c o e=> ?_,?_,ae,(fun _=>⟨Yw,?_⟩),(fun _=>⟨s3.free hl,?_,ag Mz hl⟩),(fun z=>absurd z (by lia))⟩
    ·rw[af (ag e hd)];exact s4 _ _ (s3 _ _ e)
    ·rw[af U2];exact s4 _ _ e3
    ·rw[af (aK Mz d3 (by intro z;cases z))];exact s4 _ _ Mz
    ·rw[af ld];exact ae
   ·cases hv;refine⟨_,rfl,_,rfl,m.d,_,rfl,M3.zh,m.wl,_,rfl,.inl (bA.of M3.wl),fun l hl=> ?_⟩;have s4:=au.upd (o:= .lst (ws.map V.ref)) hl;have ld:l≠d:=fun z=>by rw[z,d3] at hl;cases hl
    obtain⟨Yw,Mz⟩:=p1 (by lia);obtain⟨p21,U4,p23⟩:=p2 (Nat.le_refl _);refine⟨_,rfl,_,rfl,d,_,rfl,sD.k (k:=kW) (s4 _ _ d3) kl,?_⟩;rw[Y7];refine⟨_,ha,tk,l,rfl,fun c o e=> ?_,?_,ae,(fun _=>⟨Yw,?_⟩),(fun _=>⟨p21,?_,p23⟩),(fun _=>⟨s3.free hl,?_,(ag Mz hl).symm,(ag U4 hl).symm⟩)⟩
    ·rw[af (ag e hd)];exact s4 _ _ (s3 _ _ e)
    ·rw[af U2];exact s4 _ _ e3
    ·rw[af (aK Mz d3 (by intro z;cases z))];exact s4 _ _ Mz
    ·rw[af (aK U4 d3 (by intro z;cases z))];exact s4 _ _ U4
    ·rw[af ld];exact ae
  ·rintro σ H3 ⟨x2,ha,tk,wl,rfl,s3,e3,d3,p1,p2,p3⟩
   obtain⟨Yw,Mz⟩:=p1 (show 1≤3 by decide);obtain⟨p21,U4,p23⟩:=p2 (show 2≤3 by decide);obtain⟨p31,p32,p33,p34⟩:=p3 (show 3≤3 by decide);have M3:=M.same s3;obtain⟨kv,c1,c2,c3⟩:=M3.ca;refine⟨_,rfl,m.d,_,rfl,M3.D_,.inr (.inr (.inl ⟨rfl,.inr ⟨_,c1⟩⟩)),m.ca,kv,rfl,rfl,c1,fun v hv=> ?_⟩;have s4:=au.upd (o:=lJ v m.ca) hv;refine⟨v,m.ca,kv,rfl,ae,s4 _ _ c1,fun o bs nf RI hbl hbs=> ?_⟩;generalize upd H3 v (lJ v m.ca)=H4 at s4 hbs;have M4:=M3.same s4;have c14:=s4 _ _ c1;have DX:upd H4 m.ca (.gE o (.dT kv)) m.ca=some (.gE o (.dT kv)):=ae
   have back:∀{c:Addr} {oo:HO},H4 c=some oo→c≠m.ca→upd H4 m.ca (.gE o (.dT kv)) c=some oo:=fun{c oo} e h1=>by
    rw[af h1];exact e
   refine xP (fun j v M H' =>∃i t l b vs,i<R.length∧kv[j]? =some (jY (R.getD i (0,0)).1 (aT R i),.ref (ms.getD i 0))∧bs[j]? =some b∧v= .ref t∧M t∧M l∧(∀c,M c→c=t∨c=l)∧H' t=some (.tup [.ref b,.ref l])∧H' l=some (.lst vs)∧cs[i]? =some vs) (A_ DX) (Nat.le_of_lt (bX (by lia))) ?_ ?_ ?_ ?_
   ·rintro j v N Ha Hb kt ⟨i,t,l,b,vs,h1,h2,h3,h4,h5,h6,h7,h8,h9,IE⟩
    exact⟨i,t,l,b,vs,h1,h2,h3,h4,h5,h6,h7,kt _ _ h5 h8,kt _ _ h6 h9,IE⟩
   ·rintro j v N Ha ⟨i,t,l,b,vs,h1,h2,h3,h4,h5,h6,h7,h8,h9,IE⟩ c hc
    rcases h7 c hc with rfl|rfl
    ·exact⟨_,h8⟩
    ·exact⟨_,h9⟩
   ·intro j x H' C1 hj sm hY c1';obtain⟨T2,k2,b,w2,rfl,hb,Yx,Io⟩:=hY;obtain⟨i,hi,rfl,rfl⟩:=Mw lz c2 c3 RI (List.mem_of_getElem? Io);obtain⟨m1,m2,m3,m4,vs,hcs,hv4⟩:=M4.mm i (ms.getD i 0) (dv 0 (by rw[M.ml];exact hi));have NT :=sm _ _ (back hv4 (aK hv4 c14 (by intro z;cases z)));refine⟨T2,_,rfl,qS.of Yx,rfl,_,_,rfl,_,_,rfl,rfl,((gw.refl _).own (by decide)).own (by decide),?_⟩;refine⟨_,rfl,_,rfl,ms.getD i 0,_,rfl,.inl (bA.of NT),fun l hl=>⟨DI,fun t ht=> ?_⟩⟩;have sl:=au.upd (o:= .lst vs) hl
    exact c1' _ _ (fun c=>c=t∨c=l) (sl.trans (au.upd ht)) (fun c hc=>by
     rcases hc with rfl|rfl
     ·exact sl.free ht
     ·exact hl) ⟨i,t,l,b,vs,hi,Io,hb,rfl,.inl rfl,.inr rfl,fun c hc=>hc,ae,(au.upd ht) _ _ ae,hcs⟩
   ·intro pl H8 ys N rR sm Vn rM hE hM;have pb:pl≠m.ca:=fun z=>by rw[z,DX] at rR;cases rR
    refine⟨m.ca,o,_,sm _ _ DX,nf,?_⟩
    have nb8:∀{c:Addr},upd H4 m.ca (.gE o (.dT kv)) c=none→c≠m.ca:=fun e z=>by
     rw[z,DX] at e;cases e
    have ex:∀k:List wp,∃l,∀v,(k,v)∈kv→∃i j t b vs,i<R.length∧k=jY (R.getD i (0,0)).1 (aT R i)∧kv[j]? =some (k,.ref (ms.getD i 0))∧bs[j]? =some b∧ys[j]? =some (.ref t)∧N j l∧H8 t=some (.tup [.ref b,.ref l])∧H8 l=some (.lst vs)∧cs[i]? =some vs∧upd H4 m.ca (.gE o (.dT kv)) l=none:=fun k=>by
     by_cases hk:∃v,(k,v)∈kv
     ·obtain⟨v,hk⟩:=hk;obtain⟨j,hj⟩:=List.mem_iff_getElem?.mp hk;have Gr:=(List.getElem?_eq_some_iff.mp hj).1;have Zj:ys[j]? =some ys[j]:=by simp[show j<ys.length by lia]
      obtain⟨⟨i,t,l,b,vs,h1,h2,h3,h4,h5,h6,h7,h8,h9,IE⟩,hf⟩:=hE j _ Zj;rw[hj] at h2;cases h2;exact⟨l,fun _ _=>⟨i,j,t,b,vs,h1,rfl,hj,h3,by rw[Zj,h4],h6,h8,h9,IE,(hf l h6).2⟩⟩
     ·exact⟨0,fun v z=>absurd ⟨v,z⟩ hk⟩
    obtain⟨f,hf⟩:=Classical.axiomOfChoice ex
    have rD:∀{c:Addr} {oo:HO},H4 c=some oo→upd H8 m.ca (.dT kv) c=some oo:=fun{c oo} e=>by
     by_cases z:c=m.ca
     ·subst z;rw[ae,←c14];exact e
     ·rw[af z];exact sm _ _ (back e z)
    have knd:∀{i j:Nat} {k:List wp} {u v:V},kv[i]? =some (k,u)→kv[j]? =some (k,v)→i=j:=fun{i j k u v} e1 e2=>by
     have f1:(kv.map (·.1))[i]? =some k:=by rw[List.getElem?_map,e1];rfl
     have f2:(kv.map (·.1))[j]? =some k:=by rw[List.getElem?_map,e2];rfl
     exact(List.getElem?_inj (List.getElem?_eq_some_iff.mp f1).1 RI).mp (f1.trans f2.symm)
    have Uo:CC (upd H8 m.ca (.dT kv)) ys (kv.map fun p=>(p.1,.ref (f p.1))):=by
     refine⟨by rw[List.length_map];exact rM,fun i' k v e=> ?_⟩;rw[List.getElem?_map] at e
     cases yk :kv[i']? with
     |none=>rw[yk] at e;cases e
     |some p=>
      rw[yk] at e;cases e;obtain⟨i,j,t,b,vs,h1,h2,h3,h4,h5,h6,h7,h8,h9,IE⟩:=hf p.1 p.2 (List.mem_of_getElem? yk);have:=knd yk h3;subst this;refine⟨t,b,h5,?_,rD (hbs _ _ _ _ yk h4)⟩;rw[af (aK h7 (sm _ _ DX) (by intro z;cases z))];exact h7
    have hk2:(kv.map fun p=>((p.1,.ref (f p.1)):List wp×V)).map (·.1)=kv.map (·.1):=by
     rw[List.map_map];rfl
    refine⟨pl,ys,_,rfl,(by rw[af pb];exact Vn),Uo,fun EN Lh=> ?_⟩;rw[xv _ [] (by rw[List.nil_append,hk2];exact RI),List.nil_append];have s9:=au.upd (o:= .dT (kv.map fun p=>(p.1,.ref (f p.1)))) Lh;have e9:upd (upd H8 m.ca (.dT kv)) EN (.dT (kv.map fun p=>(p.1,.ref (f p.1)))) EN=some (.dT (kv.map fun p=>(p.1,.ref (f p.1)))):=ae;have k9:∀{c:Addr} {oo:HO},H4 c=some oo→upd (upd H8 m.ca (.dT kv)) EN (.dT (kv.map fun p=>(p.1,.ref (f p.1)))) c=some oo:=fun e=>s9 _ _ (rD e);have l9:∀{c:Addr} {oo:HO},H8 c=some oo→upd H4 m.ca (.gE o (.dT kv)) c=none→upd (upd H8 m.ca (.dT kv)) EN (.dT (kv.map fun p=>(p.1,.ref (f p.1)))) c=some oo:=fun e h=>s9 _ _ (by rw[af (nb8 h)];exact e)
    have fca:H EN=none:=by
     cases z:H EN with
     |none=>rfl
     |some oo=>
      rw[rD (s4 _ _ (s3 _ _ z))] at Lh;cases Lh
    generalize upd (upd H8 m.ca (.dT kv)) EN (.dT (kv.map fun p=>(p.1,.ref (f p.1))))=H9 at s9 e9 k9 l9;have d9:=k9 (s4 _ _ d3);refine⟨_,rfl,d,_,rfl,sD.k (k:=kC) d9 (by show 6<sizeLine;decide),?_⟩;rw[aaE];refine⟨_,rfl,?_⟩
    have En:∀{c:Addr} {oo:HO},c≠d→H9 c=some oo→upd H9 d (.dK (qX ha tk ⟨.int L,.int top,.ref wl,.ref EN⟩)) c=some oo:=fun{c oo} h e=>by
     rw[af h];exact e
    have sH:au H (upd H9 d (.dK (qX ha tk ⟨.int L,.int top,.ref wl,.ref EN⟩))):=fun c oo e=>En (ag e hd) (k9 (s4 _ _ (s3 _ _ e)));have d10:upd H9 d (.dK (qX ha tk ⟨.int L,.int top,.ref wl,.ref EN⟩)) d=some (.dK (qX ha tk ⟨.int L,.int top,.ref wl,.ref EN⟩)):=ae;have hd4:=s4 _ _ d3;have zF:EN≠d:=fun z=>by rw[z,rD hd4] at Lh;cases Lh
    generalize upd H9 d (.dK (qX ha tk ⟨.int L,.int top,.ref wl,.ref EN⟩))=Fx at En sH d10;have zC:∀{c:Addr} {xs:az},H3 c=some (.lst xs)→Fx c=some (.lst xs):=fun e=>En (aK e d3 (by intro z;cases z)) (k9 (s4 _ _ e))
    have room:∀i,i<R.length→∃j t b vs,kv[j]? =some (jY (R.getD i (0,0)).1 (aT R i),.ref (ms.getD i 0))∧ys[j]? =some (.ref t)∧N j (f (jY (R.getD i (0,0)).1 (aT R i)))∧H8 t=some (.tup [.ref b,.ref (f (jY (R.getD i (0,0)).1 (aT R i)))])∧H8 (f (jY (R.getD i (0,0)).1 (aT R i)))=some (.lst vs)∧cs[i]? =some vs∧upd H4 m.ca (.gE o (.dT kv)) (f (jY (R.getD i (0,0)).1 (aT R i)))=none:=fun i hi=>by
     obtain⟨i',j,t,b,vs,h1,h2,h3,h4,h5,h6,h7,h8,h9,IE⟩:=hf _ _ (tI (c3 i hi));obtain⟨q1,q2⟩:=wM h2;have:i=i' :=mL lz (dZ hi) (by rw[q1];exact dZ h1) q2;subst this;exact⟨j,t,b,vs,h3,h5,h6,h7,h8,h9,IE⟩
    have Gb:∀{c:Addr},upd H4 m.ca (.gE o (.dT kv)) c=none→H4 c=none:=fun{c} e=>by
     rw[af (nb8 e)] at e;exact e
    have abb:∀i,i<R.length→((List.range R.length).map fun i=>f (jY (R.getD i (0,0)).1 (aT R i))).getD i 0=f (jY (R.getD i (0,0)).1 (aT R i)):=fun i hi=>by
     rw[List.getD_eq_getElem?_getD,List.getElem?_map,List.getElem?_range hi];rfl
    have Ew:∀i,i<R.length→∃vs,cs[i]? =some vs∧Fx (f (jY (R.getD i (0,0)).1 (aT R i)))=some (.lst vs)∧H4 (f (jY (R.getD i (0,0)).1 (aT R i)))=none:=fun i hi=>by
     obtain⟨j,t,b,vs,h3,h5,h6,h7,h8,h9,IE⟩:=room i hi;exact⟨vs,h9,En (ag hd4 (Gb IE)).symm (l9 h8 IE),Gb IE⟩
    have abR:∀i,i<R.length→ws.getD i 0∈ws:=fun i hi=>List.mem_of_getElem? (dv 0 (by rw[M.iu];exact hi));refine q ⟨d,ha,tk,wl,EN,d::ha::tk::wl::EN::((List.range R.length).map (fun i=>f (jY (R.getD i (0,0)).1 (aT R i)))++ws)⟩ ((List.range R.length).map fun i=>f (jY (R.getD i (0,0)).1 (aT R i))) Fx ⟨d10,zC Mz,zC U4,p23,zC p32,M.iu,fun i hi=>⟨?_,sH _ _ (M.way i hi).2⟩,⟨_,En ?_ e9,?_,fun i hi=> ?_⟩,⟨p33,p34⟩,?_,fun i b e=> ?_,?_,?_,fun c hc=> ?_⟩ (fun c hc=> ?_) sH
    ·simp only[List.mem_cons,List.mem_append];exact .inr (.inr (.inr (.inr (.inr (.inr (abR i hi))))))
    ·exact zF
    ·rw[List.length_map];exact c2
    ·rw[abb i hi];refine AX (by rw[hk2];exact RI) (List.mem_map.mpr ⟨_,tI (c3 i hi),rfl⟩)
    ·rw[List.length_map,List.length_range]
    ·rw[List.getElem?_map] at e
     have hi:i<R.length:=by
      by_cases z:i<R.length
      ·exact z
      ·rw[List.getElem?_eq_none (by rw[List.length_range];lia)] at e;cases e
     rw[List.getElem?_range hi] at e;cases e;obtain⟨vs,h1,h2,h3⟩:=Ew i hi;refine⟨?_,(ag (s4 _ _ Mz) h3).symm,(ag (s4 _ _ U4) h3).symm,(ag (s4 _ _ p32) h3).symm,vs,h1,h2⟩;simp only[List.mem_cons,List.mem_append];exact .inr (.inr (.inr (.inr (.inr (.inl (List.mem_map.mpr ⟨i,List.mem_range.mpr hi,rfl⟩))))))
    ·refine List.pairwise_map.mpr (List.Pairwise.imp_of_mem (fun{i i'} hi yk jA z=> ?_) List.nodup_range);obtain⟨j,t,b,vs,h3,h5,h6,h7,h8,h9,IE⟩:=room i (List.mem_range.mp hi);obtain⟨j',t',b',vs',Xh,h5',h6',h7',h8',h9',awo⟩:=room i' (List.mem_range.mp yk);have Gr:=(List.getElem?_eq_some_iff.mp h3).1;have UG :=(List.getElem?_eq_some_iff.mp Xh).1;rcases Nat.lt_trichotomy j j' with eO|heq|WY
     ·exact absurd (z▸h6') (hM j j' eO UG _ h6)
     ·subst heq;rw[h3] at Xh;obtain⟨q1,q2⟩:=wM (congrArg Prod.fst (Option.some.inj Xh));exact jA (mL lz (dZ (List.mem_range.mp hi)) (by rw[q1];exact dZ (List.mem_range.mp yk)) q2)
     ·exact absurd (z▸h6) (hM j' j WY Gr _ h6')
    ·simp
    ·simp only[List.mem_cons,List.mem_append] at hc;rcases hc with rfl|rfl|rfl|rfl|rfl|hc|hc
     ·exact⟨_,d10⟩
     ·exact⟨_,zC Mz⟩
     ·exact⟨_,zC U4⟩
     ·exact⟨_,zC p32⟩
     ·exact⟨_,En zF e9⟩
     ·obtain⟨i,hi,rfl⟩:=List.mem_map.mp hc;obtain⟨vs,h1,h2,h3⟩:=Ew i (List.mem_range.mp hi);exact⟨_,h2⟩
     ·obtain⟨i,hi⟩:=List.mem_iff_getElem?.mp hc
      have xG:i<R.length:=by
       have:=(List.getElem?_eq_some_iff.mp hi).1;rw[M.iu] at this;exact this
      have:=(M.way i xG).2;rw[show ws.getD i 0=c by rw[List.getD_eq_getElem?_getD,hi];rfl] at this;exact⟨_,sH _ _ this⟩
    ·simp only[List.mem_cons,List.mem_append] at hc;rcases hc with rfl|rfl|rfl|rfl|rfl|hc|hc
     ·exact .inl hd
     ·exact .inl Yw
     ·exact .inl p21
     ·exact .inl p31
     ·exact .inl fca
     ·obtain⟨i,hi,rfl⟩:=List.mem_map.mp hc;obtain⟨vs,h1,h2,h3⟩:=Ew i (List.mem_range.mp hi);exact .inl (s3.free (s4.free h3))
     ·obtain⟨i,hi⟩:=List.mem_iff_getElem?.mp hc
      have xG:i<R.length:=by
       have:=(List.getElem?_eq_some_iff.mp hi).1;rw[M.iu] at this;exact this
      have:=M.way i xG;rw[show ws.getD i 0=c by rw[List.getD_eq_getElem?_getD,hi];rfl] at this;exact .inr ⟨this.1,_,this.2⟩
end
theorem GO{lo:Int}{n k:Nat}{js:List Nat}{g:TG}{tt:TT}{te:TE}{σ:L2.St}{H:Hp}{Q:VK}(Iv:Addr→Nat→Hp→Prop)(h0:∀p,H p=none→Iv p 0 (upd H p (.lst [])))(hp:∀p i H',Iv p i H'→H' p=some (.lst []))
 (kU:∀p i H' (C1:V→Hp→Prop) (C0:Hp→Prop),i<n→Iv p i H'→(∀lC,Iv p (i+1) lC→C0 lC)→g (.int (lo+(i:Int))) (vN k js σ) H' fun oB H2=>gw (vN k js σ) oB∧tt oB H2 fun b H3=>if b=true then te oB H3 C1 else C0 H3)
 (hq:∀p H',Iv p n H'→Q (.ref p) H'):mU (Tw lo n) k js g tt te σ H Q:=by
 intro p JL;refine⟨fun i m ys H' =>m=n - i∧i≤n∧ys=[]∧Iv p i H',⟨n,rfl,Nat.zero_le _,rfl,h0 p JL⟩,?_⟩
 rintro i m ys H' ⟨rfl,hi,rfl,hv⟩
 refine⟨hp p i H' hv,?_⟩;by_cases eO:i<n
 ·refine .inr ⟨eO,(by show 0<sizeLine;decide),fun x lC hy=> ?_⟩;obtain⟨rfl,rfl⟩:=hy;exact kU p i _ _ _ eO hv fun H3 h3=>⟨n - (i+1),by lia,rfl,eO,rfl,h3⟩
 ·have e:i=n:=by lia
  subst e;exact .inl ⟨Nat.le_refl _,hq p H' hv⟩
structure Wd where
 a:HA
 m:MA
def Wd.In(x:Wd)(c:Addr):Prop:=c∈x.a.own∨c∈x.m.own
def Vd(C:Addr)(H:Hp)(x:Wd)(n:Nat):Prop:=∃ps ts L pk R N rs ws ms cs,nk C H x.a x.m ps ts L pk R N rs ws ms cs∧R.length+ts.length≤n+1∧N≤2*n
structure Core(C:Addr)(H0 H:Hp)(bo mo:Addr)(xs:List Wd)(nf:Nat→Nat):Prop where
 sm:au H0 H
 hb:H bo=some (.lst (xs.map fun x=>V.ref x.a.f))
 hm:H mo=some (.lst (xs.map fun x=>V.ref x.m.d))
 bm:bo≠mo
 l3:xs.length=3
 p:∀(i:Nat) x,xs[i]? =some x→Vd C H x (nf i)
 ap:∀(i j:Nat) x y,xs[i]? =some x→xs[j]? =some y→i≠j→∀c,x.In c→y.In c→∃vs,H c=some (.tup vs)
 nb:∀x∈xs,∀c,x.In c→c≠bo∧c≠mo∧H0 c=none
 n0:H0 bo=none∧H0 mo=none
def NM(H0:Hp)(bo mo:Addr)(xs:List Wd)(b:Addr):Prop:=b≠bo∧b≠mo∧(∀x∈xs,¬x.In b)∧H0 b=none
section
variable{C:Addr}{H0 H H' H1 H2 H3:Hp}{bo mo b:Addr}{xs:List Wd}{x x' y:Wd}{n n' i j:Nat}{nf nf' :Nat→Nat}
theorem Vd.al(p:Vd C H x n){c:Addr}(h:x.In c):∃o,H c=some o:=by
 obtain⟨ps,ts,L,pk,R,N,rs,ws,ms,cs,Z,_⟩:=p;exact h.elim (Z.h.al c) (Z.mo.al c)
theorem Vd.kept(p:Vd C H x n)(k:∀c o,x.In c→H c=some o→H' c=some o)(h:n≤n'):Vd C H' x n' :=by
 obtain⟨ps,ts,L,pk,R,N,rs,ws,ms,cs,Z,h1,h2⟩:=p;exact⟨ps,ts,L,pk,R,N,rs,ws,ms,cs,Z.kept k,by lia,by lia⟩
theorem Core.al(c:Core C H0 H bo mo xs nf)(hx:x∈xs){d:Addr}(h:x.In d):∃o,H d=some o:=by
 obtain⟨i,hi⟩:=List.mem_iff_getElem?.mp hx;exact(c.p i x hi).al h
theorem Core.same(c:Core C H0 H bo mo xs nf)(s:au H H'):Core C H0 H' bo mo xs nf:=
 ⟨c.sm.trans s,s _ _ c.hb,s _ _ c.hm,c.bm,c.l3,fun i x hx=>(c.p i x hx).kept (fun d o _ e=>s d o e) (Nat.le_refl _),fun i j x y hx hy WK d h1 h2=>(c.ap i j x y hx hy WK d h1 h2).imp fun vs e=>s _ _ e,c.nb,c.n0⟩
theorem Core.mono(c:Core C H0 H bo mo xs nf)(h:∀i,nf i≤nf' i):Core C H0 H bo mo xs nf' :=
 ⟨c.sm,c.hb,c.hm,c.bm,c.l3,fun i x hx=>(c.p i x hx).kept (fun d o _ e=>e) (h i),c.ap,c.nb,c.n0⟩
theorem Core.apart(c:Core C H0 H bo mo xs nf)(hb:H b=none):NM H0 bo mo xs b:=
 ⟨(ag c.hb hb).symm,(ag c.hm hb).symm,(fun x hx z=>by
  obtain⟨o,e⟩:=c.al hx z;rw[hb] at e;cases e),c.sm.free hb⟩
theorem Core.box(c:Core C H0 H bo mo xs nf)(hb:NM H0 bo mo xs b)(k:Kept b H H'):Core C H0 H' bo mo xs nf:=by
 obtain⟨h1,h2,h3,h4⟩:=hb;have kx:∀x∈xs,∀d o,x.In d→H d=some o→H' d=some o:=fun x hx d o h e=>k d o (fun z=>h3 x hx (z▸h)) e;exact⟨fun d o e=>k d o (ag e h4) (c.sm d o e),k _ _ h1.symm c.hb,k _ _ h2.symm c.hm,c.bm,c.l3,fun i x hx=>(c.p i x hx).kept (kx x (List.mem_of_getElem? hx)) (Nat.le_refl _),fun i j x y hx hy WK d g1 g2=>(c.ap i j x y hx hy WK d g1 g2).imp fun vs e=>kx x (List.mem_of_getElem? hx) d _ g1 e,c.nb,c.n0⟩
theorem wS{xs:List Wd}{i j:Nat}{x' y:Wd}(h:(xs.set i x')[j]? =some y):(j=i∧y=x')∨(j≠i∧xs[j]? =some y):=by
 rw[List.getElem?_set] at h
 split at h
 ·next e=>
  split at h
  ·cases h;exact .inl ⟨e.symm,rfl⟩
  ·cases h
 ·next e=>exact .inr ⟨fun z=>e z.symm,h⟩
theorem WP{xs:List Wd}{i:Nat}{x' y:Wd}(h:y∈xs.set i x'):y=x'∨y∈xs:=by
 obtain⟨j,hj⟩:=List.mem_iff_getElem?.mp h;rcases wS hj with⟨_,e⟩|⟨_,e⟩
 ·exact .inl e
 ·exact .inr (List.mem_of_getElem? e)
theorem map_set{α:Type}{xs:List Wd}{i:Nat}{x' :Wd}(f:Wd→α):(xs.set i x').map f=(xs.map f).set i (f x'):=List.map_set
theorem jah{α:Type}{l:List α}{i:Nat}{v:α}(h:l[i]? =some v):l.set i v=l:=by
 apply List.ext_getElem?;intro j;rw[List.getElem?_set]
 split
 ·next e=>
  subst e
  split
  ·exact h.symm
  ·next z=>rw[List.getElem?_eq_none (by lia)]
 ·rfl
theorem Core.step(c:Core C H0 H bo mo xs nf)(hx:xs[i]? =some x)(ef:x'.a.f=x.a.f)(ed:x'.m.d=x.m.d)(g:∀d,x'.In d→x.In d∨H d=none)
 (hb0:H0 b=none) (hbo:b≠bo) (hbm:b≠mo) (Vv:∀y∈xs,¬y.In b)
 (k:∀d o,d≠b→¬x.In d→H d=some o→H' d=some o) (kt:∀d vs,H d=some (.tup vs)→H' d=some (.tup vs)) (p:Vd C H' x' (nf' i)) (hn:∀j,j≠i→nf j≤nf' j):Core C H0 H' bo mo (xs.set i x') nf' :=by
 have GP:=List.mem_of_getElem? hx
 have nin:∀d,(d=bo∨d=mo)→¬x.In d:=fun d hd z=>by
  have:=c.nb x GP d z;rcases hd with rfl|rfl
  ·exact this.1 rfl
  ·exact this.2.1 rfl
 have ky:∀j y,j≠i→xs[j]? =some y→∀d o,y.In d→H d=some o→H' d=some o:=fun j y hj hy d o h e=>by
  by_cases z:x.In d
  ·obtain⟨vs,et⟩:=c.ap i j x y hx hy (fun q=>hj q.symm) d z h;rw[et] at e;cases e;exact kt d vs et
  ·exact k d o (fun q=>Vv y (List.mem_of_getElem? hy) (q▸h)) z e
 have lst:∀(f:Wd→V),f x' =f x→(xs.set i x').map f=xs.map f:=fun f e=>by
  rw[map_set,e];exact jah (by rw[List.getElem?_map,hx];rfl)
 refine⟨fun d o e=> ?_,?_,?_,c.bm,by rw[List.length_set];exact c.l3,fun j y hy=> ?_,fun j1 j2 y1 y2 h1 h2 jA d g1 g2=> ?_,fun y hy d h=> ?_,c.n0⟩
 ·refine k d o (ag e hb0) (fun z=> ?_) (c.sm d o e);rw[(c.nb x GP d z).2.2] at e;cases e
 ·rw[lst (fun x=>V.ref x.a.f) (by show V.ref x'.a.f=V.ref x.a.f;rw[ef])];exact k _ _ hbo.symm (nin _ (.inl rfl)) c.hb
 ·rw[lst (fun x=>V.ref x.m.d) (by show V.ref x'.m.d=V.ref x.m.d;rw[ed])];exact k _ _ hbm.symm (nin _ (.inr rfl)) c.hm
 ·rcases wS hy with⟨rfl,rfl⟩|⟨hj,hy⟩
  ·exact p
  ·exact(c.p j y hy).kept (ky j y hj hy) (hn j hj)
 ·have one:∀j y,j≠i→xs[j]? =some y→x'.In d→y.In d→∃vs,H' d=some (.tup vs):=fun j y hj hy h1 h2=>by
   rcases g d h1 with z|z
   ·obtain⟨vs,e⟩:=c.ap i j x y hx hy (fun q=>hj q.symm) d z h2;exact⟨vs,kt d vs e⟩
   ·obtain⟨o,e⟩:=(c.p j y hy).al h2;rw[z] at e;cases e
  rcases wS h1 with⟨rfl,rfl⟩|⟨hj1,S8⟩
  ·rcases wS h2 with⟨rfl,rfl⟩|⟨R9,NI⟩
   ·exact absurd rfl jA
   ·exact one j2 y2 R9 NI g1 g2
  ·rcases wS h2 with⟨rfl,rfl⟩|⟨R9,NI⟩
   ·exact one j1 y1 hj1 S8 g2 g1
   ·obtain⟨vs,e⟩:=c.ap j1 j2 y1 y2 S8 NI jA d g1 g2;exact⟨vs,kt d vs e⟩
 ·rcases WP hy with rfl|hy
  ·rcases g d h with z|z
   ·exact c.nb x GP d z
   ·exact⟨(ag c.hb z).symm,(ag c.hm z).symm,c.sm.free z⟩
  ·exact c.nb y hy d h
theorem NM.step(a:NM H0 bo mo xs b)(hx:xs[i]? =some x)(g:∀d,x'.In d→x.In d∨H d=none)(hb:∃o,H b=some o):NM H0 bo mo (xs.set i x') b:=by
 obtain⟨h1,h2,h3,h4⟩:=a;refine⟨h1,h2,fun y hy z=> ?_,h4⟩;rcases WP hy with rfl|hy
 ·rcases g b z with q|q
  ·exact h3 x (List.mem_of_getElem? hx) q
  ·obtain⟨o,e⟩:=hb;rw[q] at e;cases e
 ·exact h3 y hy z
theorem Core.twin{a2:HA}{m2:MA}{ps ts:aO}{L pk:Nat}{R:Rm}{N:Nat}{rs ws ms Xr Xn:aY}{cs:dM}(c:Core C H0 H bo mo xs (fun _=>n))(hx:xs[i]? =some x)(hj:j<3)
 (Z:nk C H x.a x.m ps ts L pk R N rs ws ms cs) (hR:R.length+ts.length≤n+1) (hN:N≤2*n)
 (fa:∀d∈a2.own,H d=none) (F:aF C H1 a2 ps ts L pk R N Xr cs) (s1:au H H1)
 (s2:au (upd H1 bo (.lst ((xs.map fun x=>V.ref x.a.f).set j (.ref a2.f)))) H2) (M:aP H2 m2 ps ts L pk R ws Xn cs) (fm:∀d∈m2.own,upd H1 bo (.lst ((xs.map fun x=>V.ref x.a.f).set j (.ref a2.f))) d=none∨(d∈x.m.own∧∃vs,upd H1 bo (.lst ((xs.map fun x=>V.ref x.a.f).set j (.ref a2.f))) d=some (.tup vs))):
 Core C H0 (upd H2 mo (.lst ((xs.map fun x=>V.ref x.m.d).set j (.ref m2.d)))) bo mo (xs.set j ⟨a2,m2⟩) (fun _=>n)∧(∀d o,d≠bo→d≠mo→H d=some o→upd H2 mo (.lst ((xs.map fun x=>V.ref x.m.d).set j (.ref m2.d))) d=some o)∧∀b,NM H0 bo mo xs b→(∃o,H b=some o)→NM H0 bo mo (xs.set j ⟨a2,m2⟩) b:=by
 have GP:=List.mem_of_getElem? hx;have nbo:∀d∈a2.own,d≠bo∧d≠mo:=fun d hd=>⟨(ag c.hb (fa d hd)).symm,(ag c.hm (fa d hd)).symm⟩;have k1:∀d o,d≠bo→H1 d=some o→H2 d=some o:=fun d o h e=>s2 _ _ (by rw[af h];exact e)
 have k2:∀d o,d≠bo→d≠mo→H1 d=some o→upd H2 mo (.lst ((xs.map fun x=>V.ref x.m.d).set j (.ref m2.d))) d=some o:=fun d o h h' e=>by
  rw[af h'];exact k1 d o h e
 have kH:∀d o,d≠bo→d≠mo→H d=some o→upd H2 mo (.lst ((xs.map fun x=>V.ref x.m.d).set j (.ref m2.d))) d=some o:=fun d o h h' e=>k2 d o h h' (s1 _ _ e)
 have m2H:∀d∈m2.own,(H d=none∧H1 d=none∧d≠bo∧d≠mo)∨(d∈x.m.own∧d≠bo∧d≠mo∧∃vs,H d=some (.tup vs)):=fun d hd=>by
  rcases fm d hd with z|⟨z,vs,e⟩
  ·have BU:d≠bo:=fun q=>by rw[q,ae] at z;cases z
   rw[af BU] at z;exact .inl ⟨s1.free z,z,BU,(ag (s1 _ _ c.hm) z).symm⟩
  ·have hn:=c.nb x GP d (.inr z);rw[af hn.1] at e;refine .inr ⟨z,hn.1,hn.2.1,?_⟩;obtain⟨o,eo⟩:=c.al GP (.inr z);rw[s1 _ _ eo] at e;cases e;exact⟨vs,eo⟩
 have F4:aF C (upd H2 mo (.lst ((xs.map fun x=>V.ref x.m.d).set j (.ref m2.d)))) a2 ps ts L pk R N Xr cs:=F.kept fun d o hd e=>k2 d o (nbo d hd).1 (nbo d hd).2 e;have nmo:∀d∈m2.own,d≠bo∧d≠mo:=fun d hd=>(m2H d hd).elim (fun z=>⟨z.2.2.1,z.2.2.2⟩) (fun z=>⟨z.2.1,z.2.2.1⟩)
 have M4:aP (upd H2 mo (.lst ((xs.map fun x=>V.ref x.m.d).set j (.ref m2.d)))) m2 ps ts L pk R ws Xn cs:=M.kept fun d o hd e=>by
  rw[af (nmo d hd).2];exact e
 have ap2:∀d∈a2.own,¬d∈m2.own:=fun d hd z=>by
  obtain⟨o,e⟩:=F.al d hd;rcases m2H d z with q|q
  ·rw[q.2.1] at e;cases e
  ·obtain⟨vs,ev⟩:=q.2.2.2;rw[fa d hd] at ev;cases ev
 have inH:∀d,(⟨a2,m2⟩:Wd).In d→H d=none∨∃vs,H d=some (.tup vs)∧d≠bo∧d≠mo∧x.In d:=fun d hd=>by
  rcases hd with hd|hd
  ·exact .inl (fa d hd)
  ·rcases m2H d hd with q|⟨q1,q2,q3,vs,q4⟩
   ·exact .inl q.1
   ·exact .inr ⟨vs,q4,q2,q3,.inr q1⟩
 have auQ:j<xs.length:=by rw[c.l3];exact hj
 refine⟨⟨fun d o e=>kH d o (ag e c.n0.1) (ag e c.n0.2) (c.sm d o e),?_,?_,c.bm,by rw[List.length_set];exact c.l3,fun l y hy=> ?_,fun j1 j2 y1 y2 h1 h2 jA d g1 g2=> ?_,fun y hy d h=> ?_,c.n0⟩,kH,fun b a hb=> ?_⟩
 ·rw[af c.bm,map_set];exact s2 _ _ ae
 ·rw[ae,map_set]
 ·rcases wS hy with⟨rfl,rfl⟩|⟨hl,hy⟩
  ·exact⟨ps,ts,L,pk,R,N,Xr,ws,Xn,cs,⟨F4,M4,Z.G,Z.ok,ap2⟩,hR,hN⟩
  ·exact(c.p l y hy).kept (fun d o h e=>kH d o (c.nb y (List.mem_of_getElem? hy) d h).1 (c.nb y (List.mem_of_getElem? hy) d h).2.1 e) (Nat.le_refl _)
 ·have one:∀y,y∈xs→(⟨a2,m2⟩:Wd).In d→y.In d→∃vs,upd H2 mo (.lst ((xs.map fun x=>V.ref x.m.d).set j (.ref m2.d))) d=some (.tup vs):=fun y hy h1 h2=>by
   rcases inH d h1 with z|⟨vs,z,z1,z2,_⟩
   ·obtain⟨o,e⟩:=c.al hy h2;rw[z] at e;cases e
   ·exact⟨vs,kH d _ z1 z2 z⟩
  rcases wS h1 with⟨rfl,rfl⟩|⟨hj1,S8⟩
  ·rcases wS h2 with⟨rfl,rfl⟩|⟨R9,NI⟩
   ·exact absurd rfl jA
   ·exact one y2 (List.mem_of_getElem? NI) g1 g2
  ·rcases wS h2 with⟨rfl,rfl⟩|⟨R9,NI⟩
   ·exact one y1 (List.mem_of_getElem? S8) g2 g1
   ·obtain⟨vs,e⟩:=c.ap j1 j2 y1 y2 S8 NI jA d g1 g2;have hn:=c.nb y1 (List.mem_of_getElem? S8) d g1;exact⟨vs,kH d _ hn.1 hn.2.1 e⟩
 ·rcases WP hy with rfl|hy
  ·rcases inH d h with z|⟨vs,z,z1,z2,z3⟩
   ·exact⟨(ag c.hb z).symm,(ag c.hm z).symm,c.sm.free z⟩
   ·exact c.nb x GP d z3
  ·exact c.nb y hy d h
 ·obtain⟨h1,h2,h3,h4⟩:=a;refine⟨h1,h2,fun y hy z=> ?_,h4⟩;rcases WP hy with rfl|hy
  ·rcases inH b z with q|⟨vs,q,q1,q2,q3⟩
   ·obtain⟨o,e⟩:=hb;rw[q] at e;cases e
   ·exact h3 x GP q3
  ·exact h3 y hy z
end
theorem jam{L:Nat}(h1:1≤L)(h2:L≤1000):Good [none] [none] L 0 []:=⟨⟨rfl,(by decide),(by decide),rfl,(fun i h0 hi=>absurd hi (by simp;lia)),(fun i j e=>by
 cases i with
 |zero=>cases e
 |succ i=>simp at e)⟩,rfl,(fun r hr=>nomatch hr),h1,h2,Nat.zero_le _,Nat.zero_le _⟩
theorem cs0:Br [] [] []:=⟨rfl,(fun i vs e=>by simp at e),(fun i vs e=>by simp at e)⟩
theorem Core.get{C:Addr}{H0 H:Hp}{bo mo:Addr}{xs:List Wd}{nf:Nat→Nat}(c:Core C H0 H bo mo xs nf){i:Nat}(h:i<3):∃x,xs[i]? =some x:=by
 have hl:i<xs.length:=by rw[c.l3];exact h
 exact⟨xs[i],by simp[hl]⟩
def aaz(C a:Addr):TS:=fun D σ H=>∃(x1 x4 x6 x7 x8 x9 IG:Option V) (b bo mo:Addr) (xs:List Wd) (k n:Nat) (H0:Hp),σ=[some (.ref a),x1,some (.ref bo),some (.ref mo),x4,some (.ref b),x6,x7,x8,x9,IG]∧c_ H b k∧k≤1000∧NM H0 bo mo xs b∧Core C H0 H bo mo xs (fun _=>n)∧n≤120∧
 ∀H',Core C H0 H' bo mo xs (fun _=>n)→∀YU,D.nx [some (.ref a),x1,some (.ref bo),some (.ref mo),x4,some (.ref b),x6,x7,x8,x9,YU] H'
section
variable{P:Program}{w:World}{K:Frag}{mg:Str→aH}{base:Heap}{A:pH}
def GG(K:Frag):Sp:=fun vs H Q _=>∃(a:Addr) (ns:List Int),vs=[.ref a]∧bA K H a (ns.map V.int)∧ns.length≤63∧∀H',Q (.bl true) H'
theorem Wy(T:Txt K mg A):aV P w K mg base eI 11 A.KC A.BZ ["_law_script"] (GG K):=by
 have vz:=(Ba (P:=P) (w:=w) (base:=base) T).mono (by decide:_≤10);have xk:=(Dd (P:=P) (w:=w) (base:=base) T).mono (by decide:_≤10);have bK:=(kn (P:=P) (w:=w) (base:=base) T).mono (by decide:_≤10);have oQ:=(yG (P:=P) (w:=w) (base:=base) T).mono (by decide:_≤10);have Cg:=(Bh (P:=P) (w:=w) (base:=base) T).mono (by decide:_≤10);have Bd:=(yo (P:=P) (w:=w) (base:=base) T).mono (by decide:_≤10);have Dc:=(A4 (P:=P) (w:=w) (base:=base) T).mono (by decide:_≤10);have gF:=(mQ (P:=P) (w:=w) (base:=base) T).mono (by decide:_≤10);have iB:=(pA (P:=P) (w:=w) (base:=base) T).mono (by decide:_≤10);have BE:=(zq (P:=P) (w:=w) (base:=base) T).mono (by decide:_≤10);have AZ:=zy (P:=P) (w:=w) (base:=base) T;have dR:=(lD (P:=P) (w:=w) (base:=base) T).mono (by decide:_≤9);refine T.acs.ok jO (fun vs H Q E h=> ?_) (fun cF Ar outer s H vs Q E hr h=> ?_)
 ·obtain⟨a,ns,rfl,_⟩:=h;rfl
 ·obtain⟨a,ns,rfl,hS,hlen,q⟩:=h;have hu:=dS hr;have BS:=hr.gd;have Xe:=hr.D7;have sN:_+100<cLine:=Nat.lt_of_le_of_lt (Nat.add_le_add_left (by decide:100≤16*10+200) _) (by have:=hr.un;omega);refine⟨_,(ak (a_ (i:=1) jO.nd rfl (Or.inl rfl) (bB bj (bN (aa ax (aa ax ah))) (bF tW (ay bK hr rfl T.bY T.bS.kp T.bW .nil aw (aa (ay xk hr rfl T.xZ T.rK.kp T.wR .nil aw (aa (ay vz hr rfl T.ve T.p9.kp T.vd .nil aw (aa (pv 0) (aa ax ah))) ah)) (aa ax ah))) ax) (fun _ _=>rfl))) (ak (a_ (i:=2) jO.nd rfl (Or.inr rfl) (bN (aa (wq T.wm dR hr rfl T.uh T.fV .nil aw (aa (pv 1) ah)) (aa (wq T.wm dR hr rfl T.uh T.fV .nil aw (aa (pv 1) ah)) (aa (wq T.wm dR hr rfl T.uh T.fV .nil aw (aa (pv 1) ah)) ah))))) (ak (a_ (i:=3) jO.nd rfl (Or.inr rfl) (bN (aa (ay oQ hr rfl T.oN T.ko.kp T.nN .nil aw (aa (pv 1) ah)) (aa (ay oQ hr rfl T.oN T.ko.kp T.nN .nil aw (aa (pv 1) ah)) (aa (ay oQ hr rfl T.oN T.ko.kp T.nN .nil aw (aa (pv 1) ah)) ah))))) (ak (gO PassesOwn.never rfl (iW rfl T.kg (aa (aE (qC rfl) (by rfl) T.zO Boot.«max» (aa ax (aa (aE (HQ rfl) (by rfl) T.IV Boot.«min» (aa ax (aa (aE aU (by rfl) T.ee Boot.«len» (aa (pv 0) ah)) ah))) ah))) ah)) (bc (i:=4) jO.nd rfl (Or.inl rfl) (Or.inl rfl)) (ak (a_ (i:=5) jO.nd rfl (Or.inl rfl) (ay xk hr rfl T.xZ T.rK.kp T.wR .nil aw (aa (ay vz hr rfl T.ve T.p9.kp T.vd .nil aw (aa (pv 0) (aa (pv 4) ah))) ah))) (ak (a_ (i:=6) jO.nd rfl (Or.inl rfl) (ay bK hr rfl T.bY T.bS.kp T.bW .nil aw (aa (pv 5) (aa ax ah)))) (ak (a_ (i:=7) jO.nd rfl (Or.inl rfl) (bF rH (bF iS (bF iS (pv 6) ax) (ay bK hr rfl T.bY T.bS.kp T.bW .nil aw (aa (pv 5) (aa ax ah)))) ax)) (ak (a_ (i:=8) jO.nd rfl (Or.inl rfl) (lN xJ (ay bK hr rfl T.bY T.bS.kp T.bW .nil aw (aa (pv 5) (aa ax ah))) ax (bu _))) (ak (gO PassesOwn.never rfl (iW rfl T.kg (aa (bF iS ax (ay bK hr rfl T.bY T.bS.kp T.bW .nil aw (aa (pv 5) (aa ax ah)))) ah)) (bc (i:=9) jO.nd rfl (Or.inl rfl) (Or.inl rfl)) (aq (aZ (ay Cg hr rfl T.Dr T.vg.kp T.CD .nil aw (aa (pv 5) (aa (bB bj (pv 2) (pv 6) (fun _ _=>rfl)) (aa (bB bj (pv 3) (pv 6) (fun _ _=>rfl)) ah))))))) (ak (cg (eY (pv 8)) (ak (ph (b_ (bB bj (pv 2) (pv 6) (fun _ _=>rfl)) T.ar T.BI Bd hr T.AD .nil aw) (nB (pv 2) (pv 7) ww)) (ak (ph (ay Dc hr rfl T.DB T.vq.kp T.Dh .nil aw (aa (bB bj (pv 3) (pv 6) (fun _ _=>rfl)) ah)) (nB (pv 3) (pv 7) ww)) (aq (cg (fH (eY (aE (tD (K:=K) rfl) (by rfl) T.cO Boot.«isinstance» (aa (bB bj (pv 2) (pv 7) (fun _ _=>rfl)) (aa (n9 (v:= .ref A.aj) rfl T.uh rfl) ah))))) (aq (aG j9)) bp)))) bp) (qA (aaz A.aj a) (ak (a_ (i:=10) jO.nd rfl (Or.inl rfl) (ay bK hr rfl T.bY T.bS.kp T.bW .nil aw (aa (pv 5) (aa ax ah)))) (aq (cg (ba vp (aE (cH BS sN) (by rfl) T.fZ Boot.«repr» (aa (b_ (bB bj (pv 2) (pv 10) (fun _ _=>rfl)) T.ar T.jM gF hr T.jL .nil aw) ah)) (aE (cH BS sN) (by rfl) T.fZ Boot.«repr» (aa (ay iB hr rfl T.kR T.iE.kp T.kQ .nil aw (aa (bB bj (pv 3) (pv 10) (fun _ _=>rfl)) ah)) ah)) (bu _)) (aq (aG j9)) bp))) ?VA)))))))) (ak (cg (ba (Ea sN) (dA (N:=["_law_one_here"]) (k:=1) (js:=[]) rfl (bP (by kernel_rfl)) (cx (pv 2)) (fun _ _ _ _ _=>⟨(bc (i:=0) (show(["_law_one_here"]:aX).Nodup by decide+kernel) rfl (Or.inl rfl) (Or.inr rfl)),(Bw (fH (eY (aE (tD (K:=K) rfl) (by rfl) T.cO Boot.«isinstance» (aa (pv 0) (aa (n9 (v:= .ref A.eN) rfl T.DM rfl) ah)))))),(pv 0)⟩)) (bN ah) (bu _)) (aq (aG j9)) bp) (ak (gO PassesOwn.never rfl (iW rfl T.kg (aa ax ah)) (bc (i:=4) jO.nd rfl (Or.inl rfl) (Or.inl rfl)) (aq (cg (fH (eY (ay BE hr rfl T.BB T.sX.kp T.BA .nil aw (aa (bB bj (pv 2) (pv 4) (fun _ _=>rfl)) (aa (bB bj (pv 3) (pv 4) (fun _ _=>rfl)) (aa (pv 3) ah)))))) (aq (aG j9)) bp))) (aq (aG (lN (xF Xe) (dA (N:=["_law_k","_law_houses","_law_models"]) (k:=1) (js:=[2,3]) rfl (bP (by kernel_rfl)) (iW rfl T.kg (aa ax ah)) (fun _ _ _ _ _=>⟨(bc (i:=0) (show(["_law_k","_law_houses","_law_models"]:aX).Nodup by decide+kernel) rfl (Or.inl rfl) (Or.inr rfl)),(Bw (fH (eY (ay AZ hr rfl T.BL T.sO.kp T.BM .nil aw (aa (bB (qu (K:=K) rfl) (pv 1) (pv 0) (fun _ _=>rfl)) (aa (bB (qu (K:=K) rfl) (pv 2) (pv 0) (fun _ _=>rfl)) ah)))))),(pv 0)⟩)) (bN ah) (bu _)))))))))),?_⟩
  case VA=>
   rintro D σ H1 ⟨x1,x4,x6,x7,x8,x9,IG,b,bo,mo,xs,k,n,H0,rfl,B,hk,ap,core,hn,q⟩
   refine⟨_,rfl,b,3,k,rfl,B,by lia,by decide,by decide,fun r H2 r0 r1 B2 O2=> ?_⟩;have c2:=core.box ap O2.kept;obtain⟨i,rfl⟩:∃i:Nat,r=i:=⟨r.toNat,by lia⟩;have xG:i<xs.length:=by rw[core.l3];lia
   have hx:xs[i]? =some xs[i]:=by simp[xG]
   obtain⟨ps,ts,L,pk,R,N,rs,ws,ms,cs,Z,hR,hN⟩:=c2.p i _ hx;obtain⟨dx,ho⟩:=Z.h.ob;have Fn:=Z.G.ts;have hl:=Z.G.W.len;obtain⟨dss,hdd,OY⟩:=Z.dss (by lia);obtain⟨w1,w2,w3⟩:=xt (dss:=dss) (R:=R) Z.G.W Z.G.hi (by lia) OY;refine⟨_,rfl,_,rfl,bo,_,_,_,rfl,rfl,bA.of c2.hb,dD (by rw[List.getElem?_map,hx];rfl),?_⟩;refine⟨_,dx,_,rfl,ho,aC (by decide+kernel),xs[i].a,ps,ts,L,pk,R,N,rs,cs,rfl,Z.h,Z.r1,Z.ok.cl,hl,Fn,by lia,fun v1 H3 s3 p1=>⟨v1,_,rfl,p1.dat (fun m vs e=>DatAll.same s3 (hdd m vs e)),w1,w2,w3,?_⟩⟩;refine⟨_,rfl,_,rfl,mo,_,_,_,rfl,rfl,bA.of (c2.same s3).hm,dD (by rw[List.getElem?_map,hx];rfl),xs[i].m,ps,ts,L,pk,R,ws,ms,cs,rfl,(Z.same s3).mo,hl,Fn,by lia,fun v2 H4 s4 p2=>⟨v2,_,rfl,p2.dat (fun m vs e=>DatAll.same (s3.trans s4) (hdd m vs e)),w1,w2,w3,rfl,_,rfl,?_⟩⟩;rw[zX];exact g8 (q H4 (c2.same (s3.trans s4)) _)
  have made:∀{H0 H1:Hp} {x dx:Addr} {a:HA},H0 x=none→H0 dx=none→a.f=x→(∀c∈a.own,c=x∨upd (upd H0 dx (.own x)) x (.ins A.aj dx []) c=none)→(∀b o,upd (upd H0 dx (.own x)) x (.ins A.aj dx []) b=some o→b≠x→H1 b=some o)→au H0 H1∧∀c∈a.own,H0 c=none:=fun{H0 H1 x dx a} hx Cq ef go kp=>by
   have s0:au H0 (upd (upd H0 dx (.own x)) x (.ins A.aj dx [])):=fun c o e=>by
    rw[af (ag e hx),af (ag e Cq)];exact e
   refine⟨fun c o e=>kp c o (s0 c o e) (ag e hx),fun c hc=> ?_⟩;rcases go c hc with h|h
   ·rw[h];exact hx
   ·exact s0.free h
  have DI:(2:Nat)≤sizeLine:=by decide
  have ZK:(3:Nat)≤sizeLine:=by decide
  refine⟨DI,fun lp hlp=> ?_⟩;have sl:=au.upd (o:= .lst [V.int 1000,V.int 30]) hlp;have el:upd H lp (.lst [V.int 1000,V.int 30]) lp=some (.lst [V.int 1000,V.int 30]):=ae;generalize upd H lp (.lst [V.int 1000,V.int 30])=Ha at sl el;refine⟨_,rfl,a,ns,0,rfl,sl.seq hS,by lia,by lia,fun c=>⟨c,rfl,fun b Hb hb Bb sb=>⟨b,5,0,rfl,Bb,by lia,by decide,by decide,fun r Hc r0 r1 Bc Oc=> ?_⟩⟩⟩;have sHc:au H Hc:=fun d o e=>Oc.kept d o (ag (sl _ _ e) hb) (sb _ _ (sl _ _ e));have elc:Hc lp=some (.lst [V.int 1000,V.int 30]):=Oc.kept _ _ (ag el hb) (sb _ _ el);refine⟨r,4,rfl,rfl,⟨by decide,by decide⟩,?_⟩;refine AR (fun v=>∃L:Nat,v= .int L∧1≤L∧L≤1000) elc (by lia) (by show r / 4<2;lia) ?_ fun v hv=> ?_
  ·intro x hx;simp only[List.mem_cons,List.not_mem_nil,or_false] at hx;rcases hx with rfl|rfl
   ·exact⟨1000,rfl,by decide,by decide⟩
   ·exact⟨30,rfl,by decide,by decide⟩
  obtain⟨L,rfl,hL1,ZP⟩:=hv;refine⟨_,rfl,?_⟩;intro x0 dx0 hx0 ajF ne0;refine⟨x0,dx0,L,rfl,ae,hL1,ZP,fun a0 H1 ef0 go0 h0 kp0=>⟨rfl,_,rfl,?_⟩⟩;obtain⟨s1,fa0⟩:=made hx0 ajF ef0 go0 kp0;subst ef0;intro x1 pG hx1 ao0 ne1;refine⟨x1,pG,L,rfl,ae,hL1,ZP,fun a1 H2 ef1 go1 h1 kp1=>⟨rfl,_,rfl,?_⟩⟩;obtain⟨s2,fa1⟩:=made hx1 ao0 ef1 go1 kp1;subst ef1;intro x2 Yz hx2 ao1 ne2;refine⟨x2,Yz,L,rfl,ae,hL1,ZP,fun a2 H3 ef2 go2 h2 kp2=>⟨rfl,ZK,fun bo hbo=> ?_⟩⟩;obtain⟨s3,fa2⟩:=made hx2 ao1 ef2 go2 kp2;subst ef2;have s4:=au.upd (o:= .lst [V.ref a0.f,V.ref a1.f,V.ref a2.f]) hbo;have hb4:upd H3 bo (.lst [V.ref a0.f,V.ref a1.f,V.ref a2.f]) bo=some (.lst [V.ref a0.f,V.ref a1.f,V.ref a2.f]):=ae;generalize upd H3 bo (.lst [V.ref a0.f,V.ref a1.f,V.ref a2.f])=H4 at s4 hb4;refine⟨_,rfl,L,rfl,fun m0 H5 gm0 M0 s5=>⟨_,rfl,L,rfl,fun m1 H6 gm1 M1 s6=>⟨_,rfl,L,rfl,fun m2 H7 gm2 M2 s7=>⟨ZK,fun mo hmo=> ?_⟩⟩⟩⟩;have s8:=au.upd (o:= .lst [V.ref m0.d,V.ref m1.d,V.ref m2.d]) hmo;have hm8:upd H7 mo (.lst [V.ref m0.d,V.ref m1.d,V.ref m2.d]) mo=some (.lst [V.ref m0.d,V.ref m1.d,V.ref m2.d]):=ae;generalize upd H7 mo (.lst [V.ref m0.d,V.ref m1.d,V.ref m2.d])=H8 at s8 hm8
  have core:∃xs,Core A.aj H H8 bo mo xs (fun _=>0):=by
   let G:Nat→Hp:=fun k=>[Hc,H1,H2,H3,H4,H5,H6,H7].getD k H8
   have st:∀k,au (G k) (G (k+1)):=fun k=>by
    match k with
    |0=>exact s1
    |1=>exact s2
    |2=>exact s3
    |3=>exact s4
    |4=>exact s5
    |5=>exact s6
    |6=>exact s7
    |7=>exact s8
    |k+8=>exact au.refl H8
   have Vg:∀d k,au (G k) (G (k+d)):=fun d=>by
    induction d with
    |zero=>exact fun k=>au.refl _
    |succ d ih=>exact fun k=>(ih k).trans (st (k+d))
   have up:∀{k k' :Nat},k≤k'→au (G k) (G k'):=fun{k k'} h=>by
    have:=Vg (k' - k) k;rw[show k+(k' - k)=k' by lia] at this;exact this
   have uq:∀{k k' :Nat} {c:Addr},G k c=none→(∃o,G (k+1) c=some o)→G k' c=none→(∃o,G (k' +1) c=some o)→k=k' :=fun{k k' c} n1 e1 n2 e2=>by
    rcases Nat.lt_trichotomy k k' with h|h|h
    ·obtain⟨o,e⟩:=e1;rw[up (show k+1≤k' by lia) _ _ e] at n2;cases n2
    ·exact h
    ·obtain⟨o,e⟩:=e2;rw[up (show k' +1≤k by lia) _ _ e] at n1;cases n1
   have Up:∀(i:Nat) x,[(⟨a0,m0⟩:Wd),⟨a1,m1⟩,⟨a2,m2⟩][i]? =some x→(∀c∈x.a.own,G i c=none∧∃o,G (i+1) c=some o)∧(∀c∈x.m.own,G (4+i) c=none∧∃o,G (4+i+1) c=some o)∧aF A.aj H8 x.a [none] [none] L 0 [] 0 [] []∧aP H8 x.m [none] [none] L 0 [] [] [] []:=fun i x hx=>by
    match i,hx with
    |0,hx=>
     cases hx;exact⟨fun c hc=>⟨fa0 c hc,h0.al c hc⟩,fun c hc=>⟨gm0 c hc,M0.al c hc⟩,h0.same (up (k:=1) (k' :=8) (by decide)),M0.same (up (k:=5) (k' :=8) (by decide))⟩
    |1,hx=>
     cases hx;exact⟨fun c hc=>⟨fa1 c hc,h1.al c hc⟩,fun c hc=>⟨gm1 c hc,M1.al c hc⟩,h1.same (up (k:=2) (k' :=8) (by decide)),M1.same (up (k:=6) (k' :=8) (by decide))⟩
    |2,hx=>
     cases hx;exact⟨fun c hc=>⟨fa2 c hc,h2.al c hc⟩,fun c hc=>⟨gm2 c hc,M2.al c hc⟩,h2.same (up (k:=3) (k' :=8) (by decide)),M2.same (up (k:=7) (k' :=8) (by decide))⟩
    |i+3,hx=>simp at hx
   have lt3:∀{i:Nat} {x:Wd},[(⟨a0,m0⟩:Wd),⟨a1,m1⟩,⟨a2,m2⟩][i]? =some x→i<3:=fun h=>(List.getElem?_eq_some_iff.mp h).1
   have bIn:∀{i:Nat} {x:Wd},[(⟨a0,m0⟩:Wd),⟨a1,m1⟩,⟨a2,m2⟩][i]? =some x→∀{c:Addr},x.In c→∃k,(k=i∨k=4+i)∧G k c=none∧∃o,G (k+1) c=some o:=fun{i x} hx {c} h=>by
    rcases h with h|h
    ·exact⟨i,.inl rfl,(Up i x hx).1 c h⟩
    ·exact⟨4+i,.inr rfl,(Up i x hx).2.1 c h⟩
   have bb:G 3 bo=none∧∃o,G (3+1) bo=some o:=⟨hbo,_,hb4⟩;have RZ :G 7 mo=none∧∃o,G (7+1) mo=some o:=⟨hmo,_,hm8⟩;have sH:∀k,au H (G k):=fun k=>sHc.trans (up (k:=0) (Nat.zero_le k));refine⟨[⟨a0,m0⟩,⟨a1,m1⟩,⟨a2,m2⟩],sH 8,up (k:=4) (k' :=8) (by decide) _ _ hb4,hm8,fun z=> ?_,rfl,fun i x hx=> ?_,fun i j x y hx hy WK c U1 SS => ?_,fun x hx c h=> ?_,(sH 3).free hbo,(sH 7).free hmo⟩
   ·have:=uq bb.1 bb.2 (k' :=7) (by rw[z];exact RZ.1) (by rw[z];exact RZ.2)
    lia
   ·obtain⟨b1,b2,b3,b4⟩:=Up i x hx;refine⟨[none],[none],L,0,[],0,[],[],[],[],⟨b3,b4,jam hL1 ZP,cs0,fun c hc hc' => ?_⟩,Nat.le_refl _,Nat.le_refl _⟩;have:=uq (b1 c hc).1 (b1 c hc).2 (b2 c hc').1 (b2 c hc').2
    lia
   ·obtain⟨k,hk,n1,e1⟩:=bIn hx U1;obtain⟨k',hk',n2,e2⟩:=bIn hy SS;have:=uq n1 e1 n2 e2;have:=lt3 hx;have:=lt3 hy
    lia
   ·obtain⟨i,hi⟩:=List.mem_iff_getElem?.mp hx;obtain⟨k,hk,n1,e1⟩:=bIn hi h;have:=lt3 hi;refine⟨fun z=> ?_,fun z=> ?_,(sH k).free n1⟩
    ·have:=uq n1 e1 (k' :=3) (by rw[z];exact bb.1) (by rw[z];exact bb.2)
     lia
    ·have:=uq n1 e1 (k' :=7) (by rw[z];exact RZ.1) (by rw[z];exact RZ.2)
     lia
  obtain⟨xs0,core⟩:=core;refine⟨_,rfl,a,_,rfl,.inl (core.sm.seq hS),30,_,rfl,2,_,rfl,?_⟩;generalize hn:(if(if((List.map V.int ns).length:Int)<30 then((List.map V.int ns).length:Int) else 30)>2 then(if((List.map V.int ns).length:Int)<30 then((List.map V.int ns).length:Int) else 30) else 2)=n
  have nn:0≤n∧n≤30:=by
   rw[←hn]
   split<;>split<;>lia
  refine⟨n,rfl,by lia,by lia,?_⟩;refine qB (lo:=0) (n:=n.toNat) (fun i σ H' =>∃(x1 x4 x5 x6 x7 x8 x9 IG:Option V) (xs:List Wd),σ=[some (.ref a),x1,some (.ref bo),some (.ref mo),x4,x5,x6,x7,x8,x9,IG]∧Core A.aj H H' bo mo xs (fun _=>3*i)) ⟨_,_,_,_,_,_,_,_,xs0,rfl,core⟩ ?_ ?_
  ·rintro i σ H9 hi ⟨x1,x4,x5,x6,x7,x8,x9,IG,xs,rfl,core⟩
   have yk :i<30:=by lia
   refine⟨_,rfl,_,rfl,a,ns,_,rfl,core.sm.seq hS,by lia,by lia,fun c=>⟨c,rfl,fun b Fx hb B10 En=> ?_⟩⟩;have ap:=core.apart hb;refine⟨_,rfl,b,3,0,rfl,B10,by lia,by decide,by decide,fun at_ NQ t0 t1 B11 O11=> ?_⟩;obtain⟨ai,rfl⟩:∃ai:Nat,at_=ai:=⟨at_.toNat,by lia⟩;refine⟨_,rfl,_,1,rfl,rfl,_,rfl,b,2,1,rfl,B11,by lia,by decide,by decide,fun t2 Iz t20 t21 B12 O12=>⟨_,t2,rfl,rfl,_,3,rfl,rfl,(show(0:Int)<3 by decide),?_⟩⟩;obtain⟨oj,hoj⟩:∃oj:Nat,((ai:Int)+1+t2) % 3=oj:=⟨(((ai:Int)+1+t2) % 3).toNat,by lia⟩;dsimp only;rw[hoj];have Om:oj<3:=by lia
   refine⟨_,rfl,b,5,2,rfl,B12,by lia,by decide,by decide,fun r13 H13 _ _ B13 O13=>⟨rfl,?_⟩⟩;generalize decide (V.int r13=V.int 0)=tw;refine⟨_,rfl,b,3,3,rfl,B13,by lia,by decide,by decide,fun r H14 r0 r1 B14 O14=>⟨1,r,rfl,rfl,1+r,rfl,by lia,by lia,?_⟩⟩;have K14:Kept b H9 H14:=(En.kept.trans O11.kept).trans (O12.kept.trans (O13.kept.trans O14.kept));refine qB (lo:=0) (n:=(1+r).toNat) (fun j σ H' =>∃(x4 x9 IG:Option V) (xs:List Wd),σ=[some (.ref a),x1,some (.ref bo),some (.ref mo),x4,some (.ref b),some (.int ai),some (.int oj),some (.bl tw),x9,IG]∧c_ H' b (4+12*j)∧NM H bo mo xs b∧Core A.aj H H' bo mo xs (fun _=>3*i+j)) ⟨_,_,_,xs,rfl,B14,ap,core.box ap K14⟩ ?_ ?_
   ·rintro j σ X8 hj ⟨y4,y9,YU,xs,rfl,QJ,vP,yf⟩
    have hj3:j<3:=by lia
    have xG:ai<xs.length:=by rw[yf.l3];lia
    have hx:xs[ai]? =some xs[ai]:=by simp[xG]
    generalize xs[ai]=x at hx;obtain⟨ps,ts,L',pk,R,N,rs,ws,ms,cs,Z,hR,hN⟩:=yf.p ai _ hx;have GP:=List.mem_of_getElem? hx;refine⟨_,rfl,_,rfl,_,rfl,bo,_,_,_,rfl,rfl,bA.of yf.hb,dD (by rw[List.getElem?_map,hx];rfl),_,rfl,_,rfl,mo,_,_,_,rfl,rfl,bA.of yf.hm,dD (by rw[List.getElem?_map,hx];rfl),b,4+12*j,x.a,x.m,ps,ts,L',pk,R,N,rs,ws,ms,cs,rfl,QJ,by lia,Z,fun z=>vP.2.2.1 x GP (.inl z),fun z=>vP.2.2.1 x GP (.inr z),by lia,by lia,fun a' m' A8 zL u5 R' N' xM vH vR uP WW Z' ef ed ga gm kp kt B' hR' hN' => ?_⟩;have gI:∀d,(⟨a',m'⟩:Wd).In d→x.In d∨X8 d=none:=fun d h=>h.elim (fun h=>(ga d h).imp .inl id) (fun h=>(gm d h).imp .inr id);obtain⟨bz1,bz2,bz3,hbz,_⟩:=id QJ;have W6:=yf.step (x' :=⟨a',m'⟩) (nf' :=fun _=>3*i+(j+1)) (b:=b) hx ef ed gI vP.2.2.2 vP.1 vP.2.1 vP.2.2.1 (fun d o h1 h2 e=>kp d o h1 (fun z=>h2 (.inl z)) (fun z=>h2 (.inr z)) e) kt ⟨A8,zL,L',u5,R',N',xM,vH,vR,uP,Z',by lia,by lia⟩ (fun l _=>by lia);exact⟨_,_,_,_,rfl,B'.mono (by lia),vP.step hx gI ⟨_,hbz⟩,W6⟩
   ·rintro σ X8 ⟨y4,y9,YU,xs,rfl,QJ,vP,yf⟩
    have yf:=yf.mono (nf' :=fun _=>3*(i+1)) fun l=>by show 3*i+(1+r).toNat≤3*(i+1);lia
    have QJ:c_ X8 b 100:=QJ.mono (by lia);refine⟨_,rfl,_,rfl,?_⟩;refine yv (fun _=> ?_) (fun _=>⟨_,_,_,_,_,_,_,b,bo,mo,xs,100,3*(i+1),H,rfl,QJ,by lia,vP,yf,by lia,fun H' c' YU=>⟨_,_,_,_,_,_,_,_,xs,rfl,c'⟩⟩);have xG:ai<xs.length:=by rw[yf.l3];lia
    have hx:xs[ai]? =some xs[ai]:=by simp[xG]
    generalize xs[ai]=x at hx;obtain⟨ps,ts,L',pk,R,N,rs,ws,ms,cs,Z,hR,hN⟩:=yf.p ai _ hx;have GP:=List.mem_of_getElem? hx;obtain⟨dx,ho⟩:=Z.h.ob;have Fn:=Z.G.ts;have hl:=Z.G.W.len;obtain⟨bz1,bz2,bz3,hbz,_⟩:=id QJ;refine⟨_,rfl,_,rfl,bo,_,_,_,rfl,rfl,bA.of yf.hb,dD (by rw[List.getElem?_map,hx];rfl),_,dx,_,rfl,ho,aC (by decide+kernel),x.a,ps,ts,L',pk,R,N,rs,cs,rfl,Z.h,Z.G.lo,Z.G.hi,by lia,by lia,by lia,by lia,Z.r1,fun a2 Xr H17 fa F s17=> ?_⟩;refine⟨_,rfl,_,rfl,bo,_,_,oj,rfl,rfl,s17 _ _ yf.hb,qH (by rw[List.length_map,yf.l3];exact Om),?_⟩
    have M18:aP (upd H17 bo (.lst ((xs.map fun x=>V.ref x.a.f).set oj (.ref a2.f)))) x.m ps ts L' pk R ws ms cs:=(Z.mo.same s17).kept fun c o hc e=>by
     rw[af (yf.nb x GP c (.inr hc)).1];exact e
    have abl:upd H17 bo (.lst ((xs.map fun x=>V.ref x.a.f).set oj (.ref a2.f))) mo=some (.lst (xs.map fun x=>V.ref x.m.d)):=by
     rw[af yf.bm.symm];exact s17 _ _ yf.hm
    refine⟨_,rfl,_,rfl,mo,_,_,_,rfl,rfl,bA.of abl,dD (by rw[List.getElem?_map,hx];rfl),x.m,ps,ts,L',pk,R,ws,ms,cs,rfl,M18,Z.r1,by lia,fun m2 Xn H19 M2 fm s19=> ?_⟩;refine⟨_,rfl,_,rfl,mo,_,_,oj,rfl,rfl,s19 _ _ abl,qH (by rw[List.length_map,yf.l3];exact Om),?_⟩;obtain⟨WN,ZV,anw⟩:=yf.twin hx Om Z hR hN fa F s17 s19 M2 fm;have hx2:(xs.set oj ⟨a2,m2⟩)[oj]? =some ⟨a2,m2⟩:=List.getElem?_set_self (by rw[yf.l3];exact Om);obtain⟨_,_,_,_,_,_,_,_,_,_,Z2,_⟩:=WN.p oj _ hx2;obtain⟨Yz,VN⟩:=Z2.h.ob;refine⟨_,rfl,_,rfl,bo,_,_,_,rfl,rfl,bA.of WN.hb,dD (by rw[List.getElem?_map,hx2];rfl),_,_,_,_,rfl,T.FU.ty T.ar VN,T.yM,_,rfl,?_⟩;exact⟨_,_,_,_,_,_,_,b,bo,mo,_,100,3*(i+1),H,rfl,QJ.kept fun o e=>ZV b o vP.1 vP.2.1 e,by lia,anw b vP ⟨_,hbz⟩,WN,by lia,fun H' c' YU=>⟨_,_,_,_,_,_,_,_,_,rfl,c'⟩⟩
  ·rintro σ H9 ⟨x1,x4,x5,x6,x7,x8,x9,IG,xs,rfl,core⟩
   have core:=core.mono (nf' :=fun _=>90) fun l=>by show 3*n.toNat≤90;lia
   refine⟨_,rfl,bo,rfl,⟨_,bA.of core.hb⟩,?_⟩;have wg:(xs.map fun x=>V.ref x.a.f).length=3:=by rw[List.length_map,core.l3]
   refine eX (fun _=>false) (fun _=>V.bH) (dg (bA.of core.hb)).g ?_ ?_ fun pc Fx hpc En Qi=> ?_
   ·rw[wg];exact ZK
   ·intro l v H' C1 C0 hl sm hv c1 c0;rw[wg] at hl;obtain⟨x,hx⟩:=core.get hl;rw[List.getElem?_map,hx] at hv;cases hv;obtain⟨_,_,_,_,_,_,_,_,_,_,Z,_⟩:=(core.same sm).p l _ hx;obtain⟨dx,ho⟩:=Z.h.ob;exact⟨(gw.refl _).own (by decide),_,rfl,_,_,_,_,rfl,T.FU.ty T.ar ho,T.xH,_,rfl,c0 rfl H' (au.refl H')⟩
   rw[List.filter_eq_nil_iff.mpr (fun _ _=>Bool.false_ne_true)] at Qi;have Qi:Fx pc=some (.lst ([]:az)):=Qi;refine⟨(show 0≤sizeLine by decide),fun e0 GN=> ?_⟩;have NK:=au.upd (o:= .lst []) GN;refine⟨pc,e0,[],[],rfl,rfl,NK _ _ Qi,ae,_,rfl,g8 ?_⟩;generalize upd Fx e0 (.lst [])=NQ at NK;have c11:=(core.same En).same NK;refine⟨3,rfl,by decide,by decide,?_⟩;refine qB (lo:=0) (n:=3) (fun i σ H' =>∃(x1 x4 x5 x6 x7 x8 x9 IG:Option V),σ=[some (.ref a),x1,some (.ref bo),some (.ref mo),x4,x5,x6,x7,x8,x9,IG]∧Core A.aj H H' bo mo xs (fun _=>90)) ⟨_,_,_,_,_,_,_,_,rfl,c11⟩ ?_ ?_
   ·rintro i σ Iz hi ⟨x1,x4,x5,x6,x7,x8,x9,IG,rfl,He⟩
    obtain⟨x,hx⟩:=He.get hi;obtain⟨ps,ts,L',pk,R,N,rs,ws,ms,cs,Z,hR,hN⟩:=He.p i _ hx;have ei:(0:Int)+(i:Int)=i:=by lia
    have hds:∀H',au Iz H'→∀d∈xs.map (fun x=>x.m.d),∃qs,Kp H' d qs:=fun H' s' d hd=>by
     obtain⟨y,hy,rfl⟩:=List.mem_map.mp hd;obtain⟨l,hl⟩:=List.mem_iff_getElem?.mp hy;obtain⟨ps,ts,L',pk,R,N,rs,ws,ms,cs,Z,hR,hN⟩:=(He.same s').p l _ hl;refine⟨ws,y.m.wl,Z.mo.zh,Z.mo.wl,fun q hq=> ?_⟩;obtain⟨k,hk⟩:=List.mem_iff_getElem?.mp hq
     have hkl:k<R.length:=by
      have:=(List.getElem?_eq_some_iff.mp hk).1;rw[Z.mo.iu] at this;exact this
     have:=(Z.mo.way k hkl).2;rw[show ws.getD k 0=q by rw[List.getD_eq_getElem?_getD,hk];rfl] at this;exact⟨_,_,this⟩
    have alD:=He.hm;have emm:(xs.map fun x=>V.ref x.m.d)=(xs.map fun x=>x.m.d).map V.ref:=by rw[List.map_map];rfl
    refine⟨_,rfl,_,rfl,bo,_,_,_,rfl,rfl,bA.of He.hb,(by show Ir _ (0+(i:Int))=_;rw[ei];exact dD (by rw[List.getElem?_map,hx];rfl)),_,rfl,_,rfl,mo,_,_,_,rfl,rfl,bA.of He.hm,(by show Ir _ (0+(i:Int))=_;rw[ei];exact dD (by rw[List.getElem?_map,hx];rfl)),_,rfl,x.a,x.m,ps,ts,L',pk,R,N,rs,ws,ms,cs,mo,xs.map (fun x=>x.m.d),rfl,Z,by lia,(by rw[←emm];exact alD),hds,fun H13 NS=>⟨_,rfl,?_⟩⟩;exact⟨_,_,_,_,_,_,_,_,rfl,He.same NS⟩
   ·rintro σ Iz ⟨x1,x4,x5,x6,x7,x8,x9,IG,rfl,He⟩
    refine⟨3,rfl,by decide,by decide,?_⟩;refine GO (fun p i H' =>∃xs,H' p=some (.lst [])∧NM H bo mo xs p∧Core A.aj H H' bo mo xs (fun l=>if l<i then 300 else 90)) (fun p hp=>⟨xs,ae,He.apart hp,(He.same (au.upd hp)).mono fun l=>by simp⟩) (fun p i H' h=>by obtain⟨xs,h,_⟩:=h;exact h) ?_ ?_
    ·rintro p i H' C1 C0 hi ⟨xs,hp,ap,Qd⟩ c0
     obtain⟨x,hx⟩:=Qd.get hi;obtain⟨ps,ts,L',pk,R,N,rs,ws,ms,cs,Z,hR,hN⟩:=Qd.p i _ hx;simp only[Nat.lt_irrefl,if_false] at hR hN;have Fn:=Z.G.ts;have ei:(0:Int)+(i:Int)=i:=by lia
     refine⟨(gw.refl _).own (by decide),?_⟩;refine⟨_,rfl,_,rfl,bo,_,_,_,rfl,rfl,bA.of Qd.hb,(by show Ir _ (0+(i:Int))=_;rw[ei];exact dD (by rw[List.getElem?_map,hx];rfl)),_,rfl,_,rfl,mo,_,_,_,rfl,rfl,bA.of Qd.hm,(by show Ir _ (0+(i:Int))=_;rw[ei];exact dD (by rw[List.getElem?_map,hx];rfl)),x.a,x.m,ps,ts,L',pk,R,N,rs,ws,ms,cs,rfl,Z,by lia,by lia,fun a' m' A8 zL u5 R' N' xM vH vR uP WW Z' ef ed ga gm kp kt hR' hN' => ?_⟩;have gI:∀d,(⟨a',m'⟩:Wd).In d→x.In d∨H' d=none:=fun d h=>h.elim (fun h=>(ga d h).imp .inl id) (fun h=>(gm d h).imp .inr id);have axv :=Z'.G.ts
     have W6:=Qd.step (x' :=⟨a',m'⟩) (nf' :=fun l=>if l<i+1 then 300 else 90) (b:=p) hx ef ed gI ap.2.2.2 ap.1 ap.2.1 ap.2.2.1 (fun d o h1 h2 e=>kp d o (fun z=>h2 (.inl z)) (fun z=>h2 (.inr z)) e) kt ⟨A8,zL,L',u5,R',N',xM,vH,vR,uP,Z',by rw[if_pos (Nat.lt_succ_self i)];lia,by rw[if_pos (Nat.lt_succ_self i)];lia⟩ (fun l hl=>by
      split<;>split<;>lia)
     refine⟨_,rfl,c0 WW ⟨_,kp _ _ (fun z=>ap.2.2.1 x (List.mem_of_getElem? hx) (.inl z)) (fun z=>ap.2.2.1 x (List.mem_of_getElem? hx) (.inr z)) hp,ap.step hx gI ⟨_,hp⟩,W6⟩⟩
    ·rintro p H' ⟨xs,hp,ap,Qd⟩
     refine⟨(show 0≤sizeLine by decide),fun e0 GN=> ?_⟩;have s14:=au.upd (o:= .lst []) GN;exact⟨p,e0,[],[],rfl,rfl,s14 _ _ hp,ae,.inr ⟨rfl,rfl,rfl,q _⟩⟩
end
theorem walk{l:PySem.W.OpenLaw}{q:Program}{loose:aX}{XP:(Str→aH)→Heap→Prop}{YP:World→Heap→Prop}{d:DefRec}{K:Params→Frag}(hn:l.most=some 63)(OY:d.params.defaults=[])
 (hY:∀(w:World) (h:Heap),YP w h→(K w.params).In h)
 (F:∀(w:World) (mg:Str→aH) (fa:Addr) (h:Heap),(K w.params).In h→h.Ns mainGlobals mg→mg d.name=some (.ref fa)→
  ∃fd:FuncData,(∀(s:Shared) (u:Value),BindsTo s fd ⟨[u],[]⟩ [("_law_script",u)])∧∀base:Heap,(K w.params).In base→base.Ns mainGlobals mg→aV l.prog w (K w.params) mg base eI 11 fa fd ["_law_script"] (GG (K w.params))):
 PySem.W.WalkO q loose XP YP l.row.toRowW d [] (fun f vs=>PySem.call f vs):=
 L2.N9 (n:=63) (k:=11) (x:="_law_script") (CX:=fun _=>eI) (sp:=fun w=>GG (K w.params)) hn (by decide) OY ⟨rfl,by decide,by decide,rfl⟩ hY F (fun _ _ a ns hl _ hS=>⟨a,ns,rfl,hS,hl,fun _=>rfl⟩) fun _ _ _ _ _ z=>z
theorem VR{l:PySem.W.OpenLaw}{w:World}{K:Frag}{h:Heap}{mg:Str→aH}{fa:Addr}(X:K.In h)(G:h.Ns mainGlobals mg)(Vt:mg "law"=some (.ref fa))(hT:∃A:pH,Txt K mg A):
 ∃fd:FuncData,(∀(s:Shared) (u:Value),BindsTo s fd ⟨[u],[]⟩ [("_law_script",u)])∧∀base:Heap,K.In base→base.Ns mainGlobals mg→aV l.prog w K mg base eI 11 fa fd ["_law_script"] (GG K):=by
 obtain⟨A,T⟩:=hT;have e:=Vt.symm.trans T.aah;cases e;exact⟨A.BZ,T.ZQ,fun base _ _=>Wy T⟩
abbrev fS(n q:Str)(s:Stmt)(kV dc pm:Value)(an:Option Addr)(cd ct:Value):FuncData:=fnOf n q (pj s) (j_ s) (av s) .none kV dc pm an cd ct
abbrev LK(K:Frag)(f:Addr)(n q:Str)(s:Stmt)(kV dc pm:Value)(an:Option Addr)(cd ct oc:Value)(od:Option Addr)(sl:Array (aH)):Prop:=K.lookup f=some ⟨oc,od,.func (fS n q s kV dc pm an cd ct),sl⟩
theorem fm{K:Frag}{f:Addr}{n q:Str}{s:Stmt}{kV dc pm:Value}{an:Option Addr}{cd ct oc:Value}{od:Option Addr}{sl:Array (aH)}(l:LK K f n q s kV dc pm an cd ct oc od sl)(c:PySem.W.codeIn K cd q=true)(k:PySem.W.keepIn K (.ref f)=true):e8 K n q s f (fS n q s kV dc pm an cd ct):=VI (st:=s) l c k
theorem Al{P:aA→Prop}(h:∀a,P [a]):∀us:aA,us.length=1→P us:=fun us hl=>match us,hl with|[_],_=>h _
theorem pI{P:aA→Prop}(h:∀a b,P [a,b]):∀us:aA,us.length=2→P us:=fun us hl=>match us,hl with|[_,_],_=>h _ _
theorem N4{P:aA→Prop}(h:∀a b c,P [a,b,c]):∀us:aA,us.length=3→P us:=fun us hl=>match us,hl with|[_,_,_],_=>h _ _ _
theorem bn4{P:aA→Prop}(h:∀a b c d,P [a,b,c,d]):∀us:aA,us.length=4→P us:=fun us hl=>match us,hl with|[_,_,_,_],_=>h _ _ _ _
open PySem.W (nsIn findIn isFn codeIn keepIn typeIn specialIn readsIn findCls mroIn hasDictIn plainGet plainOver makesIn takesIn mg_of mg_none_of) in
theorem UZ{K:Frag}{h:Heap}{mg:Str→aH}(X:K.In h)(G:h.Ns mainGlobals mg)
 {Aw:Addr}
 {BX:Addr}
 {AV:Addr}
 {BR:Addr}
 {BW:Addr}
 {yD:Addr}
 {jH:Addr}
 {f0 f1 f2 f3 f4 f5 f6 f7 f8 f9 f10 f11 Wq f13 f14 QR YH f17 f18 Y6 f20 f21 Ul f23 f24 Ww f26 f27 ZM Y4 f30 Zc Vy YG f34 VQ XZ XH Ye ZA f40 f41 W_ f43 f44 WZ f46 f47 f48 f49 f50 f51 f52 f53 f54 f55 f56 f57 f58 f59 f60 f61 f62 f63 f64 f65:Addr} {od0 an0 od1 an1 od2 an2 od3 an3 od4 an4 od5 an5 od6 an6 od7 an7 od8 an8 od9 an9 ape agx aeB aoL aeo afx aif apW apo aij alu ajv ahD afz afO ahu aoM akR anU akZ afp apf apB agz amb ahn alv amj ahL aiO ae0 al6 aiS alW akt afY aom am5 agA anj aog apb ao8 aiC ajG afs apA apT apz amD ah5 ak2 aeQ aj3 ae4 aeU aor afm afy ai4 agv afw ajR aoV ajI aoH aeR agU ajy ago ajD agy aku ae3 ahF apY ajx aiz ak8 ahT aeg apv agK apE anA afb amv ajr aeS anv al8 ahB ahW af2 ahj akB ap6 alV amm ap7 anW agl alU agS alx apj ahs alA aiK afj ajt aoX:Option Addr} {sl0 sl1 Xa Xl sl4 sl5 sl6 sl7 sl8 sl9 akI ai3 aiZ ah7 amR al2 ano aiP aeF aoy aeY ak0 aki apZ ajH alr afI aoI aiX ajC af6 aoY aoQ akb aim ais afu anY alX agW ah0 akw anR agn aix agQ aex anS ajZ amy ahf agf ak6 aeX alF agY alk ae5 apG ahv amg alY aev aiq ami agk:Array (aH)} {oc0 kV0 dc0 pm0 cd0 ct0 oc1 kV1 dc1 pm1 cd1 ct1 oc2 kV2 dc2 pm2 cd2 ct2 oc3 kV3 dc3 pm3 cd3 ct3 oc4 kV4 dc4 pm4 cd4 ct4 oc5 kV5 dc5 pm5 cd5 ct5 oc6 kV6 dc6 pm6 cd6 ct6 oc7 kV7 dc7 pm7 cd7 ct7 oc8 kV8 dc8 pm8 cd8 ct8 oc9 kV9 dc9 pm9 cd9 ct9 ahO ajV alf ajQ aa9 ai9 agZ akP af1 ama ZS anb am9 ang agC anu ab_ alN am6 akQ afS anF acg ao5 ah4 aeJ aer afh XF anK aiU agu ans ajl aau aeT ak_ aoi alz af8 abw ahC ahX aja amh alB abO aoq ahU amw ae7 afc XY alb afr alT aon an_ acK amq anL ahz ao_ agr YZ ap9 agT aoR alq alL Yc ajb aik akU ajK ael acG amA aml afW aem ajd aaV amd ak3 aly agt aid aaB ajP als agJ ahm ag6 abf ao4 amQ amt agR apq Yq am3 anx afd ahP ah1 Zv afD aoN ajj ajm amP aa_ ajw akC ag0 akY ajS Yy aos akX ajs agH ah8 ace aei agF ajg amK afi XI anm aiV anZ ajp ajN Ys alI amL amz aeN ake YB aoZ ak7 amk ak1 af_ aci ams aoJ agL amx alw aaJ akD ai6 al5 afv ajL YC amJ alp ap3 aoA aoD aaj akW alQ aeW ah9 ahg XN afo akm akj afP afT aai aoo afH aoa aed aln Y5 aes alM agp ajX aew aaP afU afF al9 agj aoS Zl ajz anP ajk ail ahA ZL apy ag2 aop aiu ahG abp alj apr ak5 aeG aj2 Yb akp ali ahe agO ag3 Zk ap8 aiA ag8 aha am_ acw apK ap5 ajA amn ajB aaS agP al1 ajn amB amT XW agX aiI afg anN amO aan afQ anr af4 aoT apI Yp ahi apP akk anh ajo aaw anG aph akh aiQ aov YI aky anB aeu amM aoK YK ap0 al7 aez agm ai0 Yo aoh aox aeK am2 ajh aa7 apS apU ag_ afe aeI acC agd alm alo alR aft ZO akc aho aiT ai_ alH YR af7 aip am4 aoP akl ZU ah6 ajU ahl anC aht aas akf aj_ ahx aeC agN Yi afX aka ag7 akg anT abA aeV al3 aeA agi am7 aa0 ank ajY akH ald apt aca akq:Value}
 {Pz q_0:Str} {N_0:Addr} {OD C8:aA} {Pw:aX} {sub_0:aA} {PQ:Bool} {Fj:Option Bool} {O_:Option Addr} {P2 P8 OS O0 OU:aH}
 {L7 q_1:Str} {XU:Addr} {KO ze:aA} {MV:aX} {B8:aA} {Jy:Bool} {CM:Option Bool} {NA:Option Addr} {Jg Ls Ja Mt Ni:aH}
 {Mr Yl:Str} {N_2:Addr} {JB yI:aA} {Kt:aX} {DD:aA} {Nf:Bool} {CQ:Option Bool} {MJ:Option Addr} {JG KW LU IS JI:aH}
 {Jd q_3:Str} {Yu:Addr} {MW yy:aA} {Nn:aX} {CY:aA} {L0:Bool} {Ca:Option Bool} {LD:Option Addr} {Np Mj Mg KS LB:aH}
 {JZ Y9:Str} {N_4:Addr} {Jf zu:aA} {MG:aX} {CV:aA} {Ms:Bool} {DK:Option Bool} {Jt:Option Addr} {LX MS Jc Kb MY:aH}
 {tL:Tok}
 {nz:Tok}
 {fF:Tok}
 {mE:Tok}
 (c_0:nsIn K mainGlobals "RoomError"=some (some (.ref Aw)))
 (c_1:nsIn K mainGlobals "NoValue"=some (some (.ref BX)))
 (c_2:nsIn K mainGlobals "Gone"=some (some (.ref AV)))
 (c_3:nsIn K mainGlobals "NoWay"=some (some (.ref BR)))
 (c_4:nsIn K mainGlobals "NoCell"=some (some (.ref BW)))
 (c_5:nsIn K mainGlobals "Frames"=some (some (.ref yD)))
 (c_6:nsIn K mainGlobals "House"=some (some (.ref jH)))
 (a0:findIn K (.ref Aw) "__init__"=some (some (.ref f0)))
 (i0:isFn K (.ref f0)=true)
 (l0:LK K f0 "__init__" "RoomError.__init__" cC kV0 dc0 pm0 an0 cd0 ct0 oc0 od0 sl0) (c0:codeIn K cd0 "RoomError.__init__"=true) (k0:keepIn K (.ref f0)=true)
 (a1:findIn K (.ref BX) "__init__"=some (some (.ref f1)))
 (i1:isFn K (.ref f1)=true)
 (l1:LK K f1 "__init__" "NoValue.__init__" cZ kV1 dc1 pm1 an1 cd1 ct1 oc1 od1 sl1) (c1:codeIn K cd1 "NoValue.__init__"=true) (k1:keepIn K (.ref f1)=true)
 (a2:findIn K (.ref AV) "__init__"=some (some (.ref f2)))
 (i2:isFn K (.ref f2)=true)
 (l2:LK K f2 "__init__" "Gone.__init__" eK kV2 dc2 pm2 an2 cd2 ct2 oc2 od2 Xa) (c2:codeIn K cd2 "Gone.__init__"=true) (k2:keepIn K (.ref f2)=true)
 (a3:findIn K (.ref BR) "__init__"=some (some (.ref f3)))
 (i3:isFn K (.ref f3)=true)
 (l3:LK K f3 "__init__" "NoWay.__init__" dX kV3 dc3 pm3 an3 cd3 ct3 oc3 od3 Xl) (c3:codeIn K cd3 "NoWay.__init__"=true) (k3:keepIn K (.ref f3)=true)
 (a4:findIn K (.ref BW) "__init__"=some (some (.ref f4)))
 (i4:isFn K (.ref f4)=true)
 (l4:LK K f4 "__init__" "NoCell.__init__" dm kV4 dc4 pm4 an4 cd4 ct4 oc4 od4 sl4) (c4:codeIn K cd4 "NoCell.__init__"=true) (k4:keepIn K (.ref f4)=true)
 (a5:nsIn K mainGlobals "is_number"=some (some (.ref f5)))
 (l5:LK K f5 "is_number" "is_number" jb kV5 dc5 pm5 an5 cd5 ct5 oc5 od5 sl5) (c5:codeIn K cd5 "is_number"=true) (k5:keepIn K (.ref f5)=true)
 (a6:nsIn K mainGlobals "is_whole"=some (some (.ref f6)))
 (l6:LK K f6 "is_whole" "is_whole" lj kV6 dc6 pm6 an6 cd6 ct6 oc6 od6 sl6) (c6:codeIn K cd6 "is_whole"=true) (k6:keepIn K (.ref f6)=true)
 (a7:nsIn K mainGlobals "is_count"=some (some (.ref f7)))
 (l7:LK K f7 "is_count" "is_count" lu kV7 dc7 pm7 an7 cd7 ct7 oc7 od7 sl7) (c7:codeIn K cd7 "is_count"=true) (k7:keepIn K (.ref f7)=true)
 (a8:nsIn K mainGlobals "is_pair"=some (some (.ref f8)))
 (l8:LK K f8 "is_pair" "is_pair" mM kV8 dc8 pm8 an8 cd8 ct8 oc8 od8 sl8) (c8:codeIn K cd8 "is_pair"=true) (k8:keepIn K (.ref f8)=true)
 (a9:findIn K (.ref yD) "__init__"=some (some (.ref f9)))
 (i9:isFn K (.ref f9)=true)
 (l9:LK K f9 "__init__" "Frames.__init__" dC kV9 dc9 pm9 an9 cd9 ct9 oc9 od9 sl9) (c9:codeIn K cd9 "Frames.__init__"=true) (k9:keepIn K (.ref f9)=true)
 (a10:findIn K (.ref jH) "begin"=some (some (.ref f10)))
 (i10:isFn K (.ref f10)=true)
 (l10:LK K f10 "begin" "Frames.begin" fu ajV alf ajQ agx aa9 ai9 ahO ape akI) (c10:codeIn K aa9 "Frames.begin"=true) (k10:keepIn K (.ref f10)=true)
 (a11:findIn K (.ref jH) "finish"=some (some (.ref f11)))
 (i11:isFn K (.ref f11)=true)
 (l11:LK K f11 "finish" "Frames.finish" eJ akP af1 ama aoL ZS anb agZ aeB ai3) (c11:codeIn K ZS "Frames.finish"=true) (k11:keepIn K (.ref f11)=true)
 (a12:findIn K (.ref jH) "part"=some (some (.ref Wq)))
 (i12:isFn K (.ref Wq)=true)
 (l12:LK K Wq "part" "Frames.part" gk ang agC anu afx ab_ alN am9 aeo aiZ) (He:codeIn K ab_ "Frames.part"=true) (k12:keepIn K (.ref Wq)=true)
 (a13:findIn K (.ref jH) "inside"=some (some (.ref f13)))
 (i13:isFn K (.ref f13)=true)
 (l13:LK K f13 "inside" "Frames.inside" eM akQ afS anF apW acg ao5 am6 aif ah7) (Qd:codeIn K acg "Frames.inside"=true) (k13:keepIn K (.ref f13)=true)
 (a14:findIn K (.ref jH) "row"=some (some (.ref f14)))
 (i14:isFn K (.ref f14)=true)
 (l14:LK K f14 "row" "Frames.row" iA aeJ aer afh aij XF anK ah4 apo amR) (c14:codeIn K XF "Frames.row"=true) (k14:keepIn K (.ref f14)=true)
 (a15:findIn K (.ref jH) "ended_by"=some (some (.ref QR)))
 (i15:isFn K (.ref QR)=true)
 (Zt:LK K QR "ended_by" "Frames.ended_by" dk agu ans ajl ajv aau aeT aiU alu al2) (yf:codeIn K aau "Frames.ended_by"=true) (k15:keepIn K (.ref QR)=true)
 (a16:findIn K (.ref jH) "stands"=some (some (.ref YH)))
 (i16:isFn K (.ref YH)=true)
 (l16:LK K YH "stands" "Frames.stands" eU aoi alz af8 afz abw ahC ak_ ahD ano) (W6:codeIn K abw "Frames.stands"=true) (k16:keepIn K (.ref YH)=true)
 (a17:findIn K (.ref jH) "standing"=some (some (.ref f17)))
 (i17:isFn K (.ref f17)=true)
 (l17:LK K f17 "standing" "Frames.standing" dH aja amh alB ahu abO aoq ahX afO aiP) (c17:codeIn K abO "Frames.standing"=true) (k17:keepIn K (.ref f17)=true)
 (a18:findIn K (.ref jH) "begun"=some (some (.ref f18)))
 (i18:isFn K (.ref f18)=true)
 (l18:LK K f18 "begun" "Frames.begun" fJ amw ae7 afc akR XY alb ahU aoM aeF) (c18:codeIn K XY "Frames.begun"=true) (k18:keepIn K (.ref f18)=true)
 (a19:findIn K (.ref jH) "was_begun"=some (some (.ref Y6)))
 (i19:isFn K (.ref Y6)=true)
 (l19:LK K Y6 "was_begun" "Frames.was_begun" cU alT aon an_ akZ acK amq afr anU aoy) (c19:codeIn K acK "Frames.was_begun"=true) (k19:keepIn K (.ref Y6)=true)
 (a20:findIn K (.ref jH) "want_begun"=some (some (.ref f20)))
 (i20:isFn K (.ref f20)=true)
 (l20:LK K f20 "want_begun" "Frames.want_begun" cL ahz ao_ agr apf YZ ap9 anL afp aeY) (WN:codeIn K YZ "Frames.want_begun"=true) (ZV:keepIn K (.ref f20)=true)
 (a21:findIn K (.ref jH) "want_standing"=some (some (.ref f21)))
 (i21:isFn K (.ref f21)=true)
 (l21:LK K f21 "want_standing" "Frames.want_standing" cb aoR alq alL agz Yc ajb agT apB ak0) (c21:codeIn K Yc "Frames.want_standing"=true) (k21:keepIn K (.ref f21)=true)
 (a22:findIn K (.ref jH) "want_beginning"=some (some (.ref Ul)))
 (i22:isFn K (.ref Ul)=true)
 (l22:LK K Ul "want_beginning" "Frames.want_beginning" bZ akU ajK ael ahn acG amA aik amb aki) (c22:codeIn K acG "Frames.want_beginning"=true) (k22:keepIn K (.ref Ul)=true)
 (a23:findIn K (.ref jH) "want_finishing"=some (some (.ref f23)))
 (i23:isFn K (.ref f23)=true)
 (l23:LK K f23 "want_finishing" "Frames.want_finishing" b7 afW aem ajd amj aaV amd aml alv apZ) (c23:codeIn K aaV "Frames.want_finishing"=true) (Xo:keepIn K (.ref f23)=true)
 (a24:findIn K (.ref jH) "__init__"=some (some (.ref f24)))
 (i24:isFn K (.ref f24)=true)
 (l24:LK K f24 "__init__" "House.__init__" dW aly agt aid aiO aaB ajP ak3 ahL ajH) (c24:codeIn K aaB "House.__init__"=true) (k24:keepIn K (.ref f24)=true)
 (a25:findIn K (.ref jH) "make"=some (some (.ref Ww)))
 (i25:isFn K (.ref Ww)=true)
 (l25:LK K Ww "make" "House.make" ib agJ ahm ag6 al6 abf ao4 als ae0 alr) (c25:codeIn K abf "House.make"=true) (k25:keepIn K (.ref Ww)=true)
 (a26:findIn K (.ref jH) "get"=some (some (.ref f26)))
 (i26:isFn K (.ref f26)=true)
 (l26:LK K f26 "get" "House.get" jx amt agR apq alW Yq am3 amQ aiS afI) (c26:codeIn K Yq "House.get"=true) (k26:keepIn K (.ref f26)=true)
 (a27:findIn K (.ref jH) "put"=some (some (.ref f27)))
 (i27:isFn K (.ref f27)=true)
 (l27:LK K f27 "put" "House.put" jt afd ahP ah1 afY Zv afD anx akt aoI) (c27:codeIn K Zv "House.put"=true) (k27:keepIn K (.ref f27)=true)
 (a28:findIn K (.ref jH) "size"=some (some (.ref ZM)))
 (i28:isFn K (.ref ZM)=true)
 (l28:LK K ZM "size" "House.size" hU ajj ajm amP am5 aa_ ajw aoN aom aiX) (c28:codeIn K aa_ "House.size"=true) (k28:keepIn K (.ref ZM)=true)
 (a29:findIn K (.ref jH) "cells"=some (some (.ref Y4)))
 (i29:isFn K (.ref Y4)=true)
 (l29:LK K Y4 "cells" "House.cells" gh ag0 akY ajS anj Yy aos akC agA ajC) (c29:codeIn K Yy "House.cells"=true) (k29:keepIn K (.ref Y4)=true)
 (a30:findIn K (.ref jH) "used"=some (some (.ref f30)))
 (i30:isFn K (.ref f30)=true)
 (l30:LK K f30 "used" "House.used" iJ ajs agH ah8 apb ace aei akX aog af6) (c30:codeIn K ace "House.used"=true) (k30:keepIn K (.ref f30)=true)
 (a31:findIn K (.ref jH) "left"=some (some (.ref Zc)))
 (i31:isFn K (.ref Zc)=true)
 (l31:LK K Zc "left" "House.left" ig ajg amK afi aiC XI anm agF ao8 aoY) (c31:codeIn K XI "House.left"=true) (k31:keepIn K (.ref Zc)=true)
 (a32:findIn K (.ref jH) "limit"=some (some (.ref Vy)))
 (i32:isFn K (.ref Vy)=true)
 (l32:LK K Vy "limit" "House.limit" gq anZ ajp ajN afs Ys alI aiV ajG aoQ) (c32:codeIn K Ys "House.limit"=true) (k32:keepIn K (.ref Vy)=true)
 (a33:findIn K (.ref jH) "greatest"=some (some (.ref YG)))
 (i33:isFn K (.ref YG)=true)
 (l33:LK K YG "greatest" "House.greatest" dY amz aeN ake apT YB aoZ amL apA akb) (c33:codeIn K YB "House.greatest"=true) (k33:keepIn K (.ref YG)=true)
 (a34:findIn K (.ref jH) "rooms"=some (some (.ref f34)))
 (i34:isFn K (.ref f34)=true)
 (l34:LK K f34 "rooms" "House.rooms" gr amk ak1 af_ amD aci ams ak7 apz aim) (c34:codeIn K aci "House.rooms"=true) (W2:keepIn K (.ref f34)=true)
 (a35:findIn K (.ref jH) "picture"=some (some (.ref VQ)))
 (i35:isFn K (.ref VQ)=true)
 (l35:LK K VQ "picture" "House.picture" eS agL amx alw ak2 aaJ akD aoJ ah5 ais) (c35:codeIn K aaJ "House.picture"=true) (k35:keepIn K (.ref VQ)=true)
 (a36:findIn K (.ref jH) "picture_of"=some (some (.ref XZ)))
 (i36:isFn K (.ref XZ)=true)
 (l36:LK K XZ "picture_of" "House.picture_of" cV al5 afv ajL aj3 YC amJ ai6 aeQ afu) (c36:codeIn K YC "House.picture_of"=true) (k36:keepIn K (.ref XZ)=true)
 (a37:findIn K (.ref jH) "twin"=some (some (.ref XH)))
 (i37:isFn K (.ref XH)=true)
 (l37:LK K XH "twin" "House.twin" ip ap3 aoA aoD aeU aaj akW alp ae4 anY) (c37:codeIn K aaj "House.twin"=true) (k37:keepIn K (.ref XH)=true)
 (a38:findIn K (.ref jH) "is_way"=some (some (.ref Ye)))
 (i38:isFn K (.ref Ye)=true)
 (l38:LK K Ye "is_way" "House.is_way" fB aeW ah9 ahg afm XN afo alQ aor alX) (c38:codeIn K XN "House.is_way"=true) (k38:keepIn K (.ref Ye)=true)
 (a39:findIn K (.ref jH) "is_value"=some (some (.ref ZA)))
 (i39:isFn K (.ref ZA)=true)
 (l39:LK K ZA "is_value" "House.is_value" d6 akj afP afT ai4 aai aoo akm afy agW) (c39:codeIn K aai "House.is_value"=true) (k39:keepIn K (.ref ZA)=true)
 (a40:findIn K (.ref jH) "want_room"=some (some (.ref f40)))
 (i40:isFn K (.ref f40)=true)
 (l40:LK K f40 "want_room" "House.want_room" dE aoa aed aln afw Y5 aes afH agv ah0) (c40:codeIn K Y5 "House.want_room"=true) (k40:keepIn K (.ref f40)=true)
 (a41:nsIn K mainGlobals "want_cell"=some (some (.ref f41)))
 (l41:LK K f41 "want_cell" "want_cell" jF agp ajX aew aoV aaP afU alM ajR akw) (c41:codeIn K aaP "want_cell"=true) (k41:keepIn K (.ref f41)=true)
 (a42:nsIn K mainGlobals "_law_cell"=some (some (.ref W_)))
 (l42:LK K W_ "_law_cell" "_law_cell" jg al9 agj aoS aoH Zl ajz afF ajI anR) (c42:codeIn K Zl "_law_cell"=true) (k42:keepIn K (.ref W_)=true)
 (a43:nsIn K mainGlobals "_law_box"=some (some (.ref f43)))
 (l43:LK K f43 "_law_box" "_law_box" kA ajk ail ahA agU ZL apy anP aeR agn) (c43:codeIn K ZL "_law_box"=true) (k43:keepIn K (.ref f43)=true)
 (a44:nsIn K mainGlobals "_law_take"=some (some (.ref f44)))
 (l44:LK K f44 "_law_take" "_law_take" jD aop aiu ahG ago abp alj ag2 ajy aix) (c44:codeIn K abp "_law_take"=true) (k44:keepIn K (.ref f44)=true)
 (a45:nsIn K mainGlobals "_law_house"=some (some (.ref WZ)))
 (l45:LK K WZ "_law_house" "_law_house" iw ak5 aeG aj2 agy Yb akp apr ajD agQ) (c45:codeIn K Yb "_law_house"=true) (k45:keepIn K (.ref WZ)=true)
 (a46:nsIn K mainGlobals "_law_standing"=some (some (.ref f46)))
 (l46:LK K f46 "_law_standing" "_law_standing" eP ahe agO ag3 ae3 Zk ap8 ali aku aex) (c46:codeIn K Zk "_law_standing"=true) (k46:keepIn K (.ref f46)=true)
 (a47:nsIn K mainGlobals "_law_row"=some (some (.ref f47)))
 (l47:LK K f47 "_law_row" "_law_row" kZ ag8 aha am_ apY acw apK aiA ahF anS) (c47:codeIn K acw "_law_row"=true) (k47:keepIn K (.ref f47)=true)
 (a48:nsIn K mainGlobals "_law_begin"=some (some (.ref f48)))
 (l48:LK K f48 "_law_begin" "_law_begin" hX ajA amn ajB aiz aaS agP ap5 ajx ajZ) (c48:codeIn K aaS "_law_begin"=true) (k48:keepIn K (.ref f48)=true)
 (a49:nsIn K mainGlobals "_law_finish"=some (some (.ref f49)))
 (l49:LK K f49 "_law_finish" "_law_finish" gu ajn amB amT ahT XW agX al1 ak8 amy) (c49:codeIn K XW "_law_finish"=true) (k49:keepIn K (.ref f49)=true)
 (a50:nsIn K mainGlobals "_law_given"=some (some (.ref f50)))
 (l50:LK K f50 "_law_given" "_law_given" il afg anN amO apv aan afQ aiI aeg ahf) (c50:codeIn K aan "_law_given"=true) (k50:keepIn K (.ref f50)=true)
 (a51:nsIn K mainGlobals "_law_used"=some (some (.ref f51)))
 (l51:LK K f51 "_law_used" "_law_used" jn af4 aoT apI apE Yp ahi anr agK agf) (c51:codeIn K Yp "_law_used"=true) (k51:keepIn K (.ref f51)=true)
 (a52:nsIn K mainGlobals "_law_make"=some (some (.ref f52)))
 (l52:LK K f52 "_law_make" "_law_make" jf akk anh ajo afb aaw anG apP anA ak6) (c52:codeIn K aaw "_law_make"=true) (k52:keepIn K (.ref f52)=true)
 (a53:nsIn K mainGlobals "_law_one"=some (some (.ref f53)))
 (l53:LK K f53 "_law_one" "_law_one" lr akh aiQ aov ajr YI aky aph amv aeX) (c53:codeIn K YI "_law_one"=true) (k53:keepIn K (.ref f53)=true)
 (a54:nsIn K mainGlobals "_law_value"=some (some (.ref f54)))
 (l54:LK K f54 "_law_value" "_law_value" ie aeu amM aoK anv YK ap0 anB aeS alF) (c54:codeIn K YK "_law_value"=true) (k54:keepIn K (.ref f54)=true)
 (a55:nsIn K mainGlobals "_law_here"=some (some (.ref f55)))
 (l55:LK K f55 "_law_here" "_law_here" jo aez agm ai0 ahB Yo aoh al7 al8 agY) (c55:codeIn K Yo "_law_here"=true) (k55:keepIn K (.ref f55)=true)
 (a56:nsIn K mainGlobals "_law_deed"=some (some (.ref f56)))
 (l56:LK K f56 "_law_deed" "_law_deed" jq aeK am2 ajh af2 aa7 apS aox ahW alk) (c56:codeIn K aa7 "_law_deed"=true) (k56:keepIn K (.ref f56)=true)
 (a57:nsIn K mainGlobals "_law_picture"=some (some (.ref f57)))
 (l57:LK K f57 "_law_picture" "_law_picture" fG ag_ afe aeI akB acC agd apU ahj ae5) (c57:codeIn K acC "_law_picture"=true) (k57:keepIn K (.ref f57)=true)
 (a58:nsIn K mainGlobals "_law_copy"=some (some (.ref f58)))
 (l58:LK K f58 "_law_copy" "_law_copy" jr alo alR aft alV ZO akc alm ap6 apG) (c58:codeIn K ZO "_law_copy"=true) (k58:keepIn K (.ref f58)=true)
 (a59:nsIn K mainGlobals "_law_by"=some (some (.ref f59)))
 (l59:LK K f59 "_law_by" "_law_by" mN aiT ai_ alH ap7 YR af7 aho amm ahv) (c59:codeIn K YR "_law_by"=true) (k59:keepIn K (.ref f59)=true)
 (a60:nsIn K mainGlobals "_law_caught"=some (some (.ref f60)))
 (l60:LK K f60 "_law_caught" "_law_caught" gp am4 aoP akl agl ZU ah6 aip anW amg) (c60:codeIn K ZU "_law_caught"=true) (k60:keepIn K (.ref f60)=true)
 (a61:nsIn K mainGlobals "_law_apart"=some (some (.ref f61)))
 (l61:LK K f61 "_law_apart" "_law_apart" ik ahl anC aht agS aas akf ajU alU alY) (c61:codeIn K aas "_law_apart"=true) (k61:keepIn K (.ref f61)=true)
 (a62:nsIn K mainGlobals "_law_no_cell"=some (some (.ref f62)))
 (l62:LK K f62 "_law_no_cell" "_law_no_cell" fj ahx aeC agN apj Yi afX aj_ alx aev) (c62:codeIn K Yi "_law_no_cell"=true) (k62:keepIn K (.ref f62)=true)
 (a63:nsIn K mainGlobals "_law_rooms_right"=some (some (.ref f63)))
 (l63:LK K f63 "_law_rooms_right" "_law_rooms_right" df ag7 akg anT alA abA aeV aka ahs aiq) (c63:codeIn K abA "_law_rooms_right"=true) (k63:keepIn K (.ref f63)=true)
 (a64:nsIn K mainGlobals "_law_right"=some (some (.ref f64)))
 (l64:LK K f64 "_law_right" "_law_right" h_ aeA agi am7 afj aa0 ank al3 aiK ami) (c64:codeIn K aa0 "_law_right"=true) (k64:keepIn K (.ref f64)=true)
 (a65:nsIn K mainGlobals "law"=some (some (.ref f65)))
 (l65:LK K f65 "law" "law" Dn akH ald apt aoX aca akq ajY ajt agk) (c65:codeIn K aca "law"=true) (k65:keepIn K (.ref f65)=true)
 (x_0:K.lookup Aw=some (excClassObj Pz q_0 Aw N_0 OD C8 true Pw sub_0 PQ Fj O_ P2 P8 OS O0 OU "ValueError.__new__"))
 (t_0:gx C8)
 (ahq:typeIn K (.ref f0)=some (.type "function")) (api:keepIn K (.ref Aw)=true) (apJ:specialIn K (.ref Aw) "__getattribute__"=some (some (.builtin "type.__getattribute__"))) (ai1:readsIn K Aw (.type "type")=true) (aen:findCls K (.ref Aw) (.type "type") "__init__"=some (.val (.ref f0)))
 (amV:∀self,refuseLoop self "__setattr__" C8=pure ())
 (apg:C8.contains (.type "object")=true)
 (aje:findIn K (.ref Aw) "__setattr__"=some (some (.builtin "object.__setattr__"))) (agc:findIn K (.ref Aw) "__getattribute__"=some (some (.builtin "BaseException.__getattribute__"))) (afM:findIn K (.ref Aw) "__getattr__"=some none) (ait:mroIn K Aw (.type "BaseException")=some true) (aiH:hasDictIn K Aw=true)
 (aa5:(Value.ref Aw::C8).contains (.ref Aw)=true)
 (x_1:K.lookup BX=some (excClassObj L7 q_1 BX XU KO ze true MV B8 Jy CM NA Jg Ls Ja Mt Ni "ValueError.__new__"))
 (t_1:gx ze)
 (amU:typeIn K (.ref f1)=some (.type "function")) (aeL:keepIn K (.ref BX)=true) (aoE:specialIn K (.ref BX) "__getattribute__"=some (some (.builtin "type.__getattribute__"))) (ajf:readsIn K BX (.type "type")=true) (aic:findCls K (.ref BX) (.type "type") "__init__"=some (.val (.ref f1)))
 (apQ:∀self,refuseLoop self "__setattr__" ze=pure ())
 (aoW:ze.contains (.type "object")=true)
 (aiG:findIn K (.ref BX) "__setattr__"=some (some (.builtin "object.__setattr__"))) (ao6:findIn K (.ref BX) "__getattribute__"=some (some (.builtin "BaseException.__getattribute__"))) (ai8:findIn K (.ref BX) "__getattr__"=some none) (aeP:mroIn K BX (.type "BaseException")=some true) (aiM:hasDictIn K BX=true)
 (aaZ:(Value.ref BX::ze).contains (.ref BX)=true)
 (zi:(Value.ref BX::ze).contains (.ref Aw)=true)
 (Ij:findIn K (.ref BX) "found"=some none)
 (x_2:K.lookup AV=some (excClassObj Mr Yl AV N_2 JB yI true Kt DD Nf CQ MJ JG KW LU IS JI "ValueError.__new__"))
 (t_2:gx yI)
 (anf:typeIn K (.ref f2)=some (.type "function")) (ao7:keepIn K (.ref AV)=true) (aps:specialIn K (.ref AV) "__getattribute__"=some (some (.builtin "type.__getattribute__"))) (afl:readsIn K AV (.type "type")=true) (anQ:findCls K (.ref AV) (.type "type") "__init__"=some (.val (.ref f2)))
 (ahR:∀self,refuseLoop self "__setattr__" yI=pure ())
 (amE:yI.contains (.type "object")=true)
 (anV:findIn K (.ref AV) "__setattr__"=some (some (.builtin "object.__setattr__"))) (am1:findIn K (.ref AV) "__getattribute__"=some (some (.builtin "BaseException.__getattribute__"))) (akF:findIn K (.ref AV) "__getattr__"=some none) (akG:mroIn K AV (.type "BaseException")=some true) (aj4:hasDictIn K AV=true)
 (XM:(Value.ref AV::yI).contains (.ref AV)=true)
 (yq:(Value.ref AV::yI).contains (.ref Aw)=true)
 (Wz:findIn K (.ref AV) "by"=some none)
 (Hd:findIn K (.ref AV) "found"=some none)
 (x_3:K.lookup BR=some (excClassObj Jd q_3 BR Yu MW yy true Nn CY L0 Ca LD Np Mj Mg KS LB "ValueError.__new__"))
 (t_3:gx yy)
 (ap1:typeIn K (.ref f3)=some (.type "function")) (alJ:keepIn K (.ref BR)=true) (ag4:specialIn K (.ref BR) "__getattribute__"=some (some (.builtin "type.__getattribute__"))) (ajJ:readsIn K BR (.type "type")=true) (af5:findCls K (.ref BR) (.type "type") "__init__"=some (.val (.ref f3)))
 (aoF:∀self,refuseLoop self "__setattr__" yy=pure ())
 (afC:yy.contains (.type "object")=true)
 (aoc:findIn K (.ref BR) "__setattr__"=some (some (.builtin "object.__setattr__"))) (ajM:findIn K (.ref BR) "__getattribute__"=some (some (.builtin "BaseException.__getattribute__"))) (afG:findIn K (.ref BR) "__getattr__"=some none) (ajO:mroIn K BR (.type "BaseException")=some true) (ahI:hasDictIn K BR=true)
 (XC:(Value.ref BR::yy).contains (.ref BR)=true)
 (yN:(Value.ref BR::yy).contains (.ref Aw)=true)
 (HY:findIn K (.ref BR) "found"=some none)
 (x_4:K.lookup BW=some (excClassObj JZ Y9 BW N_4 Jf zu true MG CV Ms DK Jt LX MS Jc Kb MY "ValueError.__new__"))
 (t_4:gx zu)
 (aiy:typeIn K (.ref f4)=some (.type "function")) (alE:keepIn K (.ref BW)=true) (alg:specialIn K (.ref BW) "__getattribute__"=some (some (.builtin "type.__getattribute__"))) (ahM:readsIn K BW (.type "type")=true) (alC:findCls K (.ref BW) (.type "type") "__init__"=some (.val (.ref f4)))
 (aeH:∀self,refuseLoop self "__setattr__" zu=pure ())
 (ae6:zu.contains (.type "object")=true)
 (al4:findIn K (.ref BW) "__setattr__"=some (some (.builtin "object.__setattr__"))) (ae8:findIn K (.ref BW) "__getattribute__"=some (some (.builtin "BaseException.__getattribute__"))) (apN:findIn K (.ref BW) "__getattr__"=some none) (anD:mroIn K BW (.type "BaseException")=some true) (ana:hasDictIn K BW=true)
 (X7:(Value.ref BW::zu).contains (.ref BW)=true)
 (yL:(Value.ref BW::zu).contains (.ref Aw)=true)
 (G_:findIn K (.ref BW) "found"=some none)
 (akd:plainGet K yD Str.empty=true) (Xx:hasDictIn K yD=true) (aoG:plainOver K yD=true) (ajT:findIn K (.ref yD) "__setattr__"=some (some (.builtin "object.__setattr__"))) (aqa:makesIn K yD=true) (agq:keepIn K (.ref yD)=true)
 (agD:specialIn K (.ref yD) "__getattribute__"=some (some (.builtin "type.__getattribute__"))) (akM:readsIn K yD (.type "type")=true) (aj0:findCls K (.ref yD) (.type "type") "__init__"=some (.val (.ref f9)))
 (Cj:findIn K (.ref yD) "parents"=some none)
 (Eu:findIn K (.ref yD) "takers"=some none)
 (aoC:findIn K (.ref yD) "__class__"=some (some (.builtin "object.__class__"))) (anl:specialIn K (.builtin "object.__class__") "__get__"=some (some (.builtin "getset_descriptor.__get__"))) (ai2:takesIn K (.builtin "object.__class__")=some true) (apx:mroIn K yD (.type "object")=some true)
 (aob:typeIn K (.ref yD)=some (.type "type"))
 (Uh:(Value.ref yD==Value.ref jH)=false) (UD:mroIn K yD (.ref jH)=some false)
 (ah_:plainGet K jH Str.empty=true) (YF:hasDictIn K jH=true) (aof:plainOver K jH=true) (ai7:findIn K (.ref jH) "__setattr__"=some (some (.builtin "object.__setattr__"))) (aj9:makesIn K jH=true) (apH:keepIn K (.ref jH)=true)
 (Ht:findIn K (.ref jH) "bound"=some none)
 (Em:findIn K (.ref jH) "floors"=some none)
 (Cu:findIn K (.ref jH) "lengths"=some none)
 (CT:findIn K (.ref jH) "parents"=some none)
 (MU:findIn K (.ref jH) "peak"=some none)
 (E5:findIn K (.ref jH) "takers"=some none)
 (ak4:findIn K (.ref jH) "__class__"=some (some (.builtin "object.__class__"))) (afZ:specialIn K (.builtin "object.__class__") "__get__"=some (some (.builtin "getset_descriptor.__get__"))) (ag9:takesIn K (.builtin "object.__class__")=some true) (aio:mroIn K jH (.type "object")=some true)
 (DN:(Value.ref jH==Value.ref yD)=false) (Cc:mroIn K jH (.ref yD)=some true)
 (aiw:typeIn K (.ref jH)=some (.type "type"))
 (pe:nsIn K mainGlobals "ValueError"=some none)
 (BH:nsIn K mainGlobals "bool"=some none)
 (uJ:nsIn K mainGlobals "dict"=some none)
 (qj:nsIn K mainGlobals "enumerate"=some none)
 (Fl:nsIn K mainGlobals "int"=some none)
 (cO:nsIn K mainGlobals "isinstance"=some none)
 (ee:nsIn K mainGlobals "len"=some none)
 (nZ:nsIn K mainGlobals "list"=some none)
 (zO:nsIn K mainGlobals "max"=some none)
 (IV:nsIn K mainGlobals "min"=some none)
 (kg:nsIn K mainGlobals "range"=some none)
 (fZ:nsIn K mainGlobals "repr"=some none)
 (ny:nsIn K mainGlobals "reversed"=some none)
 (CP:nsIn K mainGlobals "sum"=some none)
 (ki:nsIn K mainGlobals "tuple"=some none)
 (Kc:nsIn K mainGlobals "GROUND"=some (some (.int 0 tL)))
 (A6:nsIn K mainGlobals "MOST_CELLS"=some (some (.int 1000 nz)))
 (pO:nsIn K mainGlobals "MOST_CELLS_OF_ROOM"=some (some (.int 6 fF)))
 (yT:nsIn K mainGlobals "MOST_FRAMES"=some (some (.int 100 mE))):
 ∃A:pH,Txt K mg A:=
 ⟨⟨f0,_,f1,_,f2,_,f3,_,f4,_,f5,_,f6,_,f7,_,f8,_,f9,_,f10,_,f11,_,Wq,_,f13,_,f14,_,QR,_,YH,_,f17,_,f18,_,Y6,_,f20,_,f21,_,Ul,_,f23,_,f24,_,Ww,_,f26,_,f27,_,ZM,_,Y4,_,f30,_,Zc,_,Vy,_,YG,_,f34,_,VQ,_,XZ,_,XH,_,Ye,_,ZA,_,f40,_,f41,_,W_,_,f43,_,f44,_,WZ,_,f46,_,f47,_,f48,_,f49,_,f50,_,f51,_,f52,_,f53,_,f54,_,f55,_,f56,_,f57,_,f58,_,f59,_,f60,_,f61,_,f62,_,f63,_,f64,_,f65,_,Aw,BX,AV,BR,BW,yD,jH⟩,
  ⟨fm l0 c0 k0,
  (fm l0 c0 k0).binds (ps:=["self","text"]) fun _ _ _ _ _ _=>pI fun _ _=>rfl,
  fm l1 c1 k1,
  (fm l1 c1 k1).binds (ps:=["self","found"]) fun _ _ _ _ _ _=>pI fun _ _=>rfl,
  fm l2 c2 k2,
  (fm l2 c2 k2).binds (ps:=["self","found","by"]) fun _ _ _ _ _ _=>N4 fun _ _ _=>rfl,
  fm l3 c3 k3,
  (fm l3 c3 k3).binds (ps:=["self","found"]) fun _ _ _ _ _ _=>pI fun _ _=>rfl,
  fm l4 c4 k4,
  (fm l4 c4 k4).binds (ps:=["self","found"]) fun _ _ _ _ _ _=>pI fun _ _=>rfl,
  mg_of X G a5,
  fm l5 c5 k5,
  (fm l5 c5 k5).binds (ps:=["thing"]) fun _ _ _ _ _ _=>Al fun _=>rfl,
  mg_of X G a6,
  fm l6 c6 k6,
  (fm l6 c6 k6).binds (ps:=["thing","low","high"]) fun _ _ _ _ _ _=>N4 fun _ _ _=>rfl,
  mg_of X G a7,
  fm l7 c7 k7,
  (fm l7 c7 k7).binds (ps:=["thing"]) fun _ _ _ _ _ _=>Al fun _=>rfl,
  mg_of X G a8,
  fm l8 c8 k8,
  (fm l8 c8 k8).binds (ps:=["thing"]) fun _ _ _ _ _ _=>Al fun _=>rfl,
  fm l9 c9 k9,
  (fm l9 c9 k9).binds (ps:=["self"]) fun _ _ _ _ _ _=>Al fun _=>rfl,
  fm l10 c10 k10,
  (fm l10 c10 k10).binds (ps:=["self","frame"]) fun _ _ _ _ _ _=>pI fun _ _=>rfl,
  ⟨a10,i10,k10⟩,
  fm l11 c11 k11,
  (fm l11 c11 k11).binds (ps:=["self","frame"]) fun _ _ _ _ _ _=>pI fun _ _=>rfl,
  ⟨a11,i11,k11⟩,
  fm l12 He k12,
  (fm l12 He k12).binds (ps:=["self","frame"]) fun _ _ _ _ _ _=>pI fun _ _=>rfl,
  ⟨a12,i12,k12⟩,
  fm l13 Qd k13,
  (fm l13 Qd k13).binds (ps:=["self","frame"]) fun _ _ _ _ _ _=>pI fun _ _=>rfl,
  ⟨a13,i13,k13⟩,
  fm l14 c14 k14,
  (fm l14 c14 k14).binds (ps:=["self","frame"]) fun _ _ _ _ _ _=>pI fun _ _=>rfl,
  ⟨a14,i14,k14⟩,
  fm Zt yf k15,
  (fm Zt yf k15).binds (ps:=["self","frame"]) fun _ _ _ _ _ _=>pI fun _ _=>rfl,
  ⟨a15,i15,k15⟩,
  fm l16 W6 k16,
  (fm l16 W6 k16).binds (ps:=["self","thing"]) fun _ _ _ _ _ _=>pI fun _ _=>rfl,
  ⟨a16,i16,k16⟩,
  fm l17 c17 k17,
  (fm l17 c17 k17).binds (ps:=["self"]) fun _ _ _ _ _ _=>Al fun _=>rfl,
  ⟨a17,i17,k17⟩,
  fm l18 c18 k18,
  (fm l18 c18 k18).binds (ps:=["self"]) fun _ _ _ _ _ _=>Al fun _=>rfl,
  ⟨a18,i18,k18⟩,
  fm l19 c19 k19,
  (fm l19 c19 k19).binds (ps:=["self","thing"]) fun _ _ _ _ _ _=>pI fun _ _=>rfl,
  ⟨a19,i19,k19⟩,
  fm l20 WN ZV,
  (fm l20 WN ZV).binds (ps:=["self","thing"]) fun _ _ _ _ _ _=>pI fun _ _=>rfl,
  ⟨a20,i20,ZV⟩,
  fm l21 c21 k21,
  (fm l21 c21 k21).binds (ps:=["self","thing"]) fun _ _ _ _ _ _=>pI fun _ _=>rfl,
  ⟨a21,i21,k21⟩,
  fm l22 c22 k22,
  (fm l22 c22 k22).binds (ps:=["self","thing"]) fun _ _ _ _ _ _=>pI fun _ _=>rfl,
  ⟨a22,i22,k22⟩,
  fm l23 c23 Xo,
  (fm l23 c23 Xo).binds (ps:=["self","thing"]) fun _ _ _ _ _ _=>pI fun _ _=>rfl,
  ⟨a23,i23,Xo⟩,
  fm l24 c24 k24,
  (fm l24 c24 k24).binds (ps:=["self","limit"]) fun _ _ _ _ _ _=>pI fun _ _=>rfl,
  fm l25 c25 k25,
  (fm l25 c25 k25).binds (ps:=["self","frame","size"]) fun _ _ _ _ _ _=>N4 fun _ _ _=>rfl,
  ⟨a25,i25,k25⟩,
  fm l26 c26 k26,
  (fm l26 c26 k26).binds (ps:=["self","way","k"]) fun _ _ _ _ _ _=>N4 fun _ _ _=>rfl,
  ⟨a26,i26,k26⟩,
  fm l27 c27 k27,
  (fm l27 c27 k27).binds (ps:=["self","way","k","value"]) fun _ _ _ _ _ _=>bn4 fun _ _ _ _=>rfl,
  ⟨a27,i27,k27⟩,
  fm l28 c28 k28,
  (fm l28 c28 k28).binds (ps:=["self","way"]) fun _ _ _ _ _ _=>pI fun _ _=>rfl,
  ⟨a28,i28,k28⟩,
  fm l29 c29 k29,
  (fm l29 c29 k29).binds (ps:=["self","way"]) fun _ _ _ _ _ _=>pI fun _ _=>rfl,
  ⟨a29,i29,k29⟩,
  fm l30 c30 k30,
  (fm l30 c30 k30).binds (ps:=["self"]) fun _ _ _ _ _ _=>Al fun _=>rfl,
  ⟨a30,i30,k30⟩,
  fm l31 c31 k31,
  (fm l31 c31 k31).binds (ps:=["self"]) fun _ _ _ _ _ _=>Al fun _=>rfl,
  ⟨a31,i31,k31⟩,
  fm l32 c32 k32,
  (fm l32 c32 k32).binds (ps:=["self"]) fun _ _ _ _ _ _=>Al fun _=>rfl,
  ⟨a32,i32,k32⟩,
  fm l33 c33 k33,
  (fm l33 c33 k33).binds (ps:=["self"]) fun _ _ _ _ _ _=>Al fun _=>rfl,
  ⟨a33,i33,k33⟩,
  fm l34 c34 W2,
  (fm l34 c34 W2).binds (ps:=["self","frame"]) fun _ _ _ _ _ _=>pI fun _ _=>rfl,
  ⟨a34,i34,W2⟩,
  fm l35 c35 k35,
  (fm l35 c35 k35).binds (ps:=["self"]) fun _ _ _ _ _ _=>Al fun _=>rfl,
  ⟨a35,i35,k35⟩,
  fm l36 c36 k36,
  (fm l36 c36 k36).binds (ps:=["self","frame"]) fun _ _ _ _ _ _=>pI fun _ _=>rfl,
  ⟨a36,i36,k36⟩,
  fm l37 c37 k37,
  (fm l37 c37 k37).binds (ps:=["self"]) fun _ _ _ _ _ _=>Al fun _=>rfl,
  ⟨a37,i37,k37⟩,
  fm l38 c38 k38,
  (fm l38 c38 k38).binds (ps:=["self","thing"]) fun _ _ _ _ _ _=>pI fun _ _=>rfl,
  ⟨a38,i38,k38⟩,
  fm l39 c39 k39,
  (fm l39 c39 k39).binds (ps:=["self","thing"]) fun _ _ _ _ _ _=>pI fun _ _=>rfl,
  ⟨a39,i39,k39⟩,
  fm l40 c40 k40,
  (fm l40 c40 k40).binds (ps:=["self","thing"]) fun _ _ _ _ _ _=>pI fun _ _=>rfl,
  ⟨a40,i40,k40⟩,
  mg_of X G a41,
  fm l41 c41 k41,
  (fm l41 c41 k41).binds (ps:=["room","thing"]) fun _ _ _ _ _ _=>pI fun _ _=>rfl,
  mg_of X G a42,
  fm l42 c42 k42,
  (fm l42 c42 k42).binds (ps:=["_law_script","_law_k"]) fun _ _ _ _ _ _=>pI fun _ _=>rfl,
  mg_of X G a43,
  fm l43 c43 k43,
  (fm l43 c43 k43).binds (ps:=["_law_cell_here"]) fun _ _ _ _ _ _=>Al fun _=>rfl,
  mg_of X G a44,
  fm l44 c44 k44,
  (fm l44 c44 k44).binds (ps:=["_law_box_here","_law_many"]) fun _ _ _ _ _ _=>pI fun _ _=>rfl,
  mg_of X G a45,
  fm l45 c45 k45,
  (fm l45 c45 k45).binds (ps:=["_law_limit"]) fun _ _ _ _ _ _=>Al fun _=>rfl,
  mg_of X G a46,
  fm l46 c46 k46,
  (fm l46 c46 k46).binds (ps:=["_law_model"]) fun _ _ _ _ _ _=>Al fun _=>rfl,
  mg_of X G a47,
  fm l47 c47 k47,
  (fm l47 c47 k47).binds (ps:=["_law_model","_law_frame"]) fun _ _ _ _ _ _=>pI fun _ _=>rfl,
  mg_of X G a48,
  fm l48 c48 k48,
  (fm l48 c48 k48).binds (ps:=["_law_model","_law_frame"]) fun _ _ _ _ _ _=>pI fun _ _=>rfl,
  mg_of X G a49,
  fm l49 c49 k49,
  (fm l49 c49 k49).binds (ps:=["_law_model","_law_frame"]) fun _ _ _ _ _ _=>pI fun _ _=>rfl,
  mg_of X G a50,
  fm l50 c50 k50,
  (fm l50 c50 k50).binds (ps:=["_law_model","_law_frame"]) fun _ _ _ _ _ _=>pI fun _ _=>rfl,
  mg_of X G a51,
  fm l51 c51 k51,
  (fm l51 c51 k51).binds (ps:=["_law_model"]) fun _ _ _ _ _ _=>Al fun _=>rfl,
  mg_of X G a52,
  fm l52 c52 k52,
  (fm l52 c52 k52).binds (ps:=["_law_model","_law_frame","_law_size"]) fun _ _ _ _ _ _=>N4 fun _ _ _=>rfl,
  mg_of X G a53,
  fm l53 c53 k53,
  (fm l53 c53 k53).binds (ps:=["_law_box_here","_law_some"]) fun _ _ _ _ _ _=>pI fun _ _=>rfl,
  mg_of X G a54,
  fm l54 c54 k54,
  (fm l54 c54 k54).binds (ps:=["_law_box_here","_law_model"]) fun _ _ _ _ _ _=>pI fun _ _=>rfl,
  mg_of X G a55,
  fm l55 c55 k55,
  (fm l55 c55 k55).binds (ps:=["_law_model"]) fun _ _ _ _ _ _=>Al fun _=>rfl,
  mg_of X G a56,
  fm l56 c56 k56,
  (fm l56 c56 k56).binds (ps:=["_law_box_here","_law_house_here","_law_model"]) fun _ _ _ _ _ _=>N4 fun _ _ _=>rfl,
  mg_of X G a57,
  fm l57 c57 k57,
  (fm l57 c57 k57).binds (ps:=["_law_model"]) fun _ _ _ _ _ _=>Al fun _=>rfl,
  mg_of X G a58,
  fm l58 c58 k58,
  (fm l58 c58 k58).binds (ps:=["_law_model"]) fun _ _ _ _ _ _=>Al fun _=>rfl,
  mg_of X G a59,
  fm l59 c59 k59,
  (fm l59 c59 k59).binds (ps:=["_law_house_here","_law_way"]) fun _ _ _ _ _ _=>pI fun _ _=>rfl,
  mg_of X G a60,
  fm l60 c60 k60,
  (fm l60 c60 k60).binds (ps:=["_law_house_here","_law_rooms","_law_way"]) fun _ _ _ _ _ _=>N4 fun _ _ _=>rfl,
  mg_of X G a61,
  fm l61 c61 k61,
  (fm l61 c61 k61).binds (ps:=["_law_house_here","_law_model","_law_others"]) fun _ _ _ _ _ _=>N4 fun _ _ _=>rfl,
  mg_of X G a62,
  fm l62 c62 k62,
  (fm l62 c62 k62).binds (ps:=["_law_house_here","_law_way","_law_k"]) fun _ _ _ _ _ _=>N4 fun _ _ _=>rfl,
  mg_of X G a63,
  fm l63 c63 k63,
  (fm l63 c63 k63).binds (ps:=["_law_house_here","_law_model"]) fun _ _ _ _ _ _=>pI fun _ _=>rfl,
  mg_of X G a64,
  fm l64 c64 k64,
  (fm l64 c64 k64).binds (ps:=["_law_house_here","_law_model"]) fun _ _ _ _ _ _=>pI fun _ _=>rfl,
  mg_of X G a65,
  fm l65 c65 k65,
  (fm l65 c65 k65).binds (ps:=["_law_script"]) fun _ _ _ _ _ _=>Al fun _=>rfl,
  mg_of X G c_0,
  ⟨⟨⟨Pz,q_0,N_0,OD,C8,true,Pw,sub_0,PQ,Fj,O_,P2,P8,OS,O0,OU,x_0,t_0⟩⟩,a0,ahq,api⟩,
  ⟨apJ,ai1,aen,k0⟩,
  ⟨⟨Pz,q_0,N_0,OD,C8,Pw,sub_0,PQ,Fj,O_,P2,P8,OS,O0,OU,x_0,amV,apg⟩,aje⟩,
  ⟨agc,afM,ait,aiH⟩,
  ⟨⟨Pz,q_0,N_0,OD,C8,true,Pw,sub_0,PQ,Fj,O_,P2,P8,OS,O0,OU,"ValueError.__new__",x_0,aa5⟩⟩,
  mg_of X G c_1,
  ⟨⟨⟨L7,q_1,XU,KO,ze,true,MV,B8,Jy,CM,NA,Jg,Ls,Ja,Mt,Ni,x_1,t_1⟩⟩,a1,amU,aeL⟩,
  ⟨aoE,ajf,aic,k1⟩,
  ⟨⟨L7,q_1,XU,KO,ze,MV,B8,Jy,CM,NA,Jg,Ls,Ja,Mt,Ni,x_1,apQ,aoW⟩,aiG⟩,
  ⟨ao6,ai8,aeP,aiM⟩,
  ⟨⟨L7,q_1,XU,KO,ze,true,MV,B8,Jy,CM,NA,Jg,Ls,Ja,Mt,Ni,"ValueError.__new__",x_1,aaZ⟩⟩,
  ⟨⟨L7,q_1,XU,KO,ze,true,MV,B8,Jy,CM,NA,Jg,Ls,Ja,Mt,Ni,"ValueError.__new__",x_1,zi⟩⟩,
  Ij,
  mg_of X G c_2,
  ⟨⟨⟨Mr,Yl,N_2,JB,yI,true,Kt,DD,Nf,CQ,MJ,JG,KW,LU,IS,JI,x_2,t_2⟩⟩,a2,anf,ao7⟩,
  ⟨aps,afl,anQ,k2⟩,
  ⟨⟨Mr,Yl,N_2,JB,yI,Kt,DD,Nf,CQ,MJ,JG,KW,LU,IS,JI,x_2,ahR,amE⟩,anV⟩,
  ⟨am1,akF,akG,aj4⟩,
  ⟨⟨Mr,Yl,N_2,JB,yI,true,Kt,DD,Nf,CQ,MJ,JG,KW,LU,IS,JI,"ValueError.__new__",x_2,XM⟩⟩,
  ⟨⟨Mr,Yl,N_2,JB,yI,true,Kt,DD,Nf,CQ,MJ,JG,KW,LU,IS,JI,"ValueError.__new__",x_2,yq⟩⟩,
  Wz,
  Hd,
  mg_of X G c_3,
  ⟨⟨⟨Jd,q_3,Yu,MW,yy,true,Nn,CY,L0,Ca,LD,Np,Mj,Mg,KS,LB,x_3,t_3⟩⟩,a3,ap1,alJ⟩,
  ⟨ag4,ajJ,af5,k3⟩,
  ⟨⟨Jd,q_3,Yu,MW,yy,Nn,CY,L0,Ca,LD,Np,Mj,Mg,KS,LB,x_3,aoF,afC⟩,aoc⟩,
  ⟨ajM,afG,ajO,ahI⟩,
  ⟨⟨Jd,q_3,Yu,MW,yy,true,Nn,CY,L0,Ca,LD,Np,Mj,Mg,KS,LB,"ValueError.__new__",x_3,XC⟩⟩,
  ⟨⟨Jd,q_3,Yu,MW,yy,true,Nn,CY,L0,Ca,LD,Np,Mj,Mg,KS,LB,"ValueError.__new__",x_3,yN⟩⟩,
  HY,
  mg_of X G c_4,
  ⟨⟨⟨JZ,Y9,N_4,Jf,zu,true,MG,CV,Ms,DK,Jt,LX,MS,Jc,Kb,MY,x_4,t_4⟩⟩,a4,aiy,alE⟩,
  ⟨alg,ahM,alC,k4⟩,
  ⟨⟨JZ,Y9,N_4,Jf,zu,MG,CV,Ms,DK,Jt,LX,MS,Jc,Kb,MY,x_4,aeH,ae6⟩,al4⟩,
  ⟨ae8,apN,anD,ana⟩,
  ⟨⟨JZ,Y9,N_4,Jf,zu,true,MG,CV,Ms,DK,Jt,LX,MS,Jc,Kb,MY,"ValueError.__new__",x_4,X7⟩⟩,
  ⟨⟨JZ,Y9,N_4,Jf,zu,true,MG,CV,Ms,DK,Jt,LX,MS,Jc,Kb,MY,"ValueError.__new__",x_4,yL⟩⟩,
  G_,
  mg_of X G c_5,
  ⟨akd,Xx,aoG,ajT⟩,
  ⟨aqa,a9,i9,agq⟩,
  ⟨agD,akM,aj0,k9⟩,
  Cj,
  Eu,
  ⟨aoC,anl,ai2,apx⟩,
  GH,
  (Tq Uh YF aiw UD),
  mg_of X G c_6,
  ⟨ah_,YF,aof,ai7⟩,
  ⟨aj9,a24,i24,apH⟩,
  Ht,
  Em,
  Cu,
  CT,
  MU,
  E5,
  ⟨ak4,afZ,ag9,aio⟩,
  (Tq DN Xx aob Cc),
  GH,
  fun s v=> .of_eq rfl,
  mg_none_of X G pe,
  mg_none_of X G BH,
  mg_none_of X G uJ,
  mg_none_of X G qj,
  mg_none_of X G Fl,
  mg_none_of X G cO,
  mg_none_of X G ee,
  mg_none_of X G nZ,
  mg_none_of X G zO,
  mg_none_of X G IV,
  mg_none_of X G kg,
  mg_none_of X G fZ,
  mg_none_of X G ny,
  mg_none_of X G CP,
  mg_none_of X G ki,
  ⟨_,⟨_,rfl⟩,mg_of X G Kc⟩,
  ⟨_,⟨_,rfl⟩,mg_of X G A6⟩,
  ⟨_,⟨_,rfl⟩,mg_of X G pO⟩,
  ⟨_,⟨_,rfl⟩,mg_of X G yT⟩⟩⟩
end My
open PySem PySem.W PyProof.Rows
set_option maxRecDepth 100000 in
set_option maxHeartbeats 0 in
theorem PySem.Challenge.cw_framerooms_k15_pictures_and_twins_holds : PySem.Challenge.rw_framerooms_k15_pictures_and_twins.Holds := by
 w_on
 refine holds_law (by decide+kernel) fun ags=> ?_;refine holds_open (q:=My.pW) (loose:=[]) (Xt:=fun s=>xlAt My.pW [] s&&recOk (RowW.records PySem.Challenge.rw_framerooms_k15_pictures_and_twins.row.toRowW) s) (XP:=XL My.pW []) (Yf:=My.pL.obs) (Ya:=My.pL.val) (YP:=Hook.says (kHook My.EF My.Wg My.FH)) My.Ue My.pL.of My.pL.keeps (fun s e=>xl_of s (Bool.and_eq_true_iff.mp e).1) XL.keeps (by rfl) (by rfl) (by rfl) (fun s e=>recFacts_of (Bool.and_eq_true_iff.mp e).2) (by rfl) ags (by decide+kernel) ⟨rfl,rfl,rfl,rfl,rfl,by decide+kernel⟩ ?hw ?hc
 case hw=>w_witness2
 k_fill
 refine My.walk (l:=PySem.Challenge.rw_framerooms_k15_pictures_and_twins) rfl rfl (fun w h Y=>PySem.W.kIn_of Y) ?F
 case F=>
  intro w mg fa h KX G ZD;refine' My.VR KX G ZD ?T
  refine' My.UZ KX G _ _ _ _ _ _ _ _ _ _ _ _ _ _ _ _ _ _ _ _ _ _ _ _ _ _ _ _ _ _ _ _ _ _ _ _ _ _ _ _ _ _ _ _ _ _ _ _ _ _ _ _ _ _ _ _ _ _ _ _ _ _ _ _ _ _ _ _ _ _ _ _ _ _ _ _ _ _ _ _ _ _ _ _ _ _ _ _ _ _ _ _ _ _ _ _ _ _ _ _ _ _ _ _ _ _ _ _ _ _ _ _ _ _ _ _ _ _ _ _ _ _ _ _ _ _ _ _ _ _ _ _ _ _ _ _ _ _ _ _ _ _ _ _ _ _ _ _ _ _ _ _ _ _ _ _ _ _ _ _ _ _ _ _ _ _ _ _ _ _ _ _ _ _ _ _ _ _ _ _ _ _ _ _ _ _ _ _ _ _ _ _ _ _ _ _ _ _ _ _ _ _ _ _ _ _ _ _ _ _ _ _ _ _ _ _ _ _ _ _ _ _ _ _ _ _ _ _ _ _ _ _ _ _ _ _ _ _ _ _ _ _ _ _ _ _ _ _ _ _ _ _ _ _ _ _ _ _ _ _ _ _ _ _ _ _ _ _ _ _ _ _ _ _ _ _ _ _ _ _ _ _ _ _ _ _ _ _ _ _ _ _ _ _ _ _ _ _ _ _ _ _ _ _ _ _ _ _ _ _ _ _ _ _ _ _ _ _ _ _ _ _ _ _ _ _ _ _ _ _ _ _ _ _ _ _ _ _ _ _ _ _ _ _ _ _ _ _ _ _ _ _ _ _ _ _ _ _ _ _ _ _ _ _ _ _ _ _ _ _ _ _ _ _ _ _ _ _ _ _ _ _ _ _ _ _ _ _ _ _ _ _ _ _ _ _ _ _ _ _ _ _ _ _ _ _ _ _ _ _ _ _ _ _ _ _ _ _ _ _ _ _ _ _ _ _ _ _ _ _ _ _ _ _ _ _ _ _ _ _ _ _ _ _ _ _ _ _
  any_goals first|k_is|(show _=_;k_is)|exact⟨rfl,rfl,rfl,rfl⟩|rfl|decide+kernel|(intro self;(repeat rw[refuseLoop_ref]);exact L2.AF self)
