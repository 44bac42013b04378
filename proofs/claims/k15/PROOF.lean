import PyProof.Rows.All
import Wide.All
import OpenK.AllK
import Wide.FinOn
import Lean
import PyProof.EqAt
import PyProof.EqKinds
import PyProof.TupleCall
import PySem.Challenge.RW_framerooms_k15_pictures_and_twins
set_option Elab.async false
set_option linter.all false
set_option maxRecDepth 100000
set_option maxHeartbeats 4000000
open PySem.W (Frag any_some bind_fn callWith_K cellsFrom_some emptyDict findObj_own fnOf handedIn instObj kcp_self kia_one kitOne kitx_dict kitx_list lookIn looks_findIn methodCall_KW methodObj notCls plainGet_of set_plain takerIn)
open PySem.F (args_dict_get_3 args_dict_items_1 entry_dict_get entry_dict_items excBase_ValueError plainAttrs_dict plainAttrs_list slot_dict_get slot_dict_items slot_dict_setdefault type_dict_items)
open PySem in
abbrev aL:=List (Addr×Obj)
open PySem in
abbrev aP:=List (Option Nat)
open PySem in
abbrev aA:=List Value
open PySem in
abbrev aH:=Option Value
open PySem in
abbrev aX:=List Str
open PySem in
abbrev aZ:=List Addr
open PySem in
abbrev cR:=List Expr
namespace L2
open PySem PySem.Spec PyProof.Rows
def jp(s:Stmt)(j:Nat):Stmt:=match s with
 | .ClassDef _ _ _ body _ _ _ _ _ _ _=>body.getD j (.Pass ⟨0,0,0,0⟩)
 |_=> .Pass ⟨0,0,0,0⟩
def oC(s:Stmt):Arguments:=match s with
 | .FunctionDef _ a _ _ _ _ _ _ _ _=>a
 |_=>{posonlyargs:=[],args:=[],vararg:=none,kwonlyargs:=[],kw_defaults:=[],kwarg:=none,defaults:=[]}
def kq(s:Stmt):List Stmt:=match s with
 | .FunctionDef _ _ b _ _ _ _ _ _ _=>b
 |_=>[]
def av(s:Stmt):Scope:=match s with
 | .FunctionDef _ _ _ _ _ _ sc _ _ _=>sc
 |_=>{kind:= .function,names:=[],isGenerator:=false,isCoroutine:=false}
end L2
namespace My
open PySem L2 PyProof.Rows
def top(i:Nat):Stmt:=PySem.Challenge.pw_framerooms_k15_pictures_and_twins.main.body.getD i (.Pass ⟨0,0,0,0⟩)
abbrev cF:Stmt:=(jp (top 1) 0)
abbrev dg:Stmt:=(jp (top 3) 0)
abbrev eK:Stmt:=(jp (top 5) 0)
abbrev d5:Stmt:=(jp (top 9) 0)
abbrev dA:Stmt:=(jp (top 10) 0)
abbrev jg:Stmt:=(top 12)
abbrev kX:Stmt:=(top 13)
abbrev lh:Stmt:=(top 14)
abbrev m9:Stmt:=(top 15)
abbrev dI:Stmt:=(jp (top 19) 0)
abbrev fM:Stmt:=(jp (top 19) 1)
abbrev eR:Stmt:=(jp (top 19) 2)
abbrev gw:Stmt:=(jp (top 19) 3)
abbrev eP:Stmt:=(jp (top 19) 4)
abbrev iK:Stmt:=(jp (top 19) 5)
abbrev dC:Stmt:=(jp (top 19) 7)
abbrev eU:Stmt:=(jp (top 19) 8)
abbrev dv:Stmt:=(jp (top 19) 9)
abbrev fH:Stmt:=(jp (top 19) 10)
abbrev cT:Stmt:=(jp (top 19) 11)
abbrev cM:Stmt:=(jp (top 19) 12)
abbrev cj:Stmt:=(jp (top 19) 13)
abbrev bZ:Stmt:=(jp (top 19) 14)
abbrev b7:Stmt:=(jp (top 19) 15)
abbrev dU:Stmt:=(jp (top 23) 0)
abbrev ig:Stmt:=(jp (top 23) 1)
abbrev jv:Stmt:=(jp (top 23) 2)
abbrev jm:Stmt:=(jp (top 23) 3)
abbrev il:Stmt:=(jp (top 23) 4)
abbrev gg:Stmt:=(jp (top 23) 5)
abbrev iL:Stmt:=(jp (top 23) 6)
abbrev iC:Stmt:=(jp (top 23) 7)
abbrev gx:Stmt:=(jp (top 23) 8)
abbrev dZ:Stmt:=(jp (top 23) 9)
abbrev gv:Stmt:=(jp (top 23) 10)
abbrev eO:Stmt:=(jp (top 23) 11)
abbrev cW:Stmt:=(jp (top 23) 12)
abbrev iD:Stmt:=(jp (top 23) 13)
abbrev fB:Stmt:=(jp (top 23) 14)
abbrev d6:Stmt:=(jp (top 23) 15)
abbrev dJ:Stmt:=(jp (top 23) 16)
abbrev ju:Stmt:=(top 24)
abbrev jB:Stmt:=(top 26)
abbrev lj:Stmt:=(top 27)
abbrev jG:Stmt:=(top 28)
abbrev hU:Stmt:=(top 29)
abbrev eM:Stmt:=(top 30)
abbrev ly:Stmt:=(top 31)
abbrev ix:Stmt:=(top 32)
abbrev gh:Stmt:=(top 33)
abbrev iu:Stmt:=(top 34)
abbrev jd:Stmt:=(top 35)
abbrev jq:Stmt:=(top 36)
abbrev kJ:Stmt:=(top 37)
abbrev ij:Stmt:=(top 38)
abbrev jl:Stmt:=(top 39)
abbrev je:Stmt:=(top 40)
abbrev fC:Stmt:=(top 41)
abbrev jx:Stmt:=(top 42)
abbrev mL:Stmt:=(top 43)
abbrev gp:Stmt:=(top 44)
abbrev g_:Stmt:=(top 45)
abbrev fJ:Stmt:=(top 46)
abbrev cU:Stmt:=(top 47)
abbrev iF:Stmt:=(top 48)
abbrev CW:Stmt:=(top 49)
section hd
open PySem PySem.W PySem.Calls PyProof.Rows
noncomputable section
abbrev aD(x:String)(n:Nat):Value:=Value.str (Str.ofString x) n
abbrev ee(l:Array Value):Obj:={cls:=Value.type "tuple",data:=Data.seq l}
abbrev DZ(l:Array Value):Obj:={cls:=Value.none,data:=Data.fields l}
abbrev zw(l:Array Value):Obj:={cls:=Value.type "code",data:=Data.fields l}
abbrev Ip(a b:String)(n l r u:Nat):Obj:=zw #[aD a n,aD b (n+1),aD "/claim/cut.py" (n+2),.int l 0,.int 0 0,.int 0 0,.int 0 0,.int 0 0,.ref r,.bool false,.int 181 0,.ref (r+1),.none,.none,.none,.none,.int u 0,.int l 0,aD "/claim/cut.py" (u+1)]
abbrev jz(a b:String)(n l p r u:Nat):Obj:=zw #[aD a n,aD b (n+1),aD "/claim/cut.py" (n+2),.int l 0,.int p 0,.int 0 0,.int 0 0,.int 3 0,.ref r,.bool true,.int 181 0,.ref (r+1),.none,.ref (r+2),.ref (r+3),.ref (r+4),.int u 0,.int l 0,aD "/claim/cut.py" (u+1)]
abbrev fh(n q:String)(s:Stmt)(m:String)(k:Nat)(c:Addr):Obj:={cls:=Value.type "function",data:=Data.func {name:=Str.ofString n,qualname:=Str.ofString q,params:=L2.oC s,body:= .stmts (L2.kq s),scope:=L2.av s,globals:=3,closure:=[],defaults:=Value.none,kwdefaults:=Value.none,pyModule:=aD m k,code:=Value.ref c}}
abbrev fi(n q:String)(s:Stmt):Obj:={cls:=Value.none,data:=Data.func {name:=Str.ofString n,qualname:=Str.ofString q,params:=L2.oC s,body:= .stmts (L2.kq s),scope:=L2.av s,globals:=0,closure:=[],defaults:=Value.none,kwdefaults:=Value.none}}
variable(P:Params)
abbrev aI(P:Params)(x:String)(n:Nat)(v:Value):DictEntry:={hash:=PyData.keyHash P (Str.ofString x),key:=Value.str (Str.ofString x) n,val:=v}
abbrev ao:Obj:=ee #[]
abbrev aW:Obj:=DZ #[]
abbrev Pd:Obj:=Ip "<module>" "<module>" 182 1 11 185
abbrev Qe:Obj:={cls:= .type "frame",slots:= #[some (.ref 13),some (.ref 3),some (.ref 3),none,some (aD "__main__" 164),none,some (.ref 0)]}
abbrev hd3:Obj:={cls:= .type "dict",data:=Data.dict #[aI P "__name__" 165 (aD "framerooms.errors" 187),aI P "__doc__" 166 (.none),aI P "__package__" 167 (.none),aI P "__loader__" 168 (.builtin ("__main__.__loader__#opa" ++ "que")),aI P "__spec__" 169 (.none),aI P "__annotations__" 170 (.ref 6),aI P "__builtins__" 171 (.ref 4),aI P "__file__" 173 (aD "/claim/cut.py" 172),aI P "__cached__" 174 (.none),aI P "RoomError" 214 (.ref 31),aI P "NoNumber" 239 (.ref 51),aI P "NoValue" 264 (.ref 70),aI P "NoFrame" 289 (.ref 89),aI P "Gone" 316 (.ref 108),aI P "Ground" 339 (.ref 127),aI P "TooMany" 364 (.ref 146),aI P "Full" 391 (.ref 165),aI P "NoWay" 416 (.ref 184)] 18}
abbrev aaL:Obj:=DZ #[.int 2 0,.int 0 0,.ref 20,.int 6 0,.int 0 0,.ref 40,.int 11 0,.int 0 0,.ref 59,.int 16 0,.int 0 0,.ref 78,.int 21 0,.int 0 0,.ref 97,.int 27 0,.int 0 0,.ref 116,.int 31 0,.int 0 0,.ref 135,.int 36 0,.int 0 0,.ref 154,.int 42 0,.int 0 0,.ref 173]
abbrev Py:Obj:=ee #[.type "ValueError"]
abbrev gq:Obj:={cls:= .type "builtin_function_or_method",data:=Data.fields #[.builtin "type.__prepare__",.type "type"]}
abbrev Uk:Obj:={cls:= .type "dict",data:=Data.dict #[aI P "__module__" 196 (aD "framerooms.errors" 187),aI P "__qualname__" 198 (aD "RoomError" 197),aI P "__firstlineno__" 200 (.int 2 199),aI P "__init__" 208 (.ref 28),aI P "__static_attributes__" 209 (.ref 29)] 5}
abbrev WE:Obj:=DZ #[.int 4 0,.int 4 0,.ref 27]
abbrev Wf:Obj:=Ip "RoomError" "RoomError" 191 2 18 194
abbrev Wy:Obj:={cls:= .type "frame",slots:= #[some (.ref 20),some (.ref 3),some (.ref 17),none,some (aD "framerooms.errors" 187),none,some (.ref 0)]}
abbrev Pj:Obj:=ee #[aD "self" 204,aD "text" 205]
abbrev Vv:Obj:=fi "__init__" "RoomError.__init__" cF
abbrev OM:Obj:=jz "__init__" "RoomError.__init__" 201 4 2 22 206
abbrev P1:Obj:=fh "__init__" "RoomError.__init__" cF "framerooms.errors" 187 27
abbrev N_:Obj:={cls:= .type "dict",data:=Data.dict #[aI P "__module__" 196 (aD "framerooms.errors" 187),aI P "__firstlineno__" 200 (.int 2 199),aI P "__init__" 208 (.ref 28),aI P "__static_attributes__" 209 (.ref 29),aI P "__weakref__" 211 (.ref 32),aI P "__doc__" 212 (.none)] 3}
abbrev agx:Obj:={cls:= .type "type",data:=Data.cls {name:=Str.ofString "RoomError",bases:=[.type "ValueError"],mro:=[.ref 31,.type "ValueError",.type "Exception",.type "BaseException",.type "object"],ns:=30,qualname:=Str.ofString "RoomError",subclasses:=[.ref 51,.ref 70,.ref 89,.ref 108,.ref 127,.ref 146,.ref 165,.ref 184]},slots:= #[some (.ref 15),none,some (aD "RoomError" 189),some (aD "RoomError" 197),some (.builtin "ValueError.__new__"),some (.bool true)]}
abbrev Pn:Obj:={cls:= .type "getset_descriptor",data:=Data.fields #[aD "__weakref__" 210,.ref 31,.builtin "ExceptionGroup.__weakref__",.none]}
abbrev UB:Obj:={cls:= .type "super",data:=Data.fields #[.ref 31,.ref 31,.ref 31]}
abbrev Vg:Obj:={cls:= .type "builtin_function_or_method",data:=Data.fields #[.builtin "object.__init_subclass__",.ref 31]}
abbrev fz:Obj:=ee #[.ref 31]
abbrev V5:Obj:={cls:= .type "dict",data:=Data.dict #[aI P "__module__" 222 (aD "framerooms.errors" 187),aI P "__qualname__" 224 (aD "NoNumber" 223),aI P "__firstlineno__" 226 (.int 6 225),aI P "__init__" 234 (.ref 48),aI P "__static_attributes__" 236 (.ref 49)] 5}
abbrev Ur:Obj:=DZ #[.int 8 0,.int 4 0,.ref 47]
abbrev Va:Obj:=Ip "NoNumber" "NoNumber" 217 6 38 220
abbrev U9:Obj:={cls:= .type "frame",slots:= #[some (.ref 40),some (.ref 3),some (.ref 37),none,some (aD "framerooms.errors" 187),none,some (.ref 0)]}
abbrev O3:Obj:=ee #[aD "self" 230,aD "found" 231]
abbrev Ws:Obj:=fi "__init__" "NoNumber.__init__" (jp (top 2) 0)
abbrev Qd:Obj:=jz "__init__" "NoNumber.__init__" 227 8 2 42 232
abbrev PF:Obj:=fh "__init__" "NoNumber.__init__" (jp (top 2) 0) "framerooms.errors" 187 47
abbrev Ot:Obj:=ee #[aD "found" 235]
abbrev OK:Obj:={cls:= .type "dict",data:=Data.dict #[aI P "__module__" 222 (aD "framerooms.errors" 187),aI P "__firstlineno__" 226 (.int 6 225),aI P "__init__" 234 (.ref 48),aI P "__static_attributes__" 236 (.ref 49),aI P "__doc__" 237 (.none)] 2}
abbrev Qn:Obj:={cls:= .type "type",data:=Data.cls {name:=Str.ofString "NoNumber",bases:=[.ref 31],mro:=[.ref 51,.ref 31,.type "ValueError",.type "Exception",.type "BaseException",.type "object"],ns:=50,qualname:=Str.ofString "NoNumber"},slots:= #[some (.ref 35),none,some (aD "NoNumber" 215),some (aD "NoNumber" 223),some (.builtin "ValueError.__new__"),some (.bool true)]}
abbrev VI:Obj:={cls:= .type "super",data:=Data.fields #[.ref 51,.ref 51,.ref 51]}
abbrev VC:Obj:={cls:= .type "builtin_function_or_method",data:=Data.fields #[.builtin "object.__init_subclass__",.ref 51]}
abbrev Vk:Obj:={cls:= .type "dict",data:=Data.dict #[aI P "__module__" 247 (aD "framerooms.errors" 187),aI P "__qualname__" 249 (aD "NoValue" 248),aI P "__firstlineno__" 251 (.int 11 250),aI P "__init__" 259 (.ref 67),aI P "__static_attributes__" 261 (.ref 68)] 5}
abbrev Wl:Obj:=DZ #[.int 13 0,.int 4 0,.ref 66]
abbrev Vj:Obj:=Ip "NoValue" "NoValue" 242 11 57 245
abbrev V2:Obj:={cls:= .type "frame",slots:= #[some (.ref 59),some (.ref 3),some (.ref 56),none,some (aD "framerooms.errors" 187),none,some (.ref 0)]}
abbrev Pm:Obj:=ee #[aD "self" 255,aD "found" 256]
abbrev UR:Obj:=fi "__init__" "NoValue.__init__" dg
abbrev Ob:Obj:=jz "__init__" "NoValue.__init__" 252 13 2 61 257
abbrev Qm:Obj:=fh "__init__" "NoValue.__init__" dg "framerooms.errors" 187 66
abbrev PM:Obj:=ee #[aD "found" 260]
abbrev N5:Obj:={cls:= .type "dict",data:=Data.dict #[aI P "__module__" 247 (aD "framerooms.errors" 187),aI P "__firstlineno__" 251 (.int 11 250),aI P "__init__" 259 (.ref 67),aI P "__static_attributes__" 261 (.ref 68),aI P "__doc__" 262 (.none)] 2}
abbrev P9:Obj:={cls:= .type "type",data:=Data.cls {name:=Str.ofString "NoValue",bases:=[.ref 31],mro:=[.ref 70,.ref 31,.type "ValueError",.type "Exception",.type "BaseException",.type "object"],ns:=69,qualname:=Str.ofString "NoValue"},slots:= #[some (.ref 54),none,some (aD "NoValue" 240),some (aD "NoValue" 248),some (.builtin "ValueError.__new__"),some (.bool true)]}
abbrev Vc:Obj:={cls:= .type "super",data:=Data.fields #[.ref 70,.ref 70,.ref 70]}
abbrev WI:Obj:={cls:= .type "builtin_function_or_method",data:=Data.fields #[.builtin "object.__init_subclass__",.ref 70]}
abbrev UP:Obj:={cls:= .type "dict",data:=Data.dict #[aI P "__module__" 272 (aD "framerooms.errors" 187),aI P "__qualname__" 274 (aD "NoFrame" 273),aI P "__firstlineno__" 276 (.int 16 275),aI P "__init__" 284 (.ref 86),aI P "__static_attributes__" 286 (.ref 87)] 5}
abbrev Vx:Obj:=DZ #[.int 18 0,.int 4 0,.ref 85]
abbrev Vn:Obj:=Ip "NoFrame" "NoFrame" 267 16 76 270
abbrev UJ:Obj:={cls:= .type "frame",slots:= #[some (.ref 78),some (.ref 3),some (.ref 75),none,some (aD "framerooms.errors" 187),none,some (.ref 0)]}
abbrev Qh:Obj:=ee #[aD "self" 280,aD "found" 281]
abbrev WL:Obj:=fi "__init__" "NoFrame.__init__" (jp (top 4) 0)
abbrev OJ:Obj:=jz "__init__" "NoFrame.__init__" 277 18 2 80 282
abbrev OV:Obj:=fh "__init__" "NoFrame.__init__" (jp (top 4) 0) "framerooms.errors" 187 85
abbrev PV:Obj:=ee #[aD "found" 285]
abbrev Pp:Obj:={cls:= .type "dict",data:=Data.dict #[aI P "__module__" 272 (aD "framerooms.errors" 187),aI P "__firstlineno__" 276 (.int 16 275),aI P "__init__" 284 (.ref 86),aI P "__static_attributes__" 286 (.ref 87),aI P "__doc__" 287 (.none)] 2}
abbrev P6:Obj:={cls:= .type "type",data:=Data.cls {name:=Str.ofString "NoFrame",bases:=[.ref 31],mro:=[.ref 89,.ref 31,.type "ValueError",.type "Exception",.type "BaseException",.type "object"],ns:=88,qualname:=Str.ofString "NoFrame"},slots:= #[some (.ref 73),none,some (aD "NoFrame" 265),some (aD "NoFrame" 273),some (.builtin "ValueError.__new__"),some (.bool true)]}
abbrev VT:Obj:={cls:= .type "super",data:=Data.fields #[.ref 89,.ref 89,.ref 89]}
abbrev VD:Obj:={cls:= .type "builtin_function_or_method",data:=Data.fields #[.builtin "object.__init_subclass__",.ref 89]}
abbrev VU:Obj:={cls:= .type "dict",data:=Data.dict #[aI P "__module__" 297 (aD "framerooms.errors" 187),aI P "__qualname__" 299 (aD "Gone" 298),aI P "__firstlineno__" 301 (.int 21 300),aI P "__init__" 310 (.ref 105),aI P "__static_attributes__" 313 (.ref 106)] 5}
abbrev Uq:Obj:=DZ #[.int 23 0,.int 4 0,.ref 104]
abbrev WG:Obj:=Ip "Gone" "Gone" 292 21 95 295
abbrev VQ:Obj:={cls:= .type "frame",slots:= #[some (.ref 97),some (.ref 3),some (.ref 94),none,some (aD "framerooms.errors" 187),none,some (.ref 0)]}
abbrev FH:Obj:=ee #[aD "self" 305,aD "found" 306,aD "by" 307]
abbrev Mb:Obj:=fi "__init__" "Gone.__init__" eK
abbrev Gx:Obj:=jz "__init__" "Gone.__init__" 302 23 3 99 308
abbrev Gw:Obj:=fh "__init__" "Gone.__init__" eK "framerooms.errors" 187 104
abbrev GD:Obj:=ee #[aD "by" 311,aD "found" 312]
abbrev GG:Obj:={cls:= .type "dict",data:=Data.dict #[aI P "__module__" 297 (aD "framerooms.errors" 187),aI P "__firstlineno__" 301 (.int 21 300),aI P "__init__" 310 (.ref 105),aI P "__static_attributes__" 313 (.ref 106),aI P "__doc__" 314 (.none)] 2}
abbrev Gj:Obj:={cls:= .type "type",data:=Data.cls {name:=Str.ofString "Gone",bases:=[.ref 31],mro:=[.ref 108,.ref 31,.type "ValueError",.type "Exception",.type "BaseException",.type "object"],ns:=107,qualname:=Str.ofString "Gone"},slots:= #[some (.ref 92),none,some (aD "Gone" 290),some (aD "Gone" 298),some (.builtin "ValueError.__new__"),some (.bool true)]}
abbrev Nd:Obj:={cls:= .type "super",data:=Data.fields #[.ref 108,.ref 108,.ref 108]}
abbrev Md:Obj:={cls:= .type "builtin_function_or_method",data:=Data.fields #[.builtin "object.__init_subclass__",.ref 108]}
abbrev La:Obj:={cls:= .type "dict",data:=Data.dict #[aI P "__module__" 324 (aD "framerooms.errors" 187),aI P "__qualname__" 326 (aD "Ground" 325),aI P "__firstlineno__" 328 (.int 27 327),aI P "__init__" 335 (.ref 124),aI P "__static_attributes__" 336 (.ref 125)] 5}
abbrev KS:Obj:=DZ #[.int 29 0,.int 4 0,.ref 123]
abbrev LV:Obj:=Ip "Ground" "Ground" 319 27 114 322
abbrev M_:Obj:={cls:= .type "frame",slots:= #[some (.ref 116),some (.ref 3),some (.ref 113),none,some (aD "framerooms.errors" 187),none,some (.ref 0)]}
abbrev Gy:Obj:=ee #[aD "self" 332]
abbrev Lf:Obj:=fi "__init__" "Ground.__init__" (jp (top 6) 0)
abbrev FT:Obj:=jz "__init__" "Ground.__init__" 329 29 1 118 333
abbrev Fn:Obj:=fh "__init__" "Ground.__init__" (jp (top 6) 0) "framerooms.errors" 187 123
abbrev Fm:Obj:={cls:= .type "dict",data:=Data.dict #[aI P "__module__" 324 (aD "framerooms.errors" 187),aI P "__firstlineno__" 328 (.int 27 327),aI P "__init__" 335 (.ref 124),aI P "__static_attributes__" 336 (.ref 125),aI P "__doc__" 337 (.none)] 2}
abbrev Gv:Obj:={cls:= .type "type",data:=Data.cls {name:=Str.ofString "Ground",bases:=[.ref 31],mro:=[.ref 127,.ref 31,.type "ValueError",.type "Exception",.type "BaseException",.type "object"],ns:=126,qualname:=Str.ofString "Ground"},slots:= #[some (.ref 111),none,some (aD "Ground" 317),some (aD "Ground" 325),some (.builtin "ValueError.__new__"),some (.bool true)]}
abbrev Mh:Obj:={cls:= .type "super",data:=Data.fields #[.ref 127,.ref 127,.ref 127]}
abbrev Ka:Obj:={cls:= .type "builtin_function_or_method",data:=Data.fields #[.builtin "object.__init_subclass__",.ref 127]}
abbrev I_:Obj:={cls:= .type "dict",data:=Data.dict #[aI P "__module__" 347 (aD "framerooms.errors" 187),aI P "__qualname__" 349 (aD "TooMany" 348),aI P "__firstlineno__" 351 (.int 31 350),aI P "__init__" 359 (.ref 143),aI P "__static_attributes__" 361 (.ref 144)] 5}
abbrev MU:Obj:=DZ #[.int 33 0,.int 4 0,.ref 142]
abbrev MK:Obj:=Ip "TooMany" "TooMany" 342 31 133 345
abbrev Kh:Obj:={cls:= .type "frame",slots:= #[some (.ref 135),some (.ref 3),some (.ref 132),none,some (aD "framerooms.errors" 187),none,some (.ref 0)]}
abbrev Gr:Obj:=ee #[aD "self" 355,aD "many" 356]
abbrev K0:Obj:=fi "__init__" "TooMany.__init__" (jp (top 7) 0)
abbrev GJ:Obj:=jz "__init__" "TooMany.__init__" 352 33 2 137 357
abbrev FK:Obj:=fh "__init__" "TooMany.__init__" (jp (top 7) 0) "framerooms.errors" 187 142
abbrev Fq:Obj:=ee #[aD "many" 360]
abbrev Fw:Obj:={cls:= .type "dict",data:=Data.dict #[aI P "__module__" 347 (aD "framerooms.errors" 187),aI P "__firstlineno__" 351 (.int 31 350),aI P "__init__" 359 (.ref 143),aI P "__static_attributes__" 361 (.ref 144),aI P "__doc__" 362 (.none)] 2}
abbrev F8:Obj:={cls:= .type "type",data:=Data.cls {name:=Str.ofString "TooMany",bases:=[.ref 31],mro:=[.ref 146,.ref 31,.type "ValueError",.type "Exception",.type "BaseException",.type "object"],ns:=145,qualname:=Str.ofString "TooMany"},slots:= #[some (.ref 130),none,some (aD "TooMany" 340),some (aD "TooMany" 348),some (.builtin "ValueError.__new__"),some (.bool true)]}
abbrev Nj:Obj:={cls:= .type "super",data:=Data.fields #[.ref 146,.ref 146,.ref 146]}
abbrev L6:Obj:={cls:= .type "builtin_function_or_method",data:=Data.fields #[.builtin "object.__init_subclass__",.ref 146]}
abbrev KZ:Obj:={cls:= .type "dict",data:=Data.dict #[aI P "__module__" 372 (aD "framerooms.errors" 187),aI P "__qualname__" 374 (aD "Full" 373),aI P "__firstlineno__" 376 (.int 36 375),aI P "__init__" 385 (.ref 162),aI P "__static_attributes__" 388 (.ref 163)] 5}
abbrev Lk:Obj:=DZ #[.int 38 0,.int 4 0,.ref 161]
abbrev LY:Obj:=Ip "Full" "Full" 367 36 152 370
abbrev JZ:Obj:={cls:= .type "frame",slots:= #[some (.ref 154),some (.ref 3),some (.ref 151),none,some (aD "framerooms.errors" 187),none,some (.ref 0)]}
abbrev FE:Obj:=ee #[aD "self" 380,aD "need" 381,aD "spare" 382]
abbrev Jv:Obj:=fi "__init__" "Full.__init__" (jp (top 8) 0)
abbrev Ft:Obj:=jz "__init__" "Full.__init__" 377 38 3 156 383
abbrev Ge:Obj:=fh "__init__" "Full.__init__" (jp (top 8) 0) "framerooms.errors" 187 161
abbrev GL:Obj:=ee #[aD "need" 386,aD "spare" 387]
abbrev FU:Obj:={cls:= .type "dict",data:=Data.dict #[aI P "__module__" 372 (aD "framerooms.errors" 187),aI P "__firstlineno__" 376 (.int 36 375),aI P "__init__" 385 (.ref 162),aI P "__static_attributes__" 388 (.ref 163),aI P "__doc__" 389 (.none)] 2}
abbrev FI:Obj:={cls:= .type "type",data:=Data.cls {name:=Str.ofString "Full",bases:=[.ref 31],mro:=[.ref 165,.ref 31,.type "ValueError",.type "Exception",.type "BaseException",.type "object"],ns:=164,qualname:=Str.ofString "Full"},slots:= #[some (.ref 149),none,some (aD "Full" 365),some (aD "Full" 373),some (.builtin "ValueError.__new__"),some (.bool true)]}
abbrev MW:Obj:={cls:= .type "super",data:=Data.fields #[.ref 165,.ref 165,.ref 165]}
abbrev Nr:Obj:={cls:= .type "builtin_function_or_method",data:=Data.fields #[.builtin "object.__init_subclass__",.ref 165]}
abbrev KH:Obj:={cls:= .type "dict",data:=Data.dict #[aI P "__module__" 399 (aD "framerooms.errors" 187),aI P "__qualname__" 401 (aD "NoWay" 400),aI P "__firstlineno__" 403 (.int 42 402),aI P "__init__" 411 (.ref 181),aI P "__static_attributes__" 413 (.ref 182)] 5}
abbrev Nx:Obj:=DZ #[.int 44 0,.int 4 0,.ref 180]
abbrev Mw:Obj:=Ip "NoWay" "NoWay" 394 42 171 397
abbrev LB:Obj:={cls:= .type "frame",slots:= #[some (.ref 173),some (.ref 3),some (.ref 170),none,some (aD "framerooms.errors" 187),none,some (.ref 0)]}
abbrev FY:Obj:=ee #[aD "self" 407,aD "found" 408]
abbrev Jp:Obj:=fi "__init__" "NoWay.__init__" d5
abbrev Fs:Obj:=jz "__init__" "NoWay.__init__" 404 44 2 175 409
abbrev FZ:Obj:=fh "__init__" "NoWay.__init__" d5 "framerooms.errors" 187 180
abbrev Gp:Obj:=ee #[aD "found" 412]
abbrev GH:Obj:={cls:= .type "dict",data:=Data.dict #[aI P "__module__" 399 (aD "framerooms.errors" 187),aI P "__firstlineno__" 403 (.int 42 402),aI P "__init__" 411 (.ref 181),aI P "__static_attributes__" 413 (.ref 182),aI P "__doc__" 414 (.none)] 2}
abbrev Gb:Obj:={cls:= .type "type",data:=Data.cls {name:=Str.ofString "NoWay",bases:=[.ref 31],mro:=[.ref 184,.ref 31,.type "ValueError",.type "Exception",.type "BaseException",.type "object"],ns:=183,qualname:=Str.ofString "NoWay"},slots:= #[some (.ref 168),none,some (aD "NoWay" 392),some (aD "NoWay" 400),some (.builtin "ValueError.__new__"),some (.bool true)]}
abbrev KW:Obj:={cls:= .type "super",data:=Data.fields #[.ref 184,.ref 184,.ref 184]}
abbrev Kr:Obj:={cls:= .type "builtin_function_or_method",data:=Data.fields #[.builtin "object.__init_subclass__",.ref 184]}
abbrev aiY:Obj:={cls:= .type "dict",data:=Data.dict #[aI P "__name__" 165 (aD "framerooms.house" 626),aI P "__doc__" 166 (.none),aI P "__package__" 167 (.none),aI P "__loader__" 168 (.builtin ("__main__.__loader__#opa" ++ "que")),aI P "__spec__" 169 (.none),aI P "__annotations__" 170 (.ref 6),aI P "__builtins__" 171 (.ref 4),aI P "__file__" 173 (aD "/claim/cut.py" 172),aI P "__cached__" 174 (.none),aI P "RoomError" 214 (.ref 31),aI P "NoNumber" 239 (.ref 51),aI P "NoValue" 264 (.ref 70),aI P "NoFrame" 289 (.ref 89),aI P "Gone" 316 (.ref 108),aI P "Ground" 339 (.ref 127),aI P "TooMany" 364 (.ref 146),aI P "Full" 391 (.ref 165),aI P "NoWay" 416 (.ref 184),aI P "NoCell" 441 (.ref 203),aI P "is_number" 450 (.ref 212),aI P "is_whole" 459 (.ref 219),aI P "is_count" 466 (.ref 226),aI P "is_pair" 473 (.ref 233),aI P "GROUND" 477 (.int 0 476),aI P "MOST_FRAMES" 479 (.int 100 478),aI P "Frames" 625 (.ref 349),aI P "MOST_CELLS" 629 (.int 1000 628),aI P "MOST_CELLS_OF_ROOM" 631 (.int 6 630)] 28}
abbrev UK:Obj:=DZ #[.int 2 0,.int 0 0,.ref 20,.int 6 0,.int 0 0,.ref 40,.int 11 0,.int 0 0,.ref 59,.int 16 0,.int 0 0,.ref 78,.int 21 0,.int 0 0,.ref 97,.int 27 0,.int 0 0,.ref 116,.int 31 0,.int 0 0,.ref 135,.int 36 0,.int 0 0,.ref 154,.int 42 0,.int 0 0,.ref 173,.int 47 0,.int 0 0,.ref 192,.int 53 0,.int 0 0,.ref 211,.int 55 0,.int 0 0,.ref 218,.int 57 0,.int 0 0,.ref 225,.int 59 0,.int 0 0,.ref 232,.int 66 0,.int 0 0,.ref 239]
abbrev IM:Obj:={cls:= .type "type",data:=Data.cls {name:=Str.ofString "RoomError",bases:=[.type "ValueError"],mro:=[.ref 31,.type "ValueError",.type "Exception",.type "BaseException",.type "object"],ns:=30,qualname:=Str.ofString "RoomError",subclasses:=[.ref 51,.ref 70,.ref 89,.ref 108,.ref 127,.ref 146,.ref 165,.ref 184,.ref 203]},slots:= #[some (.ref 15),none,some (aD "RoomError" 189),some (aD "RoomError" 197),some (.builtin "ValueError.__new__"),some (.bool true)]}
abbrev RF:Obj:={cls:= .type "dict",data:=Data.dict #[aI P "__module__" 424 (aD "framerooms.errors" 187),aI P "__qualname__" 426 (aD "NoCell" 425),aI P "__firstlineno__" 428 (.int 47 427),aI P "__init__" 436 (.ref 200),aI P "__static_attributes__" 438 (.ref 201)] 5}
abbrev Te:Obj:=DZ #[.int 49 0,.int 4 0,.ref 199]
abbrev SN:Obj:=Ip "NoCell" "NoCell" 419 47 190 422
abbrev RK:Obj:={cls:= .type "frame",slots:= #[some (.ref 192),some (.ref 3),some (.ref 189),none,some (aD "framerooms.errors" 187),none,some (.ref 0)]}
abbrev Kk:Obj:=ee #[aD "self" 432,aD "found" 433]
abbrev So:Obj:=fi "__init__" "NoCell.__init__" dA
abbrev Jh:Obj:=jz "__init__" "NoCell.__init__" 429 49 2 194 434
abbrev JH:Obj:=fh "__init__" "NoCell.__init__" dA "framerooms.errors" 187 199
abbrev Lc:Obj:=ee #[aD "found" 437]
abbrev MZ:Obj:={cls:= .type "dict",data:=Data.dict #[aI P "__module__" 424 (aD "framerooms.errors" 187),aI P "__firstlineno__" 428 (.int 47 427),aI P "__init__" 436 (.ref 200),aI P "__static_attributes__" 438 (.ref 201),aI P "__doc__" 439 (.none)] 2}
abbrev Lg:Obj:={cls:= .type "type",data:=Data.cls {name:=Str.ofString "NoCell",bases:=[.ref 31],mro:=[.ref 203,.ref 31,.type "ValueError",.type "Exception",.type "BaseException",.type "object"],ns:=202,qualname:=Str.ofString "NoCell"},slots:= #[some (.ref 187),none,some (aD "NoCell" 417),some (aD "NoCell" 425),some (.builtin "ValueError.__new__"),some (.bool true)]}
abbrev Sa:Obj:={cls:= .type "super",data:=Data.fields #[.ref 203,.ref 203,.ref 203]}
abbrev RC:Obj:={cls:= .type "builtin_function_or_method",data:=Data.fields #[.builtin "object.__init_subclass__",.ref 203]}
abbrev Nu:Obj:=ee #[aD "thing" 447]
abbrev Sx:Obj:=fi "is_number" "is_number" jg
abbrev Kl:Obj:=jz "is_number" "is_number" 444 53 1 206 448
abbrev KO:Obj:=fh "is_number" "is_number" jg "framerooms.words" 442 211
abbrev Jq:Obj:=ee #[aD "thing" 454,aD "low" 455,aD "high" 456]
abbrev Sn:Obj:=fi "is_whole" "is_whole" kX
abbrev Jg:Obj:=jz "is_whole" "is_whole" 451 55 3 213 457
abbrev Kc:Obj:=fh "is_whole" "is_whole" kX "framerooms.words" 442 218
abbrev LZ:Obj:=ee #[aD "thing" 463]
abbrev QE:Obj:=fi "is_count" "is_count" lh
abbrev Mz:Obj:=jz "is_count" "is_count" 460 57 1 220 464
abbrev IT:Obj:=fh "is_count" "is_count" lh "framerooms.words" 442 225
abbrev J_:Obj:=ee #[aD "thing" 470]
abbrev RZ:Obj:=fi "is_pair" "is_pair" m9
abbrev Jw:Obj:=jz "is_pair" "is_pair" 467 59 1 227 471
abbrev Ji:Obj:=fh "is_pair" "is_pair" m9 "framerooms.words" 442 232
abbrev Sq:Obj:={cls:= .type "dict",data:=Data.dict #[aI P "__module__" 487 (aD "framerooms.frames" 474),aI P "__qualname__" 489 (aD "Frames" 488),aI P "__firstlineno__" 491 (.int 66 490),aI P "__init__" 498 (.ref 247),aI P "begin" 506 (.ref 254),aI P "finish" 516 (.ref 261),aI P "part" 522 (.ref 266),aI P "inside" 530 (.ref 273),aI P "row" 540 (.ref 280),aI P "within" 546 (.ref 285),aI P "ended_by" 554 (.ref 292),aI P "stands" 562 (.ref 299),aI P "standing" 568 (.ref 304),aI P "begun" 575 (.ref 311),aI P "was_begun" 583 (.ref 318),aI P "want_begun" 591 (.ref 325),aI P "want_standing" 599 (.ref 332),aI P "want_beginning" 607 (.ref 339),aI P "want_finishing" 615 (.ref 346),aI P "__static_attributes__" 618 (.ref 347)] 20}
abbrev Tv:Obj:=DZ #[.int 68 0,.int 4 0,.ref 246,.int 72 0,.int 4 0,.ref 253,.int 78 0,.int 4 0,.ref 260,.int 85 0,.int 4 0,.ref 265,.int 88 0,.int 4 0,.ref 272,.int 92 0,.int 4 0,.ref 279,.int 101 0,.int 4 0,.ref 284,.int 105 0,.int 4 0,.ref 291,.int 109 0,.int 4 0,.ref 298,.int 112 0,.int 4 0,.ref 303,.int 115 0,.int 4 0,.ref 310,.int 118 0,.int 4 0,.ref 317,.int 121 0,.int 4 0,.ref 324,.int 125 0,.int 4 0,.ref 331,.int 130 0,.int 4 0,.ref 338,.int 135 0,.int 4 0,.ref 345]
abbrev Tj:Obj:=Ip "Frames" "Frames" 482 66 237 485
abbrev SD:Obj:={cls:= .type "frame",slots:= #[some (.ref 239),some (.ref 3),some (.ref 236),none,some (aD "framerooms.frames" 474),none,some (.ref 0)]}
abbrev Ki:Obj:=ee #[aD "self" 495]
abbrev Ti:Obj:=fi "__init__" "Frames.__init__" dI
abbrev LF:Obj:=jz "__init__" "Frames.__init__" 492 68 1 241 496
abbrev LH:Obj:=fh "__init__" "Frames.__init__" dI "framerooms.frames" 474 246
abbrev Mi:Obj:=ee #[aD "self" 502,aD "frame" 503]
abbrev Rk:Obj:=fi "begin" "Frames.begin" fM
abbrev KJ:Obj:=jz "begin" "Frames.begin" 499 72 2 248 504
abbrev KG:Obj:=fh "begin" "Frames.begin" fM "framerooms.frames" 474 253
abbrev Jd:Obj:=ee #[aD "self" 510,aD "frame" 511,aD "ended" 512,aD "number" 513]
abbrev TN:Obj:=fi "finish" "Frames.finish" eR
abbrev Ja:Obj:=jz "finish" "Frames.finish" 507 78 2 255 514
abbrev Nf:Obj:=fh "finish" "Frames.finish" eR "framerooms.frames" 474 260
abbrev R_:Obj:=fi "part" "Frames.part" gw
abbrev IP:Obj:=zw #[aD "part" 517,aD "Frames.part" 518,aD "/claim/cut.py" 519,.int 85 0,.int 2 0,.int 0 0,.int 0 0,.int 3 0,.ref 262,.bool true,.int 181 0,.ref 263,.none,.none,.none,.ref 264,.int 520 0,.int 85 0,aD "/claim/cut.py" 521]
abbrev KI:Obj:=fh "part" "Frames.part" gw "framerooms.frames" 474 265
abbrev Lx:Obj:=ee #[aD "self" 526,aD "frame" 527]
abbrev Tb:Obj:=fi "inside" "Frames.inside" eP
abbrev LQ:Obj:=jz "inside" "Frames.inside" 523 88 2 267 528
abbrev MQ:Obj:=fh "inside" "Frames.inside" eP "framerooms.frames" 474 272
abbrev JI:Obj:=ee #[aD "self" 534,aD "frame" 535,aD "outward" 536,aD "step" 537]
abbrev RO:Obj:=fi "row" "Frames.row" iK
abbrev Js:Obj:=jz "row" "Frames.row" 531 92 2 274 538
abbrev Nm:Obj:=fh "row" "Frames.row" iK "framerooms.frames" 474 279
abbrev R5:Obj:=fi "within" "Frames.within" (jp (top 19) 6)
abbrev Mu:Obj:=zw #[aD "within" 541,aD "Frames.within" 542,aD "/claim/cut.py" 543,.int 101 0,.int 2 0,.int 0 0,.int 0 0,.int 3 0,.ref 281,.bool true,.int 181 0,.ref 282,.none,.none,.none,.ref 283,.int 544 0,.int 101 0,aD "/claim/cut.py" 545]
abbrev IS:Obj:=fh "within" "Frames.within" (jp (top 19) 6) "framerooms.frames" 474 284
abbrev Ky:Obj:=ee #[aD "self" 550,aD "frame" 551]
abbrev QS:Obj:=fi "ended_by" "Frames.ended_by" dC
abbrev Kn:Obj:=jz "ended_by" "Frames.ended_by" 547 105 2 286 552
abbrev Jt:Obj:=fh "ended_by" "Frames.ended_by" dC "framerooms.frames" 474 291
abbrev K2:Obj:=ee #[aD "self" 558,aD "thing" 559]
abbrev Q0:Obj:=fi "stands" "Frames.stands" eU
abbrev Lp:Obj:=jz "stands" "Frames.stands" 555 109 2 293 560
abbrev Jj:Obj:=fh "stands" "Frames.stands" eU "framerooms.frames" 474 298
abbrev Q7:Obj:=fi "standing" "Frames.standing" dv
abbrev Jk:Obj:=zw #[aD "standing" 563,aD "Frames.standing" 564,aD "/claim/cut.py" 565,.int 112 0,.int 1 0,.int 0 0,.int 0 0,.int 3 0,.ref 300,.bool true,.int 181 0,.ref 301,.none,.none,.none,.ref 302,.int 566 0,.int 112 0,aD "/claim/cut.py" 567]
abbrev JN:Obj:=fh "standing" "Frames.standing" dv "framerooms.frames" 474 303
abbrev Nw:Obj:=ee #[aD "self" 572]
abbrev Tp:Obj:=fi "begun" "Frames.begun" fH
abbrev Kf:Obj:=jz "begun" "Frames.begun" 569 115 1 305 573
abbrev Jx:Obj:=fh "begun" "Frames.begun" fH "framerooms.frames" 474 310
abbrev J8:Obj:=ee #[aD "self" 579,aD "thing" 580]
abbrev Sb:Obj:=fi "was_begun" "Frames.was_begun" cT
abbrev JM:Obj:=jz "was_begun" "Frames.was_begun" 576 118 2 312 581
abbrev JL:Obj:=fh "was_begun" "Frames.was_begun" cT "framerooms.frames" 474 317
abbrev MJ:Obj:=ee #[aD "self" 587,aD "thing" 588]
abbrev QU:Obj:=fi "want_begun" "Frames.want_begun" cM
abbrev L3:Obj:=jz "want_begun" "Frames.want_begun" 584 121 2 319 589
abbrev Mm:Obj:=fh "want_begun" "Frames.want_begun" cM "framerooms.frames" 474 324
abbrev Lz:Obj:=ee #[aD "self" 595,aD "thing" 596]
abbrev Q5:Obj:=fi "want_standing" "Frames.want_standing" cj
abbrev K9:Obj:=jz "want_standing" "Frames.want_standing" 592 125 2 326 597
abbrev Jc:Obj:=fh "want_standing" "Frames.want_standing" cj "framerooms.frames" 474 331
abbrev JO:Obj:=ee #[aD "self" 603,aD "thing" 604]
abbrev QM:Obj:=fi "want_beginning" "Frames.want_beginning" bZ
abbrev LJ:Obj:=jz "want_beginning" "Frames.want_beginning" 600 130 2 333 605
abbrev JU:Obj:=fh "want_beginning" "Frames.want_beginning" bZ "framerooms.frames" 474 338
abbrev KR:Obj:=ee #[aD "self" 611,aD "thing" 612]
abbrev RM:Obj:=fi "want_finishing" "Frames.want_finishing" b7
abbrev MY:Obj:=jz "want_finishing" "Frames.want_finishing" 608 135 2 340 613
abbrev Nz:Obj:=fh "want_finishing" "Frames.want_finishing" b7 "framerooms.frames" 474 345
abbrev Ld:Obj:=ee #[aD "parents" 616,aD "takers" 617]
abbrev Lh:Obj:={cls:= .type "dict",data:=Data.dict #[aI P "__module__" 487 (aD "framerooms.frames" 474),aI P "__firstlineno__" 491 (.int 66 490),aI P "__init__" 498 (.ref 247),aI P "begin" 506 (.ref 254),aI P "finish" 516 (.ref 261),aI P "part" 522 (.ref 266),aI P "inside" 530 (.ref 273),aI P "row" 540 (.ref 280),aI P "within" 546 (.ref 285),aI P "ended_by" 554 (.ref 292),aI P "stands" 562 (.ref 299),aI P "standing" 568 (.ref 304),aI P "begun" 575 (.ref 311),aI P "was_begun" 583 (.ref 318),aI P "want_begun" 591 (.ref 325),aI P "want_standing" 599 (.ref 332),aI P "want_beginning" 607 (.ref 339),aI P "want_finishing" 615 (.ref 346),aI P "__static_attributes__" 618 (.ref 347),aI P "__dict__" 620 (.ref 350),aI P "__weakref__" 622 (.ref 351),aI P "__doc__" 623 (.none)] 4}
abbrev aco:Obj:={cls:= .type "type",data:=Data.cls {name:=Str.ofString "Frames",bases:=[.type "object"],mro:=[.ref 349,.type "object"],ns:=348,qualname:=Str.ofString "Frames"},slots:= #[none,none,some (aD "Frames" 480),some (aD "Frames" 488),some (.builtin "object.__new__"),some (.bool true)]}
abbrev LS:Obj:={cls:= .type "getset_descriptor",data:=Data.fields #[aD "__dict__" 619,.ref 349,.builtin "function.__dict__",.builtin "function.__dict__#set"]}
abbrev LD:Obj:={cls:= .type "getset_descriptor",data:=Data.fields #[aD "__weakref__" 621,.ref 349,.builtin "ExceptionGroup.__weakref__",.none]}
abbrev Td:Obj:={cls:= .type "super",data:=Data.fields #[.ref 349,.ref 349,.ref 349]}
abbrev QP:Obj:={cls:= .type "builtin_function_or_method",data:=Data.fields #[.builtin "object.__init_subclass__",.ref 349]}
abbrev Rx:Obj:={cls:= .type "dict",data:=Data.dict #[aI P "__name__" 165 (aD "law_framerooms_k15_pictures_and_twins" 793),aI P "__doc__" 166 (.none),aI P "__package__" 167 (.none),aI P "__loader__" 168 (.builtin ("__main__.__loader__#opa" ++ "que")),aI P "__spec__" 169 (.none),aI P "__annotations__" 170 (.ref 6),aI P "__builtins__" 171 (.ref 4),aI P "__file__" 173 (aD "/claim/cut.py" 172),aI P "__cached__" 174 (.none),aI P "RoomError" 214 (.ref 31),aI P "NoNumber" 239 (.ref 51),aI P "NoValue" 264 (.ref 70),aI P "NoFrame" 289 (.ref 89),aI P "Gone" 316 (.ref 108),aI P "Ground" 339 (.ref 127),aI P "TooMany" 364 (.ref 146),aI P "Full" 391 (.ref 165),aI P "NoWay" 416 (.ref 184),aI P "NoCell" 441 (.ref 203),aI P "is_number" 450 (.ref 212),aI P "is_whole" 459 (.ref 219),aI P "is_count" 466 (.ref 226),aI P "is_pair" 473 (.ref 233),aI P "GROUND" 477 (.int 0 476),aI P "MOST_FRAMES" 479 (.int 100 478),aI P "Frames" 625 (.ref 349),aI P "MOST_CELLS" 629 (.int 1000 628),aI P "MOST_CELLS_OF_ROOM" 631 (.int 6 630),aI P "House" 784 (.ref 472),aI P "want_cell" 792 (.ref 481),aI P "_law_cell" 802 (.ref 488),aI P "_law_box" 809 (.ref 495),aI P "_law_take" 820 (.ref 502),aI P "_law_house" 827 (.ref 509),aI P "_law_standing" 833 (.ref 514),aI P "_law_row" 842 (.ref 521),aI P "_law_begin" 850 (.ref 528),aI P "_law_finish" 856 (.ref 533),aI P "_law_given" 862 (.ref 538),aI P "_law_used" 868 (.ref 543),aI P "_law_make" 874 (.ref 548),aI P "_law_one" 884 (.ref 555),aI P "_law_value" 894 (.ref 562),aI P "_law_here" 900 (.ref 567),aI P "_law_deed" 915 (.ref 574),aI P "_law_picture" 921 (.ref 579),aI P "_law_copy" 927 (.ref 584),aI P "_law_by" 937 (.ref 591),aI P "_law_caught" 949 (.ref 598),aI P "_law_apart" 955 (.ref 603),aI P "_law_no_cell" 966 (.ref 610),aI P "_law_rooms_right" 977 (.ref 617),aI P "_law_right" 983 (.ref 622),aI P "law" 989 (.ref 627)] 54}
abbrev OC:Obj:=DZ #[.int 2 0,.int 0 0,.ref 20,.int 6 0,.int 0 0,.ref 40,.int 11 0,.int 0 0,.ref 59,.int 16 0,.int 0 0,.ref 78,.int 21 0,.int 0 0,.ref 97,.int 27 0,.int 0 0,.ref 116,.int 31 0,.int 0 0,.ref 135,.int 36 0,.int 0 0,.ref 154,.int 42 0,.int 0 0,.ref 173,.int 47 0,.int 0 0,.ref 192,.int 53 0,.int 0 0,.ref 211,.int 55 0,.int 0 0,.ref 218,.int 57 0,.int 0 0,.ref 225,.int 59 0,.int 0 0,.ref 232,.int 66 0,.int 0 0,.ref 239,.int 142 0,.int 0 0,.ref 359,.int 230 0,.int 0 0,.ref 480,.int 234 0,.int 0 0,.ref 487,.int 238 0,.int 0 0,.ref 494,.int 240 0,.int 0 0,.ref 501,.int 249 0,.int 0 0,.ref 508,.int 251 0,.int 0 0,.ref 513,.int 253 0,.int 0 0,.ref 520,.int 258 0,.int 0 0,.ref 527,.int 262 0,.int 0 0,.ref 532,.int 267 0,.int 0 0,.ref 537,.int 269 0,.int 0 0,.ref 542,.int 271 0,.int 0 0,.ref 547,.int 277 0,.int 0 0,.ref 554,.int 281 0,.int 0 0,.ref 561,.int 287 0,.int 0 0,.ref 566,.int 289 0,.int 0 0,.ref 573,.int 309 0,.int 0 0,.ref 578,.int 315 0,.int 0 0,.ref 583,.int 321 0,.int 0 0,.ref 590,.int 328 0,.int 0 0,.ref 597,.int 340 0,.int 0 0,.ref 602,.int 348 0,.int 0 0,.ref 609,.int 355 0,.int 0 0,.ref 616,.int 366 0,.int 0 0,.ref 621,.int 383 0,.int 0 0,.ref 626]
abbrev LW:Obj:={cls:= .type "type",data:=Data.cls {name:=Str.ofString "Frames",bases:=[.type "object"],mro:=[.ref 349,.type "object"],ns:=348,qualname:=Str.ofString "Frames",subclasses:=[.ref 472]},slots:= #[none,none,some (aD "Frames" 480),some (aD "Frames" 488),some (.builtin "object.__new__"),some (.bool true)]}
abbrev SH:Obj:=ee #[.ref 349]
abbrev Yh:Obj:={cls:= .type "dict",data:=Data.dict #[aI P "__module__" 639 (aD "framerooms.house" 626),aI P "__qualname__" 641 (aD "House" 640),aI P "__firstlineno__" 643 (.int 142 642),aI P "__init__" 651 (.ref 367),aI P "make" 663 (.ref 374),aI P "get" 673 (.ref 381),aI P "put" 684 (.ref 388),aI P "size" 692 (.ref 395),aI P "cells" 700 (.ref 402),aI P "used" 706 (.ref 407),aI P "left" 713 (.ref 414),aI P "limit" 720 (.ref 421),aI P "greatest" 727 (.ref 428),aI P "rooms" 733 (.ref 433),aI P "picture" 739 (.ref 438),aI P "picture_of" 745 (.ref 443),aI P "twin" 751 (.ref 448),aI P "is_way" 759 (.ref 455),aI P "is_value" 767 (.ref 462),aI P "want_room" 776 (.ref 469),aI P "__static_attributes__" 781 (.ref 470)] 21}
abbrev acu:Obj:=DZ #[.int 144 0,.int 4 0,.ref 366,.int 153 0,.int 4 0,.ref 373,.int 167 0,.int 4 0,.ref 380,.int 172 0,.int 4 0,.ref 387,.int 179 0,.int 4 0,.ref 394,.int 182 0,.int 4 0,.ref 401,.int 185 0,.int 4 0,.ref 406,.int 188 0,.int 4 0,.ref 413,.int 191 0,.int 4 0,.ref 420,.int 194 0,.int 4 0,.ref 427,.int 197 0,.int 4 0,.ref 432,.int 201 0,.int 4 0,.ref 437,.int 204 0,.int 4 0,.ref 442,.int 207 0,.int 4 0,.ref 447,.int 217 0,.int 4 0,.ref 454,.int 220 0,.int 4 0,.ref 461,.int 223 0,.int 4 0,.ref 468]
abbrev ab0:Obj:=Ip "House" "House" 634 142 357 637
abbrev Zk:Obj:={cls:= .type "frame",slots:= #[some (.ref 359),some (.ref 3),some (.ref 356),none,some (aD "framerooms.house" 626),none,some (.ref 0)]}
abbrev Rp:Obj:=ee #[aD "self" 647,aD "limit" 648]
abbrev ZF:Obj:=fi "__init__" "House.__init__" dU
abbrev QK:Obj:=jz "__init__" "House.__init__" 644 144 2 361 649
abbrev Uc:Obj:=fh "__init__" "House.__init__" dU "framerooms.house" 626 366
abbrev R0:Obj:=ee #[aD "self" 655,aD "frame" 656,aD "size" 657,aD "spare" 658,aD "place" 659,aD "floor" 660]
abbrev X_:Obj:=fi "make" "House.make" ig
abbrev S6:Obj:=jz "make" "House.make" 652 153 3 368 661
abbrev Sj:Obj:=fh "make" "House.make" ig "framerooms.house" 626 373
abbrev T5:Obj:=ee #[aD "self" 667,aD "way" 668,aD "k" 669,aD "room" 670]
abbrev XW:Obj:=fi "get" "House.get" jv
abbrev Q4:Obj:=jz "get" "House.get" 664 167 3 375 671
abbrev QJ:Obj:=fh "get" "House.get" jv "framerooms.house" 626 380
abbrev QB:Obj:=ee #[aD "self" 677,aD "way" 678,aD "k" 679,aD "value" 680,aD "room" 681]
abbrev X3:Obj:=fi "put" "House.put" jm
abbrev TH:Obj:=jz "put" "House.put" 674 172 4 382 682
abbrev S_:Obj:=fh "put" "House.put" jm "framerooms.house" 626 387
abbrev R3:Obj:=ee #[aD "self" 688,aD "way" 689]
abbrev acb:Obj:=fi "size" "House.size" il
abbrev SX:Obj:=jz "size" "House.size" 685 179 2 389 690
abbrev Tt:Obj:=fh "size" "House.size" il "framerooms.house" 626 394
abbrev Tw:Obj:=ee #[aD "self" 696,aD "way" 697]
abbrev acm:Obj:=fi "cells" "House.cells" gg
abbrev QF:Obj:=jz "cells" "House.cells" 693 182 2 396 698
abbrev Rl:Obj:=fh "cells" "House.cells" gg "framerooms.house" 626 401
abbrev abJ:Obj:=fi "used" "House.used" iL
abbrev T6:Obj:=zw #[aD "used" 701,aD "House.used" 702,aD "/claim/cut.py" 703,.int 185 0,.int 1 0,.int 0 0,.int 0 0,.int 3 0,.ref 403,.bool true,.int 181 0,.ref 404,.none,.none,.none,.ref 405,.int 704 0,.int 185 0,aD "/claim/cut.py" 705]
abbrev QW:Obj:=fh "used" "House.used" iL "framerooms.house" 626 406
abbrev SW:Obj:=ee #[aD "self" 710]
abbrev Z_:Obj:=fi "left" "House.left" iC
abbrev Si:Obj:=jz "left" "House.left" 707 188 1 408 711
abbrev SU:Obj:=fh "left" "House.left" iC "framerooms.house" 626 413
abbrev QV:Obj:=ee #[aD "self" 717]
abbrev abo:Obj:=fi "limit" "House.limit" gx
abbrev SG:Obj:=jz "limit" "House.limit" 714 191 1 415 718
abbrev QD:Obj:=fh "limit" "House.limit" gx "framerooms.house" 626 420
abbrev To:Obj:=ee #[aD "self" 724]
abbrev aac:Obj:=fi "greatest" "House.greatest" dZ
abbrev S2:Obj:=jz "greatest" "House.greatest" 721 194 1 422 725
abbrev SY:Obj:=fh "greatest" "House.greatest" dZ "framerooms.house" 626 427
abbrev Zx:Obj:=fi "rooms" "House.rooms" gv
abbrev T3:Obj:=zw #[aD "rooms" 728,aD "House.rooms" 729,aD "/claim/cut.py" 730,.int 197 0,.int 2 0,.int 0 0,.int 0 0,.int 3 0,.ref 429,.bool true,.int 181 0,.ref 430,.none,.none,.none,.ref 431,.int 731 0,.int 197 0,aD "/claim/cut.py" 732]
abbrev RN:Obj:=fh "rooms" "House.rooms" gv "framerooms.house" 626 432
abbrev aau:Obj:=fi "picture" "House.picture" eO
abbrev Sy:Obj:=zw #[aD "picture" 734,aD "House.picture" 735,aD "/claim/cut.py" 736,.int 201 0,.int 1 0,.int 0 0,.int 0 0,.int 3 0,.ref 434,.bool true,.int 181 0,.ref 435,.none,.none,.none,.ref 436,.int 737 0,.int 201 0,aD "/claim/cut.py" 738]
abbrev T4:Obj:=fh "picture" "House.picture" eO "framerooms.house" 626 437
abbrev YR:Obj:=fi "picture_of" "House.picture_of" cW
abbrev Rb:Obj:=zw #[aD "picture_of" 740,aD "House.picture_of" 741,aD "/claim/cut.py" 742,.int 204 0,.int 2 0,.int 0 0,.int 0 0,.int 3 0,.ref 439,.bool true,.int 181 0,.ref 440,.none,.none,.none,.ref 441,.int 743 0,.int 204 0,aD "/claim/cut.py" 744]
abbrev R7:Obj:=fh "picture_of" "House.picture_of" cW "framerooms.house" 626 442
abbrev ZR:Obj:=fi "twin" "House.twin" iD
abbrev Ro:Obj:=zw #[aD "twin" 746,aD "House.twin" 747,aD "/claim/cut.py" 748,.int 207 0,.int 1 0,.int 0 0,.int 0 0,.int 3 0,.ref 444,.bool true,.int 181 0,.ref 445,.none,.none,.none,.ref 446,.int 749 0,.int 207 0,aD "/claim/cut.py" 750]
abbrev Ug:Obj:=fh "twin" "House.twin" iD "framerooms.house" 626 447
abbrev Tn:Obj:=ee #[aD "self" 755,aD "thing" 756]
abbrev acx:Obj:=fi "is_way" "House.is_way" fB
abbrev Rf:Obj:=jz "is_way" "House.is_way" 752 217 2 449 757
abbrev RE:Obj:=fh "is_way" "House.is_way" fB "framerooms.house" 626 454
abbrev RG:Obj:=ee #[aD "self" 763,aD "thing" 764]
abbrev abB:Obj:=fi "is_value" "House.is_value" d6
abbrev Ta:Obj:=jz "is_value" "House.is_value" 760 220 2 456 765
abbrev TX:Obj:=fh "is_value" "House.is_value" d6 "framerooms.house" 626 461
abbrev QX:Obj:=ee #[aD "self" 771,aD "thing" 772,aD "taker" 773]
abbrev aas:Obj:=fi "want_room" "House.want_room" dJ
abbrev QO:Obj:=jz "want_room" "House.want_room" 768 223 2 463 774
abbrev S0:Obj:=fh "want_room" "House.want_room" dJ "framerooms.house" 626 468
abbrev RX:Obj:=ee #[aD "bound" 777,aD "floors" 778,aD "lengths" 779,aD "peak" 780]
abbrev SQ:Obj:={cls:= .type "dict",data:=Data.dict #[aI P "__module__" 639 (aD "framerooms.house" 626),aI P "__firstlineno__" 643 (.int 142 642),aI P "__init__" 651 (.ref 367),aI P "make" 663 (.ref 374),aI P "get" 673 (.ref 381),aI P "put" 684 (.ref 388),aI P "size" 692 (.ref 395),aI P "cells" 700 (.ref 402),aI P "used" 706 (.ref 407),aI P "left" 713 (.ref 414),aI P "limit" 720 (.ref 421),aI P "greatest" 727 (.ref 428),aI P "rooms" 733 (.ref 433),aI P "picture" 739 (.ref 438),aI P "picture_of" 745 (.ref 443),aI P "twin" 751 (.ref 448),aI P "is_way" 759 (.ref 455),aI P "is_value" 767 (.ref 462),aI P "want_room" 776 (.ref 469),aI P "__static_attributes__" 781 (.ref 470),aI P "__doc__" 782 (.none)] 2}
abbrev Tq:Obj:={cls:= .type "type",data:=Data.cls {name:=Str.ofString "House",bases:=[.ref 349],mro:=[.ref 472,.ref 349,.type "object"],ns:=471,qualname:=Str.ofString "House"},slots:= #[some (.ref 354),none,some (aD "House" 632),some (aD "House" 640),some (.builtin "object.__new__"),some (.bool true)]}
abbrev acN:Obj:={cls:= .type "super",data:=Data.fields #[.ref 472,.ref 472,.ref 472]}
abbrev acL:Obj:={cls:= .type "builtin_function_or_method",data:=Data.fields #[.builtin "object.__init_subclass__",.ref 472]}
abbrev Tu:Obj:=ee #[aD "room" 788,aD "thing" 789]
abbrev aaO:Obj:=fi "want_cell" "want_cell" ju
abbrev QR:Obj:=jz "want_cell" "want_cell" 785 230 2 475 790
abbrev SV:Obj:=fh "want_cell" "want_cell" ju "framerooms.house" 626 480
abbrev Ts:Obj:=ee #[aD "_law_script" 798,aD "_law_k" 799]
abbrev ZD:Obj:=fi "_law_cell" "_law_cell" jB
abbrev SS:Obj:=jz "_law_cell" "_law_cell" 795 234 2 482 800
abbrev TF:Obj:=fh "_law_cell" "_law_cell" jB "law_framerooms_k15_pictures_and_twins" 793 487
abbrev RH:Obj:=ee #[aD "_law_cell_here" 806]
abbrev acs:Obj:=fi "_law_box" "_law_box" lj
abbrev T8:Obj:=jz "_law_box" "_law_box" 803 238 1 489 807
abbrev RU:Obj:=fh "_law_box" "_law_box" lj "law_framerooms_k15_pictures_and_twins" 793 494
abbrev Qz:Obj:=ee #[aD "_law_box_here" 813,aD "_law_many" 814,aD "_law_digit" 815,aD "_law_one_here" 816,aD "_law_other" 817]
abbrev XH:Obj:=fi "_law_take" "_law_take" jG
abbrev S3:Obj:=jz "_law_take" "_law_take" 810 240 2 496 818
abbrev Ub:Obj:=fh "_law_take" "_law_take" jG "law_framerooms_k15_pictures_and_twins" 793 501
abbrev Ra:Obj:=ee #[aD "_law_limit" 824]
abbrev aaA:Obj:=fi "_law_house" "_law_house" hU
abbrev SJ:Obj:=jz "_law_house" "_law_house" 821 249 1 503 825
abbrev Rc:Obj:=fh "_law_house" "_law_house" hU "law_framerooms_k15_pictures_and_twins" 793 508
abbrev Y3:Obj:=fi "_law_standing" "_law_standing" eM
abbrev RA:Obj:=zw #[aD "_law_standing" 828,aD "_law_standing" 829,aD "/claim/cut.py" 830,.int 251 0,.int 1 0,.int 0 0,.int 0 0,.int 3 0,.ref 510,.bool true,.int 181 0,.ref 511,.none,.none,.none,.ref 512,.int 831 0,.int 251 0,aD "/claim/cut.py" 832]
abbrev Ry:Obj:=fh "_law_standing" "_law_standing" eM "law_framerooms_k15_pictures_and_twins" 793 513
abbrev S7:Obj:=ee #[aD "_law_model" 837,aD "_law_frame" 838,aD "_law_found" 839]
abbrev ZH:Obj:=fi "_law_row" "_law_row" ly
abbrev Th:Obj:=jz "_law_row" "_law_row" 834 253 2 515 840
abbrev TQ:Obj:=fh "_law_row" "_law_row" ly "law_framerooms_k15_pictures_and_twins" 793 520
abbrev Su:Obj:=ee #[aD "_law_model" 846,aD "_law_frame" 847]
abbrev Zs:Obj:=fi "_law_begin" "_law_begin" ix
abbrev TB:Obj:=jz "_law_begin" "_law_begin" 843 258 2 522 848
abbrev Tr:Obj:=fh "_law_begin" "_law_begin" ix "law_framerooms_k15_pictures_and_twins" 793 527
abbrev YY:Obj:=fi "_law_finish" "_law_finish" gh
abbrev Tz:Obj:=zw #[aD "_law_finish" 851,aD "_law_finish" 852,aD "/claim/cut.py" 853,.int 262 0,.int 2 0,.int 0 0,.int 0 0,.int 3 0,.ref 529,.bool true,.int 181 0,.ref 530,.none,.none,.none,.ref 531,.int 854 0,.int 262 0,aD "/claim/cut.py" 855]
abbrev R1:Obj:=fh "_law_finish" "_law_finish" gh "law_framerooms_k15_pictures_and_twins" 793 532
abbrev abO:Obj:=fi "_law_given" "_law_given" iu
abbrev Ue:Obj:=zw #[aD "_law_given" 857,aD "_law_given" 858,aD "/claim/cut.py" 859,.int 267 0,.int 2 0,.int 0 0,.int 0 0,.int 3 0,.ref 534,.bool true,.int 181 0,.ref 535,.none,.none,.none,.ref 536,.int 860 0,.int 267 0,aD "/claim/cut.py" 861]
abbrev QT:Obj:=fh "_law_given" "_law_given" iu "law_framerooms_k15_pictures_and_twins" 793 537
abbrev aaQ:Obj:=fi "_law_used" "_law_used" jd
abbrev SK:Obj:=zw #[aD "_law_used" 863,aD "_law_used" 864,aD "/claim/cut.py" 865,.int 269 0,.int 1 0,.int 0 0,.int 0 0,.int 3 0,.ref 539,.bool true,.int 181 0,.ref 540,.none,.none,.none,.ref 541,.int 866 0,.int 269 0,aD "/claim/cut.py" 867]
abbrev Rw:Obj:=fh "_law_used" "_law_used" jd "law_framerooms_k15_pictures_and_twins" 793 542
abbrev acM:Obj:=fi "_law_make" "_law_make" jq
abbrev TJ:Obj:=zw #[aD "_law_make" 869,aD "_law_make" 870,aD "/claim/cut.py" 871,.int 271 0,.int 3 0,.int 0 0,.int 0 0,.int 3 0,.ref 544,.bool true,.int 181 0,.ref 545,.none,.none,.none,.ref 546,.int 872 0,.int 271 0,aD "/claim/cut.py" 873]
abbrev Q_:Obj:=fh "_law_make" "_law_make" jq "law_framerooms_k15_pictures_and_twins" 793 547
abbrev S5:Obj:=ee #[aD "_law_box_here" 878,aD "_law_some" 879,aD "_law_way" 880,aD "_law_at" 881]
abbrev acP:Obj:=fi "_law_one" "_law_one" kJ
abbrev RD:Obj:=jz "_law_one" "_law_one" 875 277 2 549 882
abbrev Ru:Obj:=fh "_law_one" "_law_one" kJ "law_framerooms_k15_pictures_and_twins" 793 554
abbrev Rq:Obj:=ee #[aD "_law_box_here" 888,aD "_law_model" 889,aD "_law_way" 890,aD "_law_number" 891]
abbrev YS:Obj:=fi "_law_value" "_law_value" ij
abbrev Tf:Obj:=jz "_law_value" "_law_value" 885 281 2 556 892
abbrev SO:Obj:=fh "_law_value" "_law_value" ij "law_framerooms_k15_pictures_and_twins" 793 561
abbrev aaz:Obj:=fi "_law_here" "_law_here" jl
abbrev TZ:Obj:=zw #[aD "_law_here" 895,aD "_law_here" 896,aD "/claim/cut.py" 897,.int 287 0,.int 1 0,.int 0 0,.int 0 0,.int 3 0,.ref 563,.bool true,.int 181 0,.ref 564,.none,.none,.none,.ref 565,.int 898 0,.int 287 0,aD "/claim/cut.py" 899]
abbrev Q6:Obj:=fh "_law_here" "_law_here" jl "law_framerooms_k15_pictures_and_twins" 793 566
abbrev RT:Obj:=ee #[aD "_law_box_here" 904,aD "_law_house_here" 905,aD "_law_model" 906,aD "_law_act" 907,aD "_law_frame" 908,aD "_law_size" 909,aD "_law_way" 910,aD "_law_k" 911,aD "_law_value_here" 912]
abbrev YH:Obj:=fi "_law_deed" "_law_deed" je
abbrev QZ:Obj:=jz "_law_deed" "_law_deed" 901 289 3 568 913
abbrev Sz:Obj:=fh "_law_deed" "_law_deed" je "law_framerooms_k15_pictures_and_twins" 793 573
abbrev aaP:Obj:=fi "_law_picture" "_law_picture" fC
abbrev Sl:Obj:=zw #[aD "_law_picture" 916,aD "_law_picture" 917,aD "/claim/cut.py" 918,.int 309 0,.int 1 0,.int 0 0,.int 0 0,.int 3 0,.ref 575,.bool true,.int 181 0,.ref 576,.none,.none,.none,.ref 577,.int 919 0,.int 309 0,aD "/claim/cut.py" 920]
abbrev TM:Obj:=fh "_law_picture" "_law_picture" fC "law_framerooms_k15_pictures_and_twins" 793 578
abbrev acK:Obj:=fi "_law_copy" "_law_copy" jx
abbrev Tx:Obj:=zw #[aD "_law_copy" 922,aD "_law_copy" 923,aD "/claim/cut.py" 924,.int 315 0,.int 1 0,.int 0 0,.int 0 0,.int 3 0,.ref 580,.bool true,.int 181 0,.ref 581,.none,.none,.none,.ref 582,.int 925 0,.int 315 0,aD "/claim/cut.py" 926]
abbrev RI:Obj:=fh "_law_copy" "_law_copy" jx "law_framerooms_k15_pictures_and_twins" 793 583
abbrev QG:Obj:=ee #[aD "_law_house_here" 931,aD "_law_way" 932,aD "_law_found" 933,aD "e" 934]
abbrev ZM:Obj:=fi "_law_by" "_law_by" mL
abbrev T9:Obj:=jz "_law_by" "_law_by" 928 321 2 585 935
abbrev Q8:Obj:=fh "_law_by" "_law_by" mL "law_framerooms_k15_pictures_and_twins" 793 590
abbrev Rz:Obj:=ee #[aD "_law_house_here" 941,aD "_law_rooms" 942,aD "_law_way" 943,aD "_law_found" 944,aD "e" 945,aD "_law_room" 946]
abbrev aaF:Obj:=fi "_law_caught" "_law_caught" gp
abbrev TL:Obj:=jz "_law_caught" "_law_caught" 938 328 3 592 947
abbrev SR:Obj:=fh "_law_caught" "_law_caught" gp "law_framerooms_k15_pictures_and_twins" 793 597
abbrev YK:Obj:=fi "_law_apart" "_law_apart" g_
abbrev T_:Obj:=zw #[aD "_law_apart" 950,aD "_law_apart" 951,aD "/claim/cut.py" 952,.int 340 0,.int 3 0,.int 0 0,.int 0 0,.int 3 0,.ref 599,.bool true,.int 181 0,.ref 600,.none,.none,.none,.ref 601,.int 953 0,.int 340 0,aD "/claim/cut.py" 954]
abbrev RP:Obj:=fh "_law_apart" "_law_apart" g_ "law_framerooms_k15_pictures_and_twins" 793 602
abbrev TK:Obj:=ee #[aD "_law_house_here" 959,aD "_law_way" 960,aD "_law_k" 961,aD "_law_found" 962,aD "e" 963]
abbrev Y_:Obj:=fi "_law_no_cell" "_law_no_cell" fJ
abbrev Rh:Obj:=jz "_law_no_cell" "_law_no_cell" 956 348 3 604 964
abbrev Qy:Obj:=fh "_law_no_cell" "_law_no_cell" fJ "law_framerooms_k15_pictures_and_twins" 793 609
abbrev RB:Obj:=ee #[aD "_law_house_here" 970,aD "_law_model" 971,aD "_law_k" 972,aD "_law_way" 973,aD "_law_cells" 974]
abbrev Ys:Obj:=fi "_law_rooms_right" "_law_rooms_right" cU
abbrev Uh:Obj:=jz "_law_rooms_right" "_law_rooms_right" 967 355 2 611 975
abbrev Sh:Obj:=fh "_law_rooms_right" "_law_rooms_right" cU "law_framerooms_k15_pictures_and_twins" 793 616
abbrev abv:Obj:=fi "_law_right" "_law_right" iF
abbrev SE:Obj:=zw #[aD "_law_right" 978,aD "_law_right" 979,aD "/claim/cut.py" 980,.int 366 0,.int 2 0,.int 0 0,.int 0 0,.int 3 0,.ref 618,.bool true,.int 181 0,.ref 619,.none,.none,.none,.ref 620,.int 981 0,.int 366 0,aD "/claim/cut.py" 982]
abbrev R4:Obj:=fh "_law_right" "_law_right" iF "law_framerooms_k15_pictures_and_twins" 793 621
abbrev X1:Obj:=fi "law" "law" CW
abbrev Sk:Obj:=zw #[aD "law" 984,aD "law" 985,aD "/claim/cut.py" 986,.int 383 0,.int 1 0,.int 0 0,.int 0 0,.int 3 0,.ref 623,.bool true,.int 181 0,.ref 624,.none,.none,.none,.ref 625,.int 987 0,.int 383 0,aD "/claim/cut.py" 988]
abbrev Q1:Obj:=fh "law" "law" CW "law_framerooms_k15_pictures_and_twins" 793 626
def qJ:Heap:=⟨⟨[boot_o_0 P,boot_o_1 P,boot_o_2 P,boot_o_3 P,boot_o_4 P,boot_o_5 P,boot_o_6 P,boot_o_7 P,boot_o_8 P,boot_o_9 P,boot_o_10 P,ao,aW,Pd,Qe]⟩,{}⟩
def xp:Heap:=⟨⟨[boot_o_0 P,boot_o_1 P,boot_o_2 P,hd3 P,boot_o_4 P,boot_o_5 P,boot_o_6 P,boot_o_7 P,boot_o_8 P,boot_o_9 P,boot_o_10 P,ao,aaL,Pd,Qe,Py,gq,Uk P,ao,WE,Wf,Wy,ao,aW,Pj,ao,Vv,OM,P1,ao,N_ P,agx,Pn,UB,Vg,fz,gq,V5 P,ao,Ur,Va,U9,ao,aW,O3,ao,Ws,Qd,PF,Ot,OK P,Qn,VI,VC,fz,gq,Vk P,ao,Wl,Vj,V2,ao,aW,Pm,ao,UR,Ob,Qm,PM,N5 P,P9,Vc,WI,fz,gq,UP P,ao,Vx,Vn,UJ,ao,aW,Qh,ao,WL,OJ,OV,PV,Pp P,P6,VT,VD,fz,gq,VU P,ao,Uq,WG,VQ,ao,aW,FH,ao,Mb,Gx,Gw,GD,GG P,Gj,Nd,Md,fz,gq,La P,ao,KS,LV,M_,ao,aW,Gy,ao,Lf,FT,Fn,ao,Fm P,Gv,Mh,Ka,fz,gq,I_ P,ao,MU,MK,Kh,ao,aW,Gr,ao,K0,GJ,FK,Fq,Fw P,F8,Nj,L6,fz,gq,KZ P,ao,Lk,LY,JZ,ao,aW,FE,ao,Jv,Ft,Ge,GL,FU P,FI,MW,Nr,fz,gq,KH P,ao,Nx,Mw,LB,ao,aW,FY,ao,Jp,Fs,FZ,Gp,GH P,Gb,KW,Kr]⟩,{}⟩
def va:Heap:=⟨⟨[boot_o_0 P,boot_o_1 P,boot_o_2 P,aiY P,boot_o_4 P,boot_o_5 P,boot_o_6 P,boot_o_7 P,boot_o_8 P,boot_o_9 P,boot_o_10 P,ao,UK,Pd,Qe,Py,gq,Uk P,ao,WE,Wf,Wy,ao,aW,Pj,ao,Vv,OM,P1,ao,N_ P,IM,Pn,UB,Vg,fz,gq,V5 P,ao,Ur,Va,U9,ao,aW,O3,ao,Ws,Qd,PF,Ot,OK P,Qn,VI,VC,fz,gq,Vk P,ao,Wl,Vj,V2,ao,aW,Pm,ao,UR,Ob,Qm,PM,N5 P,P9,Vc,WI,fz,gq,UP P,ao,Vx,Vn,UJ,ao,aW,Qh,ao,WL,OJ,OV,PV,Pp P,P6,VT,VD,fz,gq,VU P,ao,Uq,WG,VQ,ao,aW,FH,ao,Mb,Gx,Gw,GD,GG P,Gj,Nd,Md,fz,gq,La P,ao,KS,LV,M_,ao,aW,Gy,ao,Lf,FT,Fn,ao,Fm P,Gv,Mh,Ka,fz,gq,I_ P,ao,MU,MK,Kh,ao,aW,Gr,ao,K0,GJ,FK,Fq,Fw P,F8,Nj,L6,fz,gq,KZ P,ao,Lk,LY,JZ,ao,aW,FE,ao,Jv,Ft,Ge,GL,FU P,FI,MW,Nr,fz,gq,KH P,ao,Nx,Mw,LB,ao,aW,FY,ao,Jp,Fs,FZ,Gp,GH P,Gb,KW,Kr,fz,gq,RF P,ao,Te,SN,RK,ao,aW,Kk,ao,So,Jh,JH,Lc,MZ P,Lg,Sa,RC,ao,aW,Nu,ao,Sx,Kl,KO,ao,aW,Jq,ao,Sn,Jg,Kc,ao,aW,LZ,ao,QE,Mz,IT,ao,aW,J_,ao,RZ,Jw,Ji,ao,gq,Sq P,ao,Tv,Tj,SD,ao,aW,Ki,ao,Ti,LF,LH,ao,aW,Mi,ao,Rk,KJ,KG,ao,aW,Jd,ao,TN,Ja,Nf,ao,aW,R_,IP,KI,ao,aW,Lx,ao,Tb,LQ,MQ,ao,aW,JI,ao,RO,Js,Nm,ao,aW,R5,Mu,IS,ao,aW,Ky,ao,QS,Kn,Jt,ao,aW,K2,ao,Q0,Lp,Jj,ao,aW,Q7,Jk,JN,ao,aW,Nw,ao,Tp,Kf,Jx,ao,aW,J8,ao,Sb,JM,JL,ao,aW,MJ,ao,QU,L3,Mm,ao,aW,Lz,ao,Q5,K9,Jc,ao,aW,JO,ao,QM,LJ,JU,ao,aW,KR,ao,RM,MY,Nz,Ld,Lh P,aco,LS,LD,Td,QP]⟩,{}⟩
def cB:Heap:=⟨⟨[boot_o_0 P,boot_o_1 P,boot_o_2 P,Rx P,boot_o_4 P,boot_o_5 P,boot_o_6 P,boot_o_7 P,boot_o_8 P,boot_o_9 P,boot_o_10 P,ao,OC,Pd,Qe,Py,gq,Uk P,ao,WE,Wf,Wy,ao,aW,Pj,ao,Vv,OM,P1,ao,N_ P,IM,Pn,UB,Vg,fz,gq,V5 P,ao,Ur,Va,U9,ao,aW,O3,ao,Ws,Qd,PF,Ot,OK P,Qn,VI,VC,fz,gq,Vk P,ao,Wl,Vj,V2,ao,aW,Pm,ao,UR,Ob,Qm,PM,N5 P,P9,Vc,WI,fz,gq,UP P,ao,Vx,Vn,UJ,ao,aW,Qh,ao,WL,OJ,OV,PV,Pp P,P6,VT,VD,fz,gq,VU P,ao,Uq,WG,VQ,ao,aW,FH,ao,Mb,Gx,Gw,GD,GG P,Gj,Nd,Md,fz,gq,La P,ao,KS,LV,M_,ao,aW,Gy,ao,Lf,FT,Fn,ao,Fm P,Gv,Mh,Ka,fz,gq,I_ P,ao,MU,MK,Kh,ao,aW,Gr,ao,K0,GJ,FK,Fq,Fw P,F8,Nj,L6,fz,gq,KZ P,ao,Lk,LY,JZ,ao,aW,FE,ao,Jv,Ft,Ge,GL,FU P,FI,MW,Nr,fz,gq,KH P,ao,Nx,Mw,LB,ao,aW,FY,ao,Jp,Fs,FZ,Gp,GH P,Gb,KW,Kr,fz,gq,RF P,ao,Te,SN,RK,ao,aW,Kk,ao,So,Jh,JH,Lc,MZ P,Lg,Sa,RC,ao,aW,Nu,ao,Sx,Kl,KO,ao,aW,Jq,ao,Sn,Jg,Kc,ao,aW,LZ,ao,QE,Mz,IT,ao,aW,J_,ao,RZ,Jw,Ji,ao,gq,Sq P,ao,Tv,Tj,SD,ao,aW,Ki,ao,Ti,LF,LH,ao,aW,Mi,ao,Rk,KJ,KG,ao,aW,Jd,ao,TN,Ja,Nf,ao,aW,R_,IP,KI,ao,aW,Lx,ao,Tb,LQ,MQ,ao,aW,JI,ao,RO,Js,Nm,ao,aW,R5,Mu,IS,ao,aW,Ky,ao,QS,Kn,Jt,ao,aW,K2,ao,Q0,Lp,Jj,ao,aW,Q7,Jk,JN,ao,aW,Nw,ao,Tp,Kf,Jx,ao,aW,J8,ao,Sb,JM,JL,ao,aW,MJ,ao,QU,L3,Mm,ao,aW,Lz,ao,Q5,K9,Jc,ao,aW,JO,ao,QM,LJ,JU,ao,aW,KR,ao,RM,MY,Nz,Ld,Lh P,LW,LS,LD,Td,QP,SH,gq,Yh P,ao,acu,ab0,Zk,ao,aW,Rp,ao,ZF,QK,Uc,ao,aW,R0,ao,X_,S6,Sj,ao,aW,T5,ao,XW,Q4,QJ,ao,aW,QB,ao,X3,TH,S_,ao,aW,R3,ao,acb,SX,Tt,ao,aW,Tw,ao,acm,QF,Rl,ao,aW,abJ,T6,QW,ao,aW,SW,ao,Z_,Si,SU,ao,aW,QV,ao,abo,SG,QD,ao,aW,To,ao,aac,S2,SY,ao,aW,Zx,T3,RN,ao,aW,aau,Sy,T4,ao,aW,YR,Rb,R7,ao,aW,ZR,Ro,Ug,ao,aW,Tn,ao,acx,Rf,RE,ao,aW,RG,ao,abB,Ta,TX,ao,aW,QX,ao,aas,QO,S0,RX,SQ P,Tq,acN,acL,ao,aW,Tu,ao,aaO,QR,SV,ao,aW,Ts,ao,ZD,SS,TF,ao,aW,RH,ao,acs,T8,RU,ao,aW,Qz,ao,XH,S3,Ub,ao,aW,Ra,ao,aaA,SJ,Rc,ao,aW,Y3,RA,Ry,ao,aW,S7,ao,ZH,Th,TQ,ao,aW,Su,ao,Zs,TB,Tr,ao,aW,YY,Tz,R1,ao,aW,abO,Ue,QT,ao,aW,aaQ,SK,Rw,ao,aW,acM,TJ,Q_,ao,aW,S5,ao,acP,RD,Ru,ao,aW,Rq,ao,YS,Tf,SO,ao,aW,aaz,TZ,Q6,ao,aW,RT,ao,YH,QZ,Sz,ao,aW,aaP,Sl,TM,ao,aW,acK,Tx,RI,ao,aW,QG,ao,ZM,T9,Q8,ao,aW,Rz,ao,aaF,TL,SR,ao,aW,YK,T_,RP,ao,aW,TK,ao,Y_,Rh,Qy,ao,aW,RB,ao,Ys,Uh,Sh,ao,aW,abv,SE,R4,ao,aW,X1,Sk,Q1]⟩,{}⟩
end
noncomputable abbrev oi:Program:=PySem.Challenge.rw_framerooms_k15_pictures_and_twins.row.prog
noncomputable def sT:Env:={scope:=oi.main.scope,locals:=mainNs,globals:=mainNs,cells:=[],code:=Value.ref 13,frame:=some 14}
noncomputable def z6:List Stmt:=behindTheImports oi
noncomputable def DR:Code:=Code.body z6 sT
def nk:aH:=some (Value.ref 6)
abbrev Ni:Pos:={line:=0,col:=0,endLine:=0,endCol:=0}
theorem Mo(w:World)(os:OsState):topGo treeTable oi w 11 nk 12 ⟨boot_heap w.params,⟨[]⟩,boot_drawn,boot_toks,os⟩ (topStub oi)=some (⟨qJ w.params,⟨[]⟩,{},187,os⟩,⟨denote treeTable DR,DR,{line:=0,col:=0,endLine:=0,endCol:=0},[topFrame Ni]⟩):=by kernel_rfl
theorem Ey(w:World)(os:OsState):segRun treeTable oi w 11 nk 1 1 ⟨qJ w.params,⟨[]⟩,{},187,os⟩ (blockOf z6 sT DR {line:=0,col:=0,endLine:=0,endCol:=0} [topFrame Ni])=some (.next,⟨qJ w.params,⟨[]⟩,{},187,os⟩,DR,{line:=0,col:=0,endLine:=0,endCol:=0}):=by kernel_rfl
theorem Up(w:World)(os:OsState):segRun treeTable oi w 11 nk 1 2189 ⟨qJ w.params,⟨[]⟩,{},187,os⟩ (piecesOf ((z6.drop 0).take 10) sT DR {line:=0,col:=0,endLine:=0,endCol:=0} [topFrame Ni])=some (.next,⟨xp w.params,⟨[]⟩,{},417,os⟩,DR,{line:=42,col:=0,endLine:=46,endCol:=26}):=by kernel_rfl
theorem N7(w:World)(os:OsState):segRun treeTable oi w 11 nk 1 1120 ⟨xp w.params,⟨[]⟩,{},417,os⟩ (piecesOf ((z6.drop 10).take 13) sT DR {line:=42,col:=0,endLine:=46,endCol:=26} [topFrame Ni])=some (.next,⟨va w.params,⟨[]⟩,{},632,os⟩,DR,{line:=141,col:=0,endLine:=141,endCol:=18}):=by kernel_rfl
theorem PN(w:World)(os:OsState):segRun treeTable oi w 11 nk 1 1488 ⟨va w.params,⟨[]⟩,{},632,os⟩ (piecesOf ((z6.drop 23).take 27) sT DR {line:=141,col:=0,endLine:=141,endCol:=18} [topFrame Ni])=some (.next,⟨cB w.params,⟨[]⟩,{},990,os⟩,DR,{line:=383,col:=0,endLine:=407,endCol:=108}):=by kernel_rfl
theorem Jz(w:World)(os:OsState):topRun treeTable oi w 11 nk 2 ⟨cB w.params,⟨[]⟩,{},990,os⟩ ⟨doneF .next,DR,{line:=383,col:=0,endLine:=407,endCol:=108},[topFrame Ni]⟩=some ⟨cB w.params,⟨[]⟩,{},990,os⟩:=by kernel_rfl
theorem aci(w:World)(os:OsState):topRun treeTable oi w 11 nk 2 ⟨cB w.params,⟨[]⟩,{},990,os⟩ (restOf [] sT DR {line:=383,col:=0,endLine:=407,endCol:=108} [topFrame Ni])=some ⟨cB w.params,⟨[]⟩,{},990,os⟩:=piece_nil (Jz w os)
theorem aal:z6.drop 50=[]:=by kernel_rfl
theorem G6:((z6.drop 23).take 27)++([])=z6.drop 23:=by rw[←aal];have:=List.take_append_drop 27 (z6.drop 23);rwa[List.drop_drop] at this
theorem Kb(w:World)(os:OsState):topRun treeTable oi w 11 nk (1488+2) ⟨va w.params,⟨[]⟩,{},632,os⟩ (restOf (z6.drop 23) sT DR {line:=141,col:=0,endLine:=141,endCol:=18} [topFrame Ni])=some ⟨cB w.params,⟨[]⟩,{},990,os⟩:=by rw[←G6];exact piece_app (PN w os) (aci w os)
theorem HF:((z6.drop 10).take 13)++(z6.drop 23)=z6.drop 10:=by have:=List.take_append_drop 13 (z6.drop 10);rwa[List.drop_drop] at this
theorem MG(w:World)(os:OsState):topRun treeTable oi w 11 nk (1120+(1488+2)) ⟨xp w.params,⟨[]⟩,{},417,os⟩ (restOf (z6.drop 10) sT DR {line:=42,col:=0,endLine:=46,endCol:=26} [topFrame Ni])=some ⟨cB w.params,⟨[]⟩,{},990,os⟩:=by rw[←HF];exact piece_app (N7 w os) (Kb w os)
theorem Mt:((z6.drop 0).take 10)++(z6.drop 10)=z6.drop 0:=by have:=List.take_append_drop 10 (z6.drop 0);rwa[List.drop_drop] at this
theorem N4(w:World)(os:OsState):topRun treeTable oi w 11 nk (2189+(1120+(1488+2))) ⟨qJ w.params,⟨[]⟩,{},187,os⟩ (restOf (z6.drop 0) sT DR {line:=0,col:=0,endLine:=0,endCol:=0} [topFrame Ni])=some ⟨cB w.params,⟨[]⟩,{},990,os⟩:=by rw[←Mt];exact piece_app (Up w os) (MG w os)
theorem UZ(w:World)(os:OsState):topRun treeTable oi w 11 nk (1+(2189+(1120+(1488+2)))) ⟨qJ w.params,⟨[]⟩,{},187,os⟩ ⟨denote treeTable DR,DR,{line:=0,col:=0,endLine:=0,endCol:=0},[topFrame Ni]⟩=some ⟨cB w.params,⟨[]⟩,{},990,os⟩:=piece_block (Ey w os) (N4 w os)
theorem Zr(w:World)(os:OsState):topRun treeTable oi w 11 nk (12+(1+(2189+(1120+(1488+2))))) ⟨boot_heap w.params,⟨[]⟩,boot_drawn,boot_toks,os⟩ (topStub oi)=some ⟨cB w.params,⟨[]⟩,{},990,os⟩:=go_top (Mo w os) (UZ w os)
end hd
noncomputable def Ee:PySem.Params→Frag:=fun P=>(nat_lit 2,PySem.W.boot_o_2 P)::(nat_lit 3,Rx P)::(nat_lit 15,Py)::(nat_lit 22,ao)::(nat_lit 24,Pj)::(nat_lit 25,ao)::(nat_lit 27,OM)::(nat_lit 28,P1)::(nat_lit 29,ao)::(nat_lit 30,N_ P)::(nat_lit 31,IM)::(nat_lit 32,Pn)::(nat_lit 35,fz)::(nat_lit 42,ao)::(nat_lit 44,O3)::(nat_lit 45,ao)::(nat_lit 47,Qd)::(nat_lit 48,PF)::(nat_lit 49,Ot)::(nat_lit 50,OK P)::(nat_lit 51,Qn)::(nat_lit 54,fz)::(nat_lit 61,ao)::(nat_lit 63,Pm)::(nat_lit 64,ao)::(nat_lit 66,Ob)::(nat_lit 67,Qm)::(nat_lit 68,PM)::(nat_lit 69,N5 P)::(nat_lit 70,P9)::(nat_lit 73,fz)::(nat_lit 80,ao)::(nat_lit 82,Qh)::(nat_lit 83,ao)::(nat_lit 85,OJ)::(nat_lit 86,OV)::(nat_lit 87,PV)::(nat_lit 88,Pp P)::(nat_lit 89,P6)::(nat_lit 92,fz)::(nat_lit 99,ao)::(nat_lit 101,FH)::(nat_lit 102,ao)::(nat_lit 104,Gx)::(nat_lit 105,Gw)::(nat_lit 106,GD)::(nat_lit 107,GG P)::(nat_lit 108,Gj)::(nat_lit 111,fz)::(nat_lit 118,ao)::(nat_lit 120,Gy)::(nat_lit 121,ao)::(nat_lit 123,FT)::(nat_lit 124,Fn)::(nat_lit 125,ao)::(nat_lit 126,Fm P)::(nat_lit 127,Gv)::(nat_lit 130,fz)::(nat_lit 137,ao)::(nat_lit 139,Gr)::(nat_lit 140,ao)::(nat_lit 142,GJ)::(nat_lit 143,FK)::(nat_lit 144,Fq)::(nat_lit 145,Fw P)::(nat_lit 146,F8)::(nat_lit 149,fz)::(nat_lit 156,ao)::(nat_lit 158,FE)::(nat_lit 159,ao)::(nat_lit 161,Ft)::(nat_lit 162,Ge)::(nat_lit 163,GL)::(nat_lit 164,FU P)::(nat_lit 165,FI)::(nat_lit 168,fz)::(nat_lit 175,ao)::(nat_lit 177,FY)::(nat_lit 178,ao)::(nat_lit 180,Fs)::(nat_lit 181,FZ)::(nat_lit 182,Gp)::(nat_lit 183,GH P)::(nat_lit 184,Gb)::(nat_lit 187,fz)::(nat_lit 194,ao)::(nat_lit 196,Kk)::(nat_lit 197,ao)::(nat_lit 199,Jh)::(nat_lit 200,JH)::(nat_lit 201,Lc)::(nat_lit 202,MZ P)::(nat_lit 203,Lg)::(nat_lit 206,ao)::(nat_lit 208,Nu)::(nat_lit 209,ao)::(nat_lit 211,Kl)::(nat_lit 212,KO)::(nat_lit 213,ao)::(nat_lit 215,Jq)::(nat_lit 216,ao)::(nat_lit 218,Jg)::(nat_lit 219,Kc)::(nat_lit 220,ao)::(nat_lit 222,LZ)::(nat_lit 223,ao)::(nat_lit 225,Mz)::(nat_lit 226,IT)::(nat_lit 227,ao)::(nat_lit 229,J_)::(nat_lit 230,ao)::(nat_lit 232,Jw)::(nat_lit 233,Ji)::(nat_lit 241,ao)::(nat_lit 243,Ki)::(nat_lit 244,ao)::(nat_lit 246,LF)::(nat_lit 247,LH)::(nat_lit 248,ao)::(nat_lit 250,Mi)::(nat_lit 251,ao)::(nat_lit 253,KJ)::(nat_lit 254,KG)::(nat_lit 255,ao)::(nat_lit 257,Jd)::(nat_lit 258,ao)::(nat_lit 260,Ja)::(nat_lit 261,Nf)::(nat_lit 262,ao)::(nat_lit 265,IP)::(nat_lit 266,KI)::(nat_lit 267,ao)::(nat_lit 269,Lx)::(nat_lit 270,ao)::(nat_lit 272,LQ)::(nat_lit 273,MQ)::(nat_lit 274,ao)::(nat_lit 276,JI)::(nat_lit 277,ao)::(nat_lit 279,Js)::(nat_lit 280,Nm)::(nat_lit 281,ao)::(nat_lit 284,Mu)::(nat_lit 285,IS)::(nat_lit 286,ao)::(nat_lit 288,Ky)::(nat_lit 289,ao)::(nat_lit 291,Kn)::(nat_lit 292,Jt)::(nat_lit 293,ao)::(nat_lit 295,K2)::(nat_lit 296,ao)::(nat_lit 298,Lp)::(nat_lit 299,Jj)::(nat_lit 300,ao)::(nat_lit 303,Jk)::(nat_lit 304,JN)::(nat_lit 305,ao)::(nat_lit 307,Nw)::(nat_lit 308,ao)::(nat_lit 310,Kf)::(nat_lit 311,Jx)::(nat_lit 312,ao)::(nat_lit 314,J8)::(nat_lit 315,ao)::(nat_lit 317,JM)::(nat_lit 318,JL)::(nat_lit 319,ao)::(nat_lit 321,MJ)::(nat_lit 322,ao)::(nat_lit 324,L3)::(nat_lit 325,Mm)::(nat_lit 326,ao)::(nat_lit 328,Lz)::(nat_lit 329,ao)::(nat_lit 331,K9)::(nat_lit 332,Jc)::(nat_lit 333,ao)::(nat_lit 335,JO)::(nat_lit 336,ao)::(nat_lit 338,LJ)::(nat_lit 339,JU)::(nat_lit 340,ao)::(nat_lit 342,KR)::(nat_lit 343,ao)::(nat_lit 345,MY)::(nat_lit 346,Nz)::(nat_lit 347,Ld)::(nat_lit 348,Lh P)::(nat_lit 349,LW)::(nat_lit 350,LS)::(nat_lit 351,LD)::(nat_lit 354,SH)::(nat_lit 361,ao)::(nat_lit 363,Rp)::(nat_lit 364,ao)::(nat_lit 366,QK)::(nat_lit 367,Uc)::(nat_lit 368,ao)::(nat_lit 370,R0)::(nat_lit 371,ao)::(nat_lit 373,S6)::(nat_lit 374,Sj)::(nat_lit 375,ao)::(nat_lit 377,T5)::(nat_lit 378,ao)::(nat_lit 380,Q4)::(nat_lit 381,QJ)::(nat_lit 382,ao)::(nat_lit 384,QB)::(nat_lit 385,ao)::(nat_lit 387,TH)::(nat_lit 388,S_)::(nat_lit 389,ao)::(nat_lit 391,R3)::(nat_lit 392,ao)::(nat_lit 394,SX)::(nat_lit 395,Tt)::(nat_lit 396,ao)::(nat_lit 398,Tw)::(nat_lit 399,ao)::(nat_lit 401,QF)::(nat_lit 402,Rl)::(nat_lit 403,ao)::(nat_lit 406,T6)::(nat_lit 407,QW)::(nat_lit 408,ao)::(nat_lit 410,SW)::(nat_lit 411,ao)::(nat_lit 413,Si)::(nat_lit 414,SU)::(nat_lit 415,ao)::(nat_lit 417,QV)::(nat_lit 418,ao)::(nat_lit 420,SG)::(nat_lit 421,QD)::(nat_lit 422,ao)::(nat_lit 424,To)::(nat_lit 425,ao)::(nat_lit 427,S2)::(nat_lit 428,SY)::(nat_lit 429,ao)::(nat_lit 432,T3)::(nat_lit 433,RN)::(nat_lit 434,ao)::(nat_lit 437,Sy)::(nat_lit 438,T4)::(nat_lit 439,ao)::(nat_lit 442,Rb)::(nat_lit 443,R7)::(nat_lit 444,ao)::(nat_lit 447,Ro)::(nat_lit 448,Ug)::(nat_lit 449,ao)::(nat_lit 451,Tn)::(nat_lit 452,ao)::(nat_lit 454,Rf)::(nat_lit 455,RE)::(nat_lit 456,ao)::(nat_lit 458,RG)::(nat_lit 459,ao)::(nat_lit 461,Ta)::(nat_lit 462,TX)::(nat_lit 463,ao)::(nat_lit 465,QX)::(nat_lit 466,ao)::(nat_lit 468,QO)::(nat_lit 469,S0)::(nat_lit 470,RX)::(nat_lit 471,SQ P)::(nat_lit 472,Tq)::(nat_lit 475,ao)::(nat_lit 477,Tu)::(nat_lit 478,ao)::(nat_lit 480,QR)::(nat_lit 481,SV)::(nat_lit 482,ao)::(nat_lit 484,Ts)::(nat_lit 485,ao)::(nat_lit 487,SS)::(nat_lit 488,TF)::(nat_lit 489,ao)::(nat_lit 491,RH)::(nat_lit 492,ao)::(nat_lit 494,T8)::(nat_lit 495,RU)::(nat_lit 496,ao)::(nat_lit 498,Qz)::(nat_lit 499,ao)::(nat_lit 501,S3)::(nat_lit 502,Ub)::(nat_lit 503,ao)::(nat_lit 505,Ra)::(nat_lit 506,ao)::(nat_lit 508,SJ)::(nat_lit 509,Rc)::(nat_lit 510,ao)::(nat_lit 513,RA)::(nat_lit 514,Ry)::(nat_lit 515,ao)::(nat_lit 517,S7)::(nat_lit 518,ao)::(nat_lit 520,Th)::(nat_lit 521,TQ)::(nat_lit 522,ao)::(nat_lit 524,Su)::(nat_lit 525,ao)::(nat_lit 527,TB)::(nat_lit 528,Tr)::(nat_lit 529,ao)::(nat_lit 532,Tz)::(nat_lit 533,R1)::(nat_lit 534,ao)::(nat_lit 537,Ue)::(nat_lit 538,QT)::(nat_lit 539,ao)::(nat_lit 542,SK)::(nat_lit 543,Rw)::(nat_lit 544,ao)::(nat_lit 547,TJ)::(nat_lit 548,Q_)::(nat_lit 549,ao)::(nat_lit 551,S5)::(nat_lit 552,ao)::(nat_lit 554,RD)::(nat_lit 555,Ru)::(nat_lit 556,ao)::(nat_lit 558,Rq)::(nat_lit 559,ao)::(nat_lit 561,Tf)::(nat_lit 562,SO)::(nat_lit 563,ao)::(nat_lit 566,TZ)::(nat_lit 567,Q6)::(nat_lit 568,ao)::(nat_lit 570,RT)::(nat_lit 571,ao)::(nat_lit 573,QZ)::(nat_lit 574,Sz)::(nat_lit 575,ao)::(nat_lit 578,Sl)::(nat_lit 579,TM)::(nat_lit 580,ao)::(nat_lit 583,Tx)::(nat_lit 584,RI)::(nat_lit 585,ao)::(nat_lit 587,QG)::(nat_lit 588,ao)::(nat_lit 590,T9)::(nat_lit 591,Q8)::(nat_lit 592,ao)::(nat_lit 594,Rz)::(nat_lit 595,ao)::(nat_lit 597,TL)::(nat_lit 598,SR)::(nat_lit 599,ao)::(nat_lit 602,T_)::(nat_lit 603,RP)::(nat_lit 604,ao)::(nat_lit 606,TK)::(nat_lit 607,ao)::(nat_lit 609,Rh)::(nat_lit 610,Qy)::(nat_lit 611,ao)::(nat_lit 613,RB)::(nat_lit 614,ao)::(nat_lit 616,Uh)::(nat_lit 617,Sh)::(nat_lit 618,ao)::(nat_lit 621,SE)::(nat_lit 622,R4)::(nat_lit 623,ao)::(nat_lit 626,Sk)::(nat_lit 627,Q1)::[]
def V0:aZ:=[2,3,15,22,24,25,27,28,29,30,31,32,35,42,44,45,47,48,49,50,51,54,61,63,64,66,67,68,69,70,73,80,82,83,85,86,87,88,89,92,99,101,102,104,105,106,107,108,111,118,120,121,123,124,125,126,127,130,137,139,140,142,143,144,145,146,149,156,158,159,161,162,163,164,165,168,175,177,178,180,181,182,183,184,187,194,196,197,199,200,201,202,203,206,208,209,211,212,213,215,216,218,219,220,222,223,225,226,227,229,230,232,233,241,243,244,246,247,248,250,251,253,254,255,257,258,260,261,262,265,266,267,269,270,272,273,274,276,277,279,280,281,284,285,286,288,289,291,292,293,295,296,298,299,300,303,304,305,307,308,310,311,312,314,315,317,318,319,321,322,324,325,326,328,329,331,332,333,335,336,338,339,340,342,343,345,346,347,348,349,350,351,354,361,363,364,366,367,368,370,371,373,374,375,377,378,380,381,382,384,385,387,388,389,391,392,394,395,396,398,399,401,402,403,406,407,408,410,411,413,414,415,417,418,420,421,422,424,425,427,428,429,432,433,434,437,438,439,442,443,444,447,448,449,451,452,454,455,456,458,459,461,462,463,465,466,468,469,470,471,472,475,477,478,480,481,482,484,485,487,488,489,491,492,494,495,496,498,499,501,502,503,505,506,508,509,510,513,514,515,517,518,520,521,522,524,525,527,528,529,532,533,534,537,538,539,542,543,544,547,548,549,551,552,554,555,556,558,559,561,562,563,566,567,568,570,571,573,574,575,578,579,580,583,584,585,587,588,590,591,592,594,595,597,598,599,602,603,604,606,607,609,610,611,613,614,616,617,618,621,622,623,626,627]
theorem FL:∀P,V0=(Ee P).map (·.1):=fun _=>by kernel_rfl
noncomputable def ql:PySem.Program:={PySem.Challenge.pw_framerooms_k15_pictures_and_twins with main:={PySem.Challenge.pw_framerooms_k15_pictures_and_twins.main with body:=[top 1,top 2,top 3,top 4,top 5,top 6,top 7,top 8,top 9,top 10,top 12,top 13,top 14,top 15,top 17,top 18,top 19,top 21,top 22,top 23,top 24,top 26,top 27,top 28,top 29,top 30,top 31,top 32,top 33,top 34,top 35,top 36,top 37,top 38,top 39,top 40,top 41,top 42,top 43,top 44,top 45,top 46,top 47,top 48,top 49]}}
noncomputable abbrev pK:PySem.W.Hook:=PySem.W.kHook Ee V0 FL
theorem Oe(w:PySem.World):(fun os:PySem.OsState=>((PySem.W.staticsOk (importedModules oi.main.body) (PySem.W.boot_heap w.params) (cB w.params)&&PySem.W.namesBound oi (cB w.params)&&PySem.W.gensDone ⟨cB w.params,⟨[]⟩,{},990,os⟩&&PySem.W.laidKept (PySem.W.boot_heap w.params) (cB w.params)),PySem.W.openSeen ql [] (importedModules oi.main.body) (fun s=>PySem.W.xlAt ql [] s&&PySem.W.recOk (PySem.W.RowW.records PySem.Challenge.rw_framerooms_k15_pictures_and_twins.row.toRowW) s) true ⟨cB w.params,⟨[]⟩,{},990,os⟩,pK.obs ⟨cB w.params,⟨[]⟩,{},990,os⟩))=fun _=>(true,PySem.W.openGood ql [],pK.val w):=by kernel_rfl
theorem UT:PySem.W.LeftO PySem.Challenge.rw_framerooms_k15_pictures_and_twins.row.prog ql [] (fun s=>PySem.W.xlAt ql [] s&&PySem.W.recOk (PySem.W.RowW.records PySem.Challenge.rw_framerooms_k15_pictures_and_twins.row.toRowW) s) pK.obs pK.val 9714:=PySem.W.LeftO.of_pieces (H₀:=PySem.W.boot_heap) (H₁:=cB) (gs₁:=⟨[]⟩) (d₁:={}) (k₁:=990) (m₀:=11) (ann:=nk) (PySem.W.boot_open rfl (by decide) (fun _=>rfl)) (fun _=>by kernel_rfl) Zr (by decide) Oe
end My
namespace L2
open PySem PySem.Spec PyProof.Rows
abbrev wp:=Sum Int Str
def pT:wp→Value→Bool
 | .inl k,v=>Value.isInt k v
 | .inr x,v=>Value.isStrOf x v
def akn(w:World):wp→Int
 | .inl k=>hashInt k
 | .inr x=>hashStr w x
theorem dB:∀{k:wp} {v:Value},pT k v=true→(∃i t,k=Sum.inl i∧v=Value.int i t)∨(∃x t,k=Sum.inr x∧v=Value.str x t)
 | .inl i,v,h=>by
  obtain⟨t,e⟩:=Value.isInt_shape (k:=i) (v:=v) h;exact .inl ⟨i,t,rfl,e⟩
 | .inr x,v,h=>by
  obtain⟨t,e⟩:=Value.isStrOf_shape (x:=x) (v:=v) h;exact .inr ⟨x,t,rfl,e⟩
theorem GP(i:Int)(t:Tok):pT (.inl i) (.int i t)=true:=by simp[pT,Value.isInt]
theorem HP(x:Str)(t:Tok):pT (.inr x) (.str x t)=true:=by simp[pT,Value.isStrOf]
theorem Ut(a b:Int):decide ((Sum.inl a:wp)=Sum.inl b)=(a==b):=by
 by_cases e:a=b
 ·subst e;simp
 ·have h:¬(Sum.inl a:wp)=Sum.inl b:=fun q=>e (Sum.inl.inj q);rw[decide_eq_false h];exact(beq_eq_false_iff_ne.mpr e).symm
theorem VZ(a b:Str):decide ((Sum.inr a:wp)=Sum.inr b)=decide (a=b):=by
 by_cases e:a=b
 ·subst e;simp
 ·have h:¬(Sum.inr a:wp)=Sum.inr b:=fun q=>e (Sum.inr.inj q);rw[decide_eq_false h,decide_eq_false e]
theorem VJ(a:Int)(b:Str):decide ((Sum.inl a:wp)=Sum.inr b)=false:=decide_eq_false (fun q=>nomatch q)
theorem Vl(a:Str)(b:Int):decide ((Sum.inr a:wp)=Sum.inl b)=false:=decide_eq_false (fun q=>nomatch q)
def bI(prog:Program)(w:World):PySem.KeyKind prog w wp where
 is:=pT
 hash:=akn w
 inj:=fun v a b ha hb=>by
  rcases dB ha with⟨i,t,rfl,rfl⟩|⟨x,t,rfl,rfl⟩
  ·rcases dB hb with⟨j,u,rfl,e⟩|⟨y,u,rfl,e⟩
   ·injection e with e1 _;rw[e1]
   ·exact nomatch e
  ·rcases dB hb with⟨j,u,rfl,e⟩|⟨y,u,rfl,e⟩
   ·exact nomatch e
   ·injection e with e1 _;rw[e1]
 byValue:=fun k v h=>by
  rcases dB h with⟨i,t,rfl,rfl⟩|⟨x,t,rfl,rfl⟩<;>rfl
 pyHash:=fun hv h=>by
  rcases dB hv with⟨i,t,rfl,rfl⟩|⟨x,t,rfl,rfl⟩
  ·exact wpAny_pyHash_int h
  ·exact wpAny_pyHash_str h
 eqBool:=fun hu hv h=>by
  rcases dB hu with⟨i,t,rfl,rfl⟩|⟨x,t,rfl,rfl⟩
  ·rcases dB hv with⟨j,u,rfl,rfl⟩|⟨y,u,rfl,rfl⟩
   ·rw[Ut] at h;exact wpAny_eqBool_int h
   ·rw[VJ] at h;exact SeqAt.EqAt.int_str i t y u _ _ _ _ h
  ·rcases dB hv with⟨j,u,rfl,rfl⟩|⟨y,u,rfl,rfl⟩
   ·rw[Vl] at h;exact SeqAt.EqAt.str_int x t j u _ _ _ _ h
   ·rw[VZ] at h;exact wpAny_eqBool_str h
 «strs» :=fun k x t v h=>by
  rcases dB h with⟨i,u,rfl,e⟩|⟨y,u,rfl,e⟩
  ·exact nomatch e
  ·injection e with e1 _;subst e1;cases v<;>rfl
theorem Cm(prog:Program)(w:World)(i:Int)(t:Tok):(bI prog w).is (.inl i) (.int i t)=true:=GP i t
theorem C8(prog:Program)(w:World)(x:Str)(t:Tok):(bI prog w).is (.inr x) (.str x t)=true:=HP x t
inductive V where
 |bJ|bl (b:Bool)|int (i:Int)|str (x:Str)|Iy (b:Array UInt8)|VA (b:UInt64)|ref (a:Addr)|ty (n:String)
 deriving DecidableEq
abbrev dM:=List (List wp×V)
abbrev bK:=List (wp×V)
abbrev dO:=List (List V)
abbrev az:=List V
abbrev iN:=List (Str×V)
def RelV:V→Value→Prop
 | .bJ,u=>u=Value.none
 | .bl b,u=>u=Value.bool b
 | .int i,u=>∃t,u=Value.int i t
 | .str x,u=>∃t,u=Value.str x t
 | .Iy b,u=>∃t,u=Value.bytes b t
 | .VA b,u=>∃t,u=Value.float b t
 | .ref a,u=>u=Value.ref a
 | .ty n,u=>u=Value.type n
abbrev Vals:az→aA→Prop:=Paired RelV
theorem Vals.length{xs:az}{us:aA}(r:Vals xs us):xs.length=us.length:=Paired.length r
theorem Vals.get:∀{xs:az} {us:aA} {i:Nat} {x:V},Vals xs us→xs[i]? =some x→∃u,us[i]? =some u∧RelV x u
 |_,_,_,_,.nil,e=>by simp at e
 |_,_,0,_,.cons r _,e=>by simp at e;subst e;exact⟨_,rfl,r⟩
 |_,_,i+1,x,.cons _ t,e=>by
  obtain⟨u,h1,h2⟩:=Vals.get (i:=i) (x:=x) t (by simpa using e);exact⟨u,by simpa using h1,h2⟩
theorem Vals.set{x:V}{u:Value}(r:RelV x u):∀{xs:az} {us:aA} (i:Nat),Vals xs us→Vals (xs.set i x) (us.set i u)
 |_,_,_,.nil=> .nil
 |_,_,0,.cons _ t=> .cons r t
 |_,_,i+1,.cons q t=> .cons q (Vals.set r i t)
theorem Vals.append:∀{xs ys:az} {us ws:aA},Vals xs us→Vals ys ws→Vals (xs++ys) (us++ws)
 |_,_,_,_,.nil,s=>s
 |_,_,_,_,.cons r t,s=> .cons r (Vals.append t s)
theorem Vals.take:∀{xs:az} {us:aA} (n:Nat),Vals xs us→Vals (xs.take n) (us.take n)
 |_,_,0,_=> .nil
 |_,_,_+1,.nil=> .nil
 |_,_,n+1,.cons r t=> .cons r (Vals.take n t)
theorem Vals.drop:∀{xs:az} {us:aA} (n:Nat),Vals xs us→Vals (xs.drop n) (us.drop n)
 |_,_,0,r=>r
 |_,_,_+1,.nil=> .nil
 |_,_,n+1,.cons _ t=>Vals.drop n t
theorem Vals.none_of:∀{xs:az} {us:aA} {i:Nat},Vals xs us→xs[i]? =none→us[i]? =none:=fun{xs us i} r e=>by
 have h1:=r.length;have h2:xs.length≤i:=List.getElem?_eq_none_iff.mp e;exact List.getElem?_eq_none_iff.mpr (by omega)
def lE:Option V→aH→Prop
 |some v,some u=>RelV v u
 |none,none=>True
 |_,_=>False
def KV{κ:Type}:List (κ×V)→List (κ×Value)→Prop:=Paired fun(p:κ×V) (q:κ×Value)=>p.1=q.1∧RelV p.2 q.2
def kV:wp→V
 | .inl i=> .int i
 | .inr x=> .str x
inductive HO where
 |lst (xs:az)
 |tup (xs:az)
 |dK (kvs:bK)|dT (kvs:dM)
 |set (S:Int→Bool) (n:Nat)
 |ins (C dx:Addr) (fs:iN)
 |own (x:Addr)
 |xd (fs:iN)
 |met (f x:Addr)
 |rng (lo hi:Int)
 |gz (o:Obj) (u:HO)
 |Pc (ps:Array Value)
 |ext (φ:Heap→Prop)
abbrev Hp:=Addr→Option HO
def upd(H:Hp)(a:Addr)(o:HO):Hp:=fun b=>if b=a then some o else H b
theorem ae{H:Hp}{a:Addr}{o:HO}:upd H a o a=some o:=by unfold upd;rw[if_pos rfl]
theorem af{H:Hp}{a b:Addr}{o:HO}(h:b≠a):upd H a o b=H b:=by unfold upd;rw[if_neg h]
theorem wx{H:Hp}{a:Addr}{o u:HO}:upd (upd H a o) a u=upd H a u:=by
 funext b;unfold upd;split<;>rfl
theorem aJ{H:Hp}{a b:Addr}{o u:HO}(h:H a=some o)(h' :H b=some u)(d:o≠u):a≠b:=by
 intro e;subst e;rw[h] at h';exact d (Option.some.inj h')
theorem ag{H:Hp}{a b:Addr}{o:HO}(h:H a=some o)(h' :H b=none):a≠b:=by
 intro e;subst e;rw[h] at h';cases h'
section
variable(P:Program)(w:World)
def bq(H:Hp)(h:Heap)(a:Addr):HO→Prop
 | .lst xs=>xs.length≤sizeLine∧∃(bz:aA) (n:Nat),Vals xs bz∧h.get? a=some {cls:= .type "list",data:= .seq bz.toArray n}
 | .tup xs=>xs.length≤sizeLine∧∃bz:aA,Vals xs bz∧IsTup h a bz.toArray
 | .dK kvs=>kvs.length≤sizeLine∧(a==sysModules)=false∧∃vs,KV kvs vs∧h.DictOf (bI P w) a vs
 | .dT kvs=>kvs.length≤sizeLine∧(a==sysModules)=false∧∃xs:List (List wp×Addr×Value),
  Paired (fun(p:List wp×V) (q:List wp×Addr×Value)=>p.1=q.1∧H q.2.1=some (.tup (p.1.map kV))∧RelV p.2 q.2.2) kvs xs∧
  ∃o es ep,h.get? a=some o∧o.ExactDict∧o.data= .dict es ep∧es.toList=xs.map (entryOfKey (tupleKind (bI P w)))∧(xs.map (·.1)).Nodup
 | .set S n=>h.SetOf (intKind P w) a S n
 | .ins C dx fs=>H dx=some (.own a)∧fs.length≤1000∧dx≠a∧h.get? a=some (instObj C dx)∧
  ∃mA,h.Ns1 dx mA∧(∀f,lE (fs.lookup f) (mA f))∧PySem.Within mA (fs.map (·.1))
 | .own _=>∃o,h.get? a=some o
 | .xd fs=>∃mA,h.Ns1 a mA∧∀f,lE (fs.lookup f) (mA f)
 | .rng lo hi=>∃t u v,h.get? a=some {cls:= .type "range",data:= .fields #[.int lo t,.int hi u,.int 1 v]}
 | .gz o u=>h.get? a=some o∧bq H h a u
 | .Pc ps=>h.get? a=some {cls:= .none,data:= .fields ps}
 | .met f x=>h.get? a=some (methodObj (.ref f) (.ref x))
 | .ext φ=>φ h∧(∃o,h.get? a=some o)∧∀h1 h2:Heap,φ h1→(∀o,h1.get? a=some o→h2.get? a=some o)→φ h2
def qE(H:Hp)(h:Heap):Prop:=∀a o,H a=some o→bq P w H h a o
end
section
variable{P:Program}{w:World}{H H' :Hp}{h h' :Heap}{a:Addr}{o:HO}
theorem bq.lt(x:bq P w H h a o):a<h.objs.size:=by
 cases o with
 |lst xs=>obtain⟨_,_,_,_,e⟩:=x;exact Heap.lt_size e
 |tup xs=>obtain⟨_,_,_,p⟩:=x;exact p.lt
 |dK kvs=>obtain⟨_,_,_,_,o,_,_,e,_⟩:=x;exact Heap.lt_size e
 |dT kvs=>obtain⟨_,_,_,_,o,_,_,e,_⟩:=x;exact Heap.lt_size e
 |set S n=>obtain⟨o,_,_,_,e,_⟩:=x;exact Heap.lt_size e
 |ins C dx fs=>obtain⟨_,_,_,e,_⟩:=x;exact Heap.lt_size e
 |own y=>obtain⟨_,e⟩:=x;exact Heap.lt_size e
 |xd fs=>obtain⟨_,⟨_,_,_,e,_⟩,_⟩:=x;exact Heap.lt_size e
 |rng lo hi=>obtain⟨_,_,_,e⟩:=x;exact Heap.lt_size e
 |gz ob u=>obtain⟨e,_⟩:=x;exact Heap.lt_size e
 |Pc ps=>exact Heap.lt_size (show h.get? a=some _ from x)
 |met f y=>exact Heap.lt_size (show h.get? a=some _ from x)
 |ext φ=>obtain⟨_,⟨_,e⟩,_⟩:=x;exact Heap.lt_size e
theorem Paired.UN{α β:Type}{F G:α→β→Prop}:∀{B_:List α} {CC:List β},Paired F B_ CC→(∀a b,F a b→G a b)→Paired G B_ CC
 |_,_,.nil,_=> .nil
 |_,_,.cons r t,f=> .cons (f _ _ r) (Paired.UN t f)
theorem bq.qR(x:bq P w H h a o)(k:∀b u,(b=a∨H b=some (.own a))→h.get? b=some u→h'.get? b=some u)
 (ho:∀b,H b=some (.own a)→H' b=some (.own a)) (ht:∀b xs,H b=some (.tup xs)→H' b=some (.tup xs)):bq P w H' h' a o:=by
 induction o with
 |lst xs=>obtain⟨z,bz,n,r,e⟩:=x;exact⟨z,bz,n,r,k _ _ (.inl rfl) e⟩
 |tup xs=>obtain⟨z,bz,r,ob,e,c⟩:=x;exact⟨z,bz,r,ob,k _ _ (.inl rfl) e,c⟩
 |dK kvs=>obtain⟨z,y,vs,r,ob,es,ep,e,c⟩:=x;exact⟨z,y,vs,r,ob,es,ep,k _ _ (.inl rfl) e,c⟩
 |dT kvs=>
  obtain⟨z,y,xs,r,ob,es,ep,e,c⟩:=x;exact⟨z,y,xs,Paired.UN r fun p q z=>⟨z.1,ht _ _ z.2.1,z.2.2⟩,ob,es,ep,k _ _ (.inl rfl) e,c⟩
 |set S n=>obtain⟨ob,es,ep,t,e,c⟩:=x;exact⟨ob,es,ep,t,k _ _ (.inl rfl) e,c⟩
 |ins C dx fs=>
  obtain⟨d,z,ne,e,mA,⟨od,es,ep,e2,c⟩,r⟩:=x;exact⟨ho _ d,z,ne,k _ _ (.inl rfl) e,mA,⟨od,es,ep,k _ _ (.inr d) e2,c⟩,r⟩
 |own y=>obtain⟨ob,e⟩:=x;exact⟨ob,k _ _ (.inl rfl) e⟩
 |xd fs=>obtain⟨mA,⟨od,es,ep,e,c⟩,r⟩:=x;exact⟨mA,⟨od,es,ep,k _ _ (.inl rfl) e,c⟩,r⟩
 |rng lo hi=>obtain⟨t,u,v,e⟩:=x;exact⟨t,u,v,k _ _ (.inl rfl) e⟩
 |gz ob u ih=>obtain⟨e,q⟩:=x;exact⟨k _ _ (.inl rfl) e,ih q⟩
 |Pc ps=>
  have e:h.get? a=some {cls:= .none,data:= .fields ps}:=x;show h'.get? a=some {cls:= .none,data:= .fields ps};exact k a _ (.inl rfl) e
 |met f y=>
  have e:h.get? a=some (methodObj (.ref f) (.ref y)):=x;show h'.get? a=some (methodObj (.ref f) (.ref y));exact k a _ (.inl rfl) e
 |ext φ=>obtain⟨p,⟨o,e⟩,st⟩:=x;exact⟨st _ _ p fun o q=>k _ _ (.inl rfl) q,⟨o,k _ _ (.inl rfl) e⟩,st⟩
theorem qE.lt(x:qE P w H h)(e:H a=some o):a<h.objs.size:=(x a o e).lt
theorem qE.fresh(x:qE P w H h)(e:h.objs.size≤a):H a=none:=by
 cases q:H a with
 |none=>rfl
 |some u=>exact absurd (Nat.lt_of_lt_of_le (x.lt q) e) (Nat.lt_irrefl _)
theorem qE.kept(x:qE P w H h)(k:∀b u,h.get? b=some u→h'.get? b=some u):qE P w H h' :=fun a o e=>
 (x a o e).qR (fun b u _ q=>k b u q) (fun _ q=>q) fun _ _ q=>q
theorem qE.laid(x:qE P w H h)(k:∀b u,h.get? b=some u→h'.get? b=some u)(hp:h.objs.size≤a)(new:bq P w (upd H a o) h' a o):qE P w (upd H a o) h' :=fun b u e=>by
 have hn:=x.fresh hp;by_cases hb:b=a
 ·subst hb;rw[ae] at e;cases e;exact new
 ·rw[af hb] at e;exact(x b u e).qR (fun c v _ q=>k c v q) (fun c q=>by rw[af (ag q hn)];exact q) fun c xs q=>by rw[af (ag q hn)];exact q
end
def Rd(H:Hp)(a:Addr)(u:HO):Prop:=H a=some u∨∃o,H a=some (.gz o u)
theorem Rd.of{H:Hp}{a:Addr}{u:HO}(h:H a=some u):Rd H a u:= .inl h
theorem Rd.ok{P:Program}{w:World}{H:Hp}{h:Heap}{a:Addr}{u:HO}(r:Rd H a u)(x:qE P w H h):bq P w H h a u:=by
 rcases r with r|⟨o,r⟩
 ·exact x a u r
 ·obtain⟨_,q⟩:=x a _ r;exact q
def Mut:Option HO→Prop
 |some (.lst _)=>True
 |some (.dK _)=>True
 |some (.dT _)=>True
 |some (.set _ _)=>True
 |some (.ins _ _ _)=>True
 |some (.ext _)=>True
 |_=>False
section
variable{P:Program}{w:World}{H:Hp}{h h' :Heap}{x e:Addr}{o' :HO}
theorem qE.write(ok:qE P w H h)(mu:Mut (H x))(he:e=x∨H e=some (.own x))(k:∀b u,b≠e→h.get? b=some u→h'.get? b=some u)(W6:∃u,h'.get? e=some u)
 (new:bq P w (upd H x o') h' x o'):qE P w (upd H x o') h' :=fun b u q=>by
 have abZ:∀c y,H c=some (.own y)→c≠x:=fun c y r z=>by subst z;rw[r] at mu;exact mu
 have ajp:∀c xs,H c=some (.tup xs)→c≠x:=fun c xs r z=>by subst z;rw[r] at mu;exact mu
 by_cases hb:b=x
 ·subst hb;rw[ae] at q;cases q;exact new
 ·rw[af hb] at q;by_cases yo:b=e
  ·have q' :H b=some (.own x):=by
    rcases he with z|z
    ·exact absurd (yo.trans z) hb
    ·rw[yo];exact z
   rw[q] at q';cases q'
   obtain⟨v,hv⟩:=W6;exact⟨v,by rw[yo];exact hv⟩
  ·refine(ok b u q).qR (fun c v hc r=>k c v ?_ r) (fun c r=>by rw[af (abZ c b r)];exact r) fun c xs r=>by rw[af (ajp c xs r)];exact r
   rcases hc with rfl|hc
   ·exact yo
   ·rintro rfl
    rcases he with z|z
    ·exact abZ c b hc z
    ·rw[hc] at z;cases z;exact hb rfl
end
structure Un(fs ex:aZ)(H H' :Hp)(h h' :Heap):Prop where
 keep:∀b o,h.get? b=some o→H b=none→b∉fs→b∉ex→h'.get? b=some o
 slot:∀b o,h.get? b=some o→H b=none→b∈fs→b∉ex→∃sl,h'.get? b=some {o with slots:=sl}
 free:∀b o,h.get? b=some o→H b=none→b∉ex→H' b=none
 there:∀b o,h.get? b=some o→b∉ex→∃o',h'.get? b=some o'
 rS:∀b xs,H b=some (.tup xs)→H' b=some (.tup xs)
 pH:∀b o u,H b=some (.gz o u)→H' b=some (.gz o u)
 rT:∀b ps,H b=some (.Pc ps)→∃more,H' b=some (.Pc (ps++more))
section
variable{fs fs' ex ex' :aZ}{H H1 H2:Hp}{h h1 h2 h' :Heap}{a x e:Addr}{o:HO}
theorem Un.any(u:Un fs ex H H1 h h1){b:Addr}{ob:Obj}(q:h.get? b=some ob)(n:H b=none)(hx:b∉ex):∃sl,h1.get? b=some {ob with slots:=sl}:=by
 by_cases hb:b∈fs
 ·exact u.slot b ob q n hb hx
 ·exact⟨ob.slots,u.keep b ob q n hb hx⟩
theorem Un.trans(a:Un fs ex H H1 h h1)(b:Un fs ex H1 H2 h1 h2):Un fs ex H H2 h h2 where
 keep:=fun c ob q n hc hx=>b.keep c ob (a.keep c ob q n hc hx) (a.free c ob q n hx) hc hx
 slot:=fun c ob q n hc hx=>by
  obtain⟨sl,e1⟩:=a.slot c ob q n hc hx;obtain⟨Yr,e2⟩:=b.slot c _ e1 (a.free c ob q n hx) hc hx;exact⟨Yr,e2⟩
 free:=fun c ob q n hx=>by
  obtain⟨o',e1⟩:=a.there c ob q hx;exact b.free c o' e1 (a.free c ob q n hx) hx
 there:=fun c ob q hx=>by
  obtain⟨o',e1⟩:=a.there c ob q hx;exact b.there c o' e1 hx
 rS:=fun c xs q=>b.rS c xs (a.rS c xs q)
 pH:=fun c ob xs q=>b.pH c ob xs (a.pH c ob xs q)
 rT:=fun c ps q=>by
  obtain⟨m1,e1⟩:=a.rT c ps q;obtain⟨m2,e2⟩:=b.rT c _ e1;exact⟨m1++m2,by rw[e2,Array.append_assoc]⟩
theorem Un.kept(k:∀b u,h.get? b=some u→h'.get? b=some u):Un fs ex H H h h' :=
 ⟨fun b ob q _ _ _=>k b ob q,fun b ob q _ _ _=>⟨ob.slots,k b ob q⟩,fun _ _ _ n _=>n,fun b ob q _=>⟨ob,k b ob q⟩,fun _ _ q=>q,fun _ _ _ q=>q,fun _ ps q=>⟨#[],by rw[q];simp⟩⟩
theorem Un.refl:Un fs ex H H h h:=Un.kept fun _ _ q=>q
theorem Un.laid(k:∀b u,h.get? b=some u→h'.get? b=some u)(hp:h.objs.size≤a)(hn:H a=none):Un fs ex H (upd H a o) h h' where
 keep:=fun b u q _ _ _=>k b u q
 slot:=fun b u q _ _ _=>⟨u.slots,k b u q⟩
 free:=fun b u q n _=>by rw[af (Nat.ne_of_lt (Nat.lt_of_lt_of_le (Heap.lt_size q) hp))];exact n
 there:=fun b u q _=>⟨u,k b u q⟩
 rS:=fun b xs q=>by rw[af (ag q hn)];exact q
 pH:=fun b u xs q=>by rw[af (ag q hn)];exact q
 rT:=fun b ps q=>⟨#[],by rw[af (ag q hn),q];simp⟩
theorem Un.write(mu:Mut (H x))(he:e=x∨H e=some (.own x))(k:∀b u,b≠e→h.get? b=some u→h'.get? b=some u)(W6:∃u,h'.get? e=some u):Un fs ex H (upd H x o) h h' :=by
 have hx:∀b,H b=none→b≠x:=fun b n z=>by subst z;rw[n] at mu;exact mu
 have hb:∀b,H b=none→b≠e:=fun b n z=>by
  subst z;rcases he with r|r
  ·exact hx b n r
  ·rw[n] at r;cases r
 have hm:∀b u,H b=some u→¬Mut (some u)→b≠x:=fun b u q nm z=>by subst z;rw[q] at mu;exact nm mu
 refine⟨fun b u q n _ _=>k b u (hb b n) q,fun b u q n _ _=>⟨u.slots,k b u (hb b n) q⟩,fun b u q n _=>by rw[af (hx b n)];exact n,fun b u q _=> ?_,
  fun b xs q=>by rw[af (hm b _ q fun z=>z)];exact q,fun b u xs q=>by rw[af (hm b _ q fun z=>z)];exact q,fun b ps q=>⟨#[],by rw[af (hm b _ q fun z=>z),q];simp⟩⟩
 by_cases yo:b=e
 ·subst yo;exact W6
 ·exact⟨u,k b u yo q⟩
theorem Un.mono(u:Un fs ex H H1 h h1)(hs:∀b∈fs,b∈fs')(hx:∀b∈ex,b∈ex'):Un fs' ex' H H1 h h1:=
 ⟨fun b ob q n hb he=>u.keep b ob q n (fun z=>hb (hs b z)) fun z=>he (hx b z),fun _ _ q n _ he=>u.any q n fun z=>he (hx _ z),fun b ob q n he=>u.free b ob q n fun z=>he (hx b z),fun b ob q he=>u.there b ob q fun z=>he (hx b z),u.rS,u.pH,u.rT⟩
end
def trk(h:Heap)(H:Hp):aZ:=(List.range h.objs.size).filter fun a=>(H a).isSome
def BS(h:Heap)(H:Hp):Heap:=PySem.W.hideAll h (trk h H)
theorem Ic(h:Heap)(H:Hp):(BS h H).objs.size=h.objs.size:=PySem.W.hideAll_size _ _
theorem Lw{h:Heap}{H:Hp}{b:Addr}{o:Obj}(e:h.get? b=some o)(n:H b=none):(BS h H).get? b=some o:=
 PySem.W.hideAll_get _ e fun hm=>by
  have q:(H b).isSome=true:=(List.mem_filter.mp hm).2;rw[n] at q;simp at q
theorem OZ{h:Heap}{H:Hp}{b:Addr}{o:Obj}(e:(BS h H).get? b=some o):h.get? b=some o∧H b=none:=by
 have e' :h.get? b=some o:=PySem.W.of_hideAll (trk h H) e;refine⟨e',?_⟩
 cases q:H b with
 |none=>rfl
 |some x=>
  have hm:b∈trk h H:=List.mem_filter.mpr ⟨List.mem_range.mpr (Heap.lt_size e'),by simp[q]⟩;have z:(BS h H).get? b=none:=PySem.W.hideAll_none (trk h H) hm;rw[z] at e;cases e
def Pu(g h:Heap)(L:Addr):aL:=(List.range h.objs.size).filterMap fun a=>if a=L∨(g.get? a).isSome=true then none else(h.get? a).map fun o=>(a,o)
def rest(g h:Heap)(L d:Addr):aL:=(Pu g h L).filter fun p=>decide (p.1≠d)
structure Mod(K:Frag)(mg:Str→aH)(base:Heap):Prop where
 Oy:K.In base
 glob:base.Ns mainGlobals mg
 blt:∃mb,base.Ns builtinsNs mb∧∀x:Str,x≠ "__name__" →mb x=bootBuiltins x
 nolimit:base.NoLimit
structure Cx where
 prog:Program
 w:World
 K:Frag
 mg:Str→aH
 base:Heap
 A:Around
 N:aX
 fD:Shared
 H₀:Hp
 env:Env
 outer:List Env
 stack:List Env
 ex:aZ
 fn:Str→Bool
 calm:Bool
 pn:aL
 xe:Value→Shared→Prop
def wz(l:List Env):aZ:=l.filterMap (·.frame)
abbrev Cx.fs(X:Cx):aZ:=wz X.outer
def Vis(sc:Scope)(x:Str):Prop:=sc.names.lookup x=some .local∨sc.names.lookup x=some .cell∨sc.names.lookup x=some .free
def Loc(sc:Scope)(x:Str):Prop:=sc.names.lookup x=some .local∨sc.names.lookup x=some .cell
def jaw(env:Env)(h:Heap)(m:Str→aH)(x:Str)(u:Value):Prop:=
 (env.kindOf x=some .local∧m x=some u)∨((env.kindOf x=some .cell∨env.kindOf x=some .free)∧∃c,env.cells.lookup x=some c∧h.IsCell c (some u))
structure Cx.Ok(X:Cx):Prop where
 mod:Mod X.K X.mg X.base
 kind:X.env.scope.kind= .function
 glob:X.env.globals=mainGlobals
 blt:X.env.builtins=builtinsNs
 above:X.fD.heap.objs.size≤X.env.locals
 inj:∀x y c,X.env.cells.lookup x=some c→X.env.cells.lookup y=some c→x=y
 has:∀x,(X.env.kindOf x=some .cell∨X.env.kindOf x=some .free)→∃c,X.env.cells.lookup x=some c
 WD:∀x c,X.fn x=true→X.env.cells.lookup x=some c→X.fD.heap.objs.size≤c
 hd:X.calm=true→X.A.handled=none
 frames:X.A.frames=some X.stack
 Xg:X.stack=X.outer∨(X.stack=X.env::X.outer∧X.env.frame=some X.env.locals)
 exf:∀b∈X.ex,b≠X.env.locals∧∀x c,X.env.cells.lookup x=some c→c≠b
 bs:∀b o,X.base.get? b=some o→X.fD.heap.get? b=some o∧X.H₀ b=none
 Ih:X.base.objs.size≤X.fD.heap.objs.size
 EF:∀b o,X.base.get? b=some o→b∉X.ex
 Ik:∀b∈X.ex,b∉X.fs
 sk:X.fD.heap.FunFrames X.base X.outer
 NP:∀b∈X.fs,X.H₀ b=none
structure Inv(X:Cx)(pins:aL)(σ:List (Option V))(H:Hp)(s:Shared):Prop where
 ok:X.Ok
 os:s.os=X.fD.os
 bare:AllBare s.gens
 base:Un X.fs X.ex X.H₀ H X.fD.heap s.heap
 loc:∃m,s.heap.Ns X.env.locals m∧∀(i:Nat) (x:Str) (v:V),X.N[i]? =some x→σ[i]? =some (some v)→Vis X.env.scope x→∃u,RelV v u∧jaw X.env s.heap m x u
 cell:∀x c,X.env.cells.lookup x=some c→∃v,s.heap.IsCell c v
 free:H X.env.locals=none
 jf:∀x c,X.env.cells.lookup x=some c→H c=none
 pin:∀p∈X.pn++pins,s.heap.get? p.1=some p.2∧H p.1=none∧p.1≠X.env.locals∧p.1∉X.fs∧∀v,p.2.data≠.cell v
 bD:qE X.prog X.w H s.heap
 len:σ.length=X.N.length
section
variable{X:Cx}{pins:aL}{σ:List (Option V)}{H H' :Hp}{s:Shared}{h' :Heap}
theorem Cx.Ok.afy(ok:X.Ok){b:Addr}{o:Obj}(e:X.base.get? b=some o):b∉X.fs:=fun hb=>by
 have:=(ok.sk.mem hb).1;rw[e] at this;cases this
theorem Inv.bs(I:Inv X pins σ H s):∀b o,X.base.get? b=some o→s.heap.get? b=some o∧H b=none:=fun b o e=>
 ⟨I.base.keep b o (I.ok.bs b o e).1 (I.ok.bs b o e).2 (I.ok.afy e) (I.ok.EF b o e),I.base.free b o (I.ok.bs b o e).1 (I.ok.bs b o e).2 (I.ok.EF b o e)⟩
theorem Inv.bk(I:Inv X pins σ H s):∀b o,X.base.get? b=some o→s.heap.get? b=some o:=fun b o e=>(I.bs b o e).1
theorem Inv.mod(I:Inv X pins σ H s):Mod X.K X.mg X.base:=I.ok.mod
theorem Inv.lD(I:Inv X pins σ H s):X.K.In s.heap:=I.ok.mod.Oy.keeps I.bk
theorem Inv.nolimit(I:Inv X pins σ H s):s.heap.NoLimit:=I.ok.mod.nolimit.keeps I.bk
theorem Inv.fr(I:Inv X pins σ H s):∃m,Fr X.base X.env.locals s.heap m:=
 let⟨m,hn,_⟩:=I.loc
 ⟨m,hn,I.bk,Nat.le_trans I.ok.Ih I.ok.above⟩
theorem Inv.lt(I:Inv X pins σ H s):X.env.locals<s.heap.objs.size:=let⟨_,hn,_⟩:=I.loc;hn.lt
theorem Inv.sz(I:Inv X pins σ H s):X.fD.heap.objs.size≤s.heap.objs.size:=Nat.le_trans I.ok.above (Nat.le_of_lt I.lt)
theorem Inv.anb(I:Inv X pins σ H s){a:Addr}(h:s.heap.objs.size≤a):a∉X.fs:=fun hb=>by
 obtain⟨_,o,ho,_⟩:=I.ok.sk.mem hb;exact absurd (Nat.lt_of_lt_of_le (Heap.lt_size ho) (Nat.le_trans I.sz h)) (Nat.lt_irrefl _)
theorem Inv.Qa(I:Inv X pins σ H s):∀x c,X.env.cells.lookup x=some c→c≠X.env.locals:=fun x c e z=>by
 obtain⟨v,o,ho,hd⟩:=I.cell x c e;obtain⟨m,⟨o',es,ep,BO,zj,_⟩,_⟩:=I.loc;rw[z,BO] at ho;cases ho;rw[zj] at hd;cases hd
theorem Inv.sk(I:Inv X pins σ H s):s.heap.FunFrames X.base X.outer:=by
 have all:∀(l:List Env),(∀b∈wz l,b∈X.fs)→X.fD.heap.FunFrames X.base l→s.heap.FunFrames X.base l:=by
  intro l
  induction l with
  |nil=>intro _ _;trivial
  |cons env r ih=>
   intro hs hl;obtain⟨hk,⟨L,o,hf,hn,ho,hd⟩,hr⟩:=hl;have hL:L∈X.fs:=hs L (by unfold wz;rw[List.filterMap_cons,hf];exact List.mem_cons_self);obtain⟨sl,e⟩:=I.base.slot L o ho (I.ok.NP L hL) hL fun z=>I.ok.Ik L z hL;exact⟨hk,⟨L,_,hf,hn,e,hd⟩,ih (fun b hb=>hs b (by unfold wz;rw[List.filterMap_cons,hf];exact List.mem_cons_of_mem _ hb)) hr⟩
 exact all X.outer (fun _ hb=>hb) I.ok.sk
theorem Inv.stack(I:Inv X pins σ H s):s.heap.FunFrames X.base X.stack:=by
 rcases I.ok.Xg with e|⟨e,hf⟩
 ·rw[e];exact I.sk
 ·rw[e];obtain⟨m,hn,_⟩:=I.loc;refine .cons (by rw[I.ok.kind];decide) hf hn ?_ I.sk;exact Heap.get?_none_of_le (Nat.le_trans I.ok.Ih I.ok.above)
theorem Inv.AO(I:Inv X pins σ H s):∀b∈wz X.stack,b∈X.env.locals::X.fs:=fun b hb=>by
 rcases I.ok.Xg with e|⟨e,hf⟩
 ·rw[e] at hb;exact List.mem_cons_of_mem _ hb
 ·rw[e] at hb;unfold wz at hb;rw[List.filterMap_cons,hf] at hb;exact hb
theorem Inv.wj(I:Inv X pins σ H s):∀b∈wz X.stack,H b=none:=fun b hb=>by
 rcases List.mem_cons.mp (I.AO b hb) with e|hb
 ·rw[e];exact I.free
 ·obtain⟨_,o,ho,_⟩:=I.ok.sk.mem hb;exact I.base.free b o ho (I.ok.NP b hb) fun z=>I.ok.Ik b z hb
theorem Inv.step{g' :Array GenState}{t' :Nat}{d' :Drawn}{ch:aZ}(I:Inv X pins σ H s)
 (NJ:∀b∈ch,(b∈X.ex∨X.fD.heap.objs.size≤b)∧b≠X.env.locals∧(∀x c,X.env.cells.lookup x=some c→c≠b)∧∀p∈X.pn++pins,p.1≠b)
 (keep:∀b o,b≠X.env.locals→b∉X.fs→b∉ch→s.heap.get? b=some o→H b=none→h'.get? b=some o)
 (slot:∀b o,b≠X.env.locals→b∈X.fs→b∉ch→s.heap.get? b=some o→H b=none→∃sl,h'.get? b=some {o with slots:=sl}) (free:∀b o,b∉ch→s.heap.get? b=some o→H b=none→H' b=none)
 (there:∀b o,b∉ch→s.heap.get? b=some o→∃o',h'.get? b=some o')
 (rS:∀b xs,H b=some (.tup xs)→H' b=some (.tup xs)) (pH:∀b o u,H b=some (.gz o u)→H' b=some (.gz o u)) (rT:∀b ps,H b=some (.Pc ps)→∃more,H' b=some (.Pc (ps++more)))
 (ns:∀m,s.heap.Ns X.env.locals m→h'.Ns X.env.locals m) (bD:qE X.prog X.w H' h') (hg:AllBare g'):
 Inv X pins σ H' {s with heap:=h',gens:=g',drawn:=d',toks:=t'}:=by
 have neL:∀b o,X.fD.heap.get? b=some o→b≠X.env.locals:=fun b o e=>Nat.ne_of_lt (Nat.lt_of_lt_of_le (Heap.lt_size e) I.ok.above)
 have neC:∀b o,X.fD.heap.get? b=some o→b∉X.ex→b∉ch:=fun b o e hx hb=>by
  rcases(NJ b hb).1 with z|z
  ·exact hx z
  ·exact absurd (Nat.lt_of_lt_of_le (Heap.lt_size e) z) (Nat.lt_irrefl _)
 have cellK:∀x c,X.env.cells.lookup x=some c→∀v,s.heap.IsCell c v→h'.IsCell c v:=fun x c e v ⟨o,ho,hd⟩=>by
  have Zv:c∉ch:=fun z=>(NJ c z).2.2.1 x c e rfl;by_cases hc:c∈X.fs
  ·obtain⟨sl,q⟩:=slot c o (I.Qa x c e) hc Zv ho (I.jf x c e);exact⟨_,q,hd⟩
  ·exact⟨o,keep c o (I.Qa x c e) hc Zv ho (I.jf x c e),hd⟩
 refine⟨I.ok,I.os,hg,⟨fun b o e n hb hx=> ?_,fun b o e n hb hx=> ?_,fun b o e n hx=> ?_,fun b o e hx=> ?_,fun b xs e=>rS b xs (I.base.rS b xs e),fun b o xs e=>pH b o xs (I.base.pH b o xs e),fun b ps e=> ?_⟩,?_,fun x c e=> ?_,?_,fun x c e=> ?_,fun p hp=> ?_,bD,I.len⟩
 ·exact keep b o (neL b o e) hb (neC b o e hx) (I.base.keep b o e n hb hx) (I.base.free b o e n hx)
 ·obtain⟨sl,e1⟩:=I.base.slot b o e n hb hx;obtain⟨Yr,e2⟩:=slot b _ (neL b o e) hb (neC b o e hx) e1 (I.base.free b o e n hx);exact⟨Yr,e2⟩
 ·obtain⟨o',e1⟩:=I.base.there b o e hx;exact free b o' (neC b o e hx) e1 (I.base.free b o e n hx)
 ·obtain⟨o',e1⟩:=I.base.there b o e hx;exact there b o' (neC b o e hx) e1
 ·obtain⟨m1,e1⟩:=I.base.rT b ps e;obtain⟨m2,e2⟩:=rT b _ e1;exact⟨m1++m2,by rw[e2,Array.append_assoc]⟩
 ·obtain⟨m,hn,hl⟩:=I.loc;refine⟨m,ns m hn,fun i x v e1 e2 e3=> ?_⟩;obtain⟨u,r,l⟩:=hl i x v e1 e2 e3;refine⟨u,r,?_⟩;rcases l with l|⟨k,c,e,z⟩
  ·exact .inl l
  ·exact .inr ⟨k,c,e,cellK x c e _ z⟩
 ·obtain⟨v,z⟩:=I.cell x c e;exact⟨v,cellK x c e v z⟩
 ·obtain⟨m,⟨o,_,_,ho,_⟩,_⟩:=I.loc;exact free _ o (fun z=>(NJ _ z).2.1 rfl) ho I.free
 ·obtain⟨v,o,ho,hd⟩:=I.cell x c e;exact free c o (fun z=>(NJ c z).2.2.1 x c e rfl) ho (I.jf x c e)
 ·obtain⟨e,n,ne,nf,d⟩:=I.pin p hp;have Zv:p.1∉ch:=fun z=>(NJ p.1 z).2.2.2 p hp rfl;exact⟨keep p.1 p.2 ne nf Zv e n,free p.1 p.2 Zv e n,ne,nf,d⟩
theorem Inv.un{t' :Nat}(I:Inv X pins σ H s)(u:Un X.fs [] H H' s.heap h')(bD:qE X.prog X.w H' h'):Inv X pins σ H' {s with heap:=h',toks:=t'}:=by
 obtain⟨m,⟨o,es,ep,ho,r⟩,_⟩:=id I.loc;obtain⟨sl,hL⟩:=u.any ho I.free (by simp)
 exact I.step (g' :=s.gens) (d' :=s.drawn) (ch:=[]) (fun _ z=>nomatch z) (fun b o _ hb _ e n=>u.keep b o e n hb (by simp)) (fun b o _ hb _ e n=>u.slot b o e n hb (by simp)) (fun b o _ e n=>u.free b o e n (by simp)) (fun b o _ e=>u.there b o e (by simp)) u.rS u.pH u.rT (fun m' hm=>by
  obtain⟨o',Pk,Pq,BO,r'⟩:=hm;rw[ho] at BO;cases BO
  exact⟨_,Pk,Pq,hL,r'⟩) bD I.bare
theorem Inv.call{g' :Array GenState}{t' :Nat}{d' :Drawn}{ch:aZ}(I:Inv X pins σ H s)(u:Un (wz X.stack) ch H H' s.heap h')(bD:qE X.prog X.w H' h')(hg:AllBare g')
 (NJ:∀b∈ch,(b∈X.ex∨X.fD.heap.objs.size≤b)∧b≠X.env.locals∧(∀x c,X.env.cells.lookup x=some c→c≠b)∧∀p∈X.pn++pins,p.1≠b):
 Inv X pins σ H' {s with heap:=h',gens:=g',drawn:=d',toks:=t'}:=by
 obtain⟨m,⟨o,es,ep,ho,r⟩,_⟩:=id I.loc;obtain⟨sl,hL⟩:=u.any ho I.free fun z=>(NJ _ z).2.1 rfl
 exact I.step (ch:=ch) NJ (fun b o hL hb hc e n=>u.keep b o e n (fun z=>(List.mem_cons.mp (I.AO b z)).elim hL hb) hc) (fun b o _ _ hc e n=>u.any e n hc) (fun b o hc e n=>u.free b o e n hc) (fun b o hc e=>u.there b o e hc) u.rS u.pH u.rT (fun m' hm=>by
  obtain⟨o',Pk,Pq,BO,r'⟩:=hm;rw[ho] at BO;cases BO
  exact⟨_,Pk,Pq,hL,r'⟩) bD hg
theorem Inv.turned{t' :Nat}{it:Addr}(I:Inv X pins σ H s)(k:∀b o,b≠it→s.heap.get? b=some o→h'.get? b=some o)(hn:H it=none)(hL:it≠X.env.locals)
 (h1:it∈X.ex∨X.fD.heap.objs.size≤it) (h2:∀x c,X.env.cells.lookup x=some c→c≠it) (h3:∀p∈X.pn++pins,p.1≠it):Inv X pins σ H {s with heap:=h',toks:=t'}:=by
 have nit:∀b u,H b=some u→b≠it:=fun b u e z=>by rw[z,hn] at e;cases e
 refine I.step (g' :=s.gens) (d' :=s.drawn) (ch:=[it]) (fun b hb=> ?_) (fun b o _ _ hc e _=>k b o (fun z=>hc (by simp[z])) e) (fun b o _ _ hc e _=>⟨o.slots,k b o (fun z=>hc (by simp[z])) e⟩) (fun _ _ _ _ n=>n)
  (fun b o hc e=>⟨o,k b o (fun z=>hc (by simp[z])) e⟩) (fun _ _ e=>e) (fun _ _ _ e=>e) (fun b ps e=>⟨#[],by rw[e];simp⟩) (fun m hm=> ?_) (fun b u e=> ?_) I.bare
 ·have e:b=it:=by simpa using hb
  subst e;exact⟨h1,hL,h2,h3⟩
 ·obtain⟨o,es,ep,ho,r⟩:=hm;exact⟨o,es,ep,k _ o (Ne.symm hL) ho,r⟩
 ·refine(I.bD b u e).qR (fun c v hc q=>k c v ?_ q) (fun _ q=>q) fun _ _ q=>q;rcases hc with z|z
  ·rw[z];exact nit b u e
  ·exact nit c _ z
theorem Inv.tok(I:Inv X pins σ H s)(t:Nat):Inv X pins σ H {s with toks:=t}:=I.un (h' :=s.heap) (t' :=t) Un.refl I.bD
theorem Inv.kept{t' :Nat}(I:Inv X pins σ H s)(k:∀b u,s.heap.get? b=some u→h'.get? b=some u):Inv X pins σ H {s with heap:=h',toks:=t'}:=I.un (Un.kept k) (I.bD.kept k)
theorem Inv.laid{a:Addr}{o:HO}{t' :Nat}(I:Inv X pins σ H s)(k:∀b u,s.heap.get? b=some u→h'.get? b=some u)(hp:s.heap.objs.size≤a)(new:bq X.prog X.w (upd H a o) h' a o):
 Inv X pins σ (upd H a o) {s with heap:=h',toks:=t'}:=I.un (Un.laid k hp (I.bD.fresh hp)) (I.bD.laid k hp new)
theorem Inv.write{x e:Addr}{o:HO}{t' :Nat}(I:Inv X pins σ H s)(mu:Mut (H x))(he:e=x∨H e=some (.own x))(k:∀b u,b≠e→s.heap.get? b=some u→h'.get? b=some u)(W6:∃u,h'.get? e=some u)
 (new:bq X.prog X.w (upd H x o) h' x o):Inv X pins σ (upd H x o) {s with heap:=h',toks:=t'}:=I.un (Un.write mu he k W6) (I.bD.write mu he k W6 new)
theorem Inv.weak{cK :List (Option V)}(I:Inv X pins σ H s)(hl:cK.length=σ.length)(w:∀(i:Nat) v,cK[i]? =some (some v)→σ[i]? =some (some v)):Inv X pins cK H s:=
 ⟨I.ok,I.os,I.bare,I.base,let⟨m,hn,hl'⟩:=I.loc;⟨m,hn,fun i x v e1 e2 e3=>hl' i x v e1 (w i v e2) e3⟩,I.cell,I.free,I.jf,I.pin,I.bD,hl.trans I.len⟩
theorem Inv.Gz{Ai :aL}(I:Inv X pins σ H s)(h:∀p∈Ai,s.heap.get? p.1=some p.2∧H p.1=none∧p.1≠X.env.locals∧p.1∉X.fs∧∀v,p.2.data≠.cell v):Inv X Ai σ H s:=
 ⟨I.ok,I.os,I.bare,I.base,I.loc,I.cell,I.free,I.jf,fun p hp=>(List.mem_append.mp hp).elim (fun z=>I.pin p (List.mem_append_left _ z)) (h p),I.bD,I.len⟩
theorem Dc{N:aX}(hN:N.Nodup){i j:Nat}{x:Str}(a:N[i]? =some x)(b:N[j]? =some x):i=j:=by
 obtain⟨h1,e1⟩:=List.getElem?_eq_some_iff.mp a;obtain⟨h2,e2⟩:=List.getElem?_eq_some_iff.mp b;exact(List.getElem_inj hN).mp (e1.trans e2.symm)
theorem zD{M:Model}{A:Around}{E:Value→Shared→Prop}{i:Nat}{x:Str}{v:V}{u:Value}{Q:Unit→Shared→Prop}(I:Inv X pins σ H s)(hN:X.N.Nodup)(hi:X.N[i]? =some x)(hx:Loc X.env.scope x)(r:RelV v u)
 (h:∀s',Inv X pins (σ.set i (some v)) H s'→(∃a,Heap.SameBut a s.heap s'.heap∧(a=X.env.locals∨X.env.cells.lookup x=some a))→Q () s') (hf:X.fn x=true∨X.env.scope.names.lookup x=some .local:=by first|exact .inl rfl|exact .inr rfl|assumption):wpAny M A (storeName X.env x u) Q E s:=by
 obtain⟨m,hn,hl⟩:=id I.loc;have A4:(X.env.scope.kind== .class||(X.env.scope.kind== .module&&X.env.locals !=X.env.globals))=false:=by rw[I.ok.kind];rfl
 have YZ:i<σ.length:=by rw[I.len];exact(List.getElem?_eq_some_iff.mp hi).1
 have Qa:=I.Qa
 have tracked:∀{a:Addr} {h' :Heap},(∃o,s.heap.get? a=some o∧H a=none)→Heap.SameBut a s.heap h'→qE X.prog X.w H h' :=fun{a h'} ha hs b ob e=>by
  obtain⟨_,_,Q3⟩:=ha;refine(I.bD b ob e).qR (fun c w' hc q=>(hs.2 c ?_).trans q) (fun _ q=>q) fun _ _ q=>q
  rintro rfl
  rcases hc with rfl|hc
  ·rw[Q3] at e;cases e
  ·rw[Q3] at hc;cases hc
 rcases hx with hk|hk
 ·refine wpAny_storeName_local hk hn (fun h' Ii hs=> ?_) A4;obtain⟨oL,_,_,hoL,_⟩:=id hn;refine h _ ⟨I.ok,I.os,I.bare,⟨fun b o e n hb hx=> ?_,fun b o e n hb hx=> ?_,I.base.free,fun b o e hx=> ?_,I.base.rS,I.base.pH,I.base.rT⟩,⟨_,Ii,fun j y v' e1 e2 e3=> ?_⟩,fun y c e=> ?_,I.free,I.jf,fun p hp=> ?_,tracked ⟨oL,hoL,I.free⟩ hs,by simpa using I.len⟩ ⟨_,hs,.inl rfl⟩
  ·exact(hs.2 b (Nat.ne_of_lt (Nat.lt_of_lt_of_le (Heap.lt_size e) I.ok.above))).trans (I.base.keep b o e n hb hx)
  ·obtain⟨sl,e1⟩:=I.base.slot b o e n hb hx;exact⟨sl,(hs.2 b (Nat.ne_of_lt (Nat.lt_of_lt_of_le (Heap.lt_size e) I.ok.above))).trans e1⟩
  ·obtain⟨o',e1⟩:=I.base.there b o e hx;exact⟨o',(hs.2 b (Nat.ne_of_lt (Nat.lt_of_lt_of_le (Heap.lt_size e) I.ok.above))).trans e1⟩
  ·by_cases hj:j=i
   ·subst hj;rw[hi] at e1;cases e1
    rw[List.getElem?_set_self YZ] at e2;cases e2;exact⟨u,r,.inl ⟨hk,by simp⟩⟩
   ·rw[List.getElem?_set_ne (Ne.symm hj)] at e2;obtain⟨u',r',q⟩:=hl j y v' e1 e2 e3;refine⟨u',r',?_⟩;rcases q with⟨k,e⟩|⟨k,c,e,z⟩
    ·refine .inl ⟨k,?_⟩;have:y≠x:=fun e=>hj (Dc hN e1 (e▸hi));simp[this,e]
    ·exact .inr ⟨k,c,e,z.sameBut hs (Qa y c e)⟩
  ·obtain⟨w',z⟩:=I.cell y c e;exact⟨w',z.sameBut hs (Qa y c e)⟩
  ·obtain⟨e,n,ne,nf,d⟩:=I.pin p hp;exact⟨(hs.2 p.1 ne).trans e,n,ne,nf,d⟩
 ·have hfn:X.fn x=true:=by
   rcases hf with z|z
   ·exact z
   ·rw[z] at hk;cases hk
  obtain⟨c,hc⟩:=I.ok.has x (.inl hk);obtain⟨w',z⟩:=I.cell x c hc;refine wpAny_storeName_cell I.ok.kind hk hc z (fun h' XC hs=> ?_);obtain⟨oc,hoc,aoX⟩:=id z;refine h {s with heap:=h'} ⟨I.ok,I.os,I.bare,⟨fun b o e n hb hx=> ?_,fun b o e n hb hx=> ?_,I.base.free,fun b o e hx=> ?_,I.base.rS,I.base.pH,I.base.rT⟩,⟨m,hn.sameBut hs (Ne.symm (Qa x c hc)),fun j y v' e1 e2 e3=> ?_⟩,fun y c' e=> ?_,I.free,I.jf,fun p hp=> ?_,tracked ⟨oc,hoc,I.jf x c hc⟩ hs,by simpa using I.len⟩ ⟨c,hs,.inr hc⟩
  ·exact(hs.2 b (Nat.ne_of_lt (Nat.lt_of_lt_of_le (Heap.lt_size e) (I.ok.WD x c hfn hc)))).trans (I.base.keep b o e n hb hx)
  ·obtain⟨sl,e1⟩:=I.base.slot b o e n hb hx;exact⟨sl,(hs.2 b (Nat.ne_of_lt (Nat.lt_of_lt_of_le (Heap.lt_size e) (I.ok.WD x c hfn hc)))).trans e1⟩
  ·obtain⟨o',e1⟩:=I.base.there b o e hx;exact⟨o',(hs.2 b (Nat.ne_of_lt (Nat.lt_of_lt_of_le (Heap.lt_size e) (I.ok.WD x c hfn hc)))).trans e1⟩
  ·by_cases hj:j=i
   ·subst hj;rw[hi] at e1;cases e1
    rw[List.getElem?_set_self YZ] at e2;cases e2;exact⟨u,r,.inr ⟨.inl hk,c,hc,XC⟩⟩
   ·rw[List.getElem?_set_ne (Ne.symm hj)] at e2;obtain⟨u',r',q⟩:=hl j y v' e1 e2 e3;refine⟨u',r',?_⟩;rcases q with q|⟨k,c',e,z'⟩
    ·exact .inl q
    ·refine .inr ⟨k,c',e,z'.sameBut hs ?_⟩
     rintro rfl
     exact hj (Dc hN e1 (I.ok.inj _ _ _ e hc▸hi))
  ·by_cases hcc:c' =c
   ·subst hcc;exact⟨_,XC⟩
   ·obtain⟨w2,z2⟩:=I.cell y c' e;exact⟨w2,z2.sameBut hs hcc⟩
  ·obtain⟨e,n,ne,nf,d⟩:=I.pin p hp;refine⟨(hs.2 p.1 ?_).trans e,n,ne,nf,d⟩;intro q;rw[q,hoc] at e;have q' :oc=p.2:=Option.some.inj e;exact d w' (by rw[←q'];exact aoX)
theorem ub{M:Model}{A:Around}{E:Value→Shared→Prop}{i:Nat}{x:Str}{v:V}{u:Value}{Q:Unit→Shared→Prop}(I:Inv X pins σ H s)(hN:X.N.Nodup)(hi:X.N[i]? =some x)(hx:Loc X.env.scope x)(r:RelV v u)
 (h:∀s',Inv X pins (σ.set i (some v)) H s'→Q () s') (hf:X.fn x=true∨X.env.scope.names.lookup x=some .local:=by first|exact .inl rfl|exact .inr rfl|assumption):wpAny M A (storeName X.env x u) Q E s:=
 zD I hN hi hx r (fun s' I' _=>h s' I') hf
theorem Inv.TV{s' :Shared}{ch:aZ}(I:Inv X pins σ H s)(ho:s'.os=s.os)(u:Un (wz X.stack) ch H H' s.heap s'.heap)(bD:qE X.prog X.w H' s'.heap)(hg:AllBare s'.gens)
 (NJ:∀b∈ch,(b∈X.ex∨X.fD.heap.objs.size≤b)∧b≠X.env.locals∧(∀x c,X.env.cells.lookup x=some c→c≠b)∧∀p∈X.pn++pins,p.1≠b):Inv X pins σ H' s' :=by
 obtain⟨h',g',d',t',o'⟩:=s';have e:o' =s.os:=ho;subst e;exact I.call (g' :=g') (t' :=t') (d' :=d') u bD hg NJ
end
abbrev XK:=Value→Option Addr→Hp→Prop
abbrev St:=List (Option V)
abbrev VK:=V→Hp→Prop
abbrev TE:=St→Hp→VK→Prop
abbrev TT:=St→Hp→(Bool→Hp→Prop)→Prop
abbrev TA:=St→Hp→(az→Hp→Prop)→Prop
structure Ends where
 nx:St→Hp→Prop
 rt:VK
 bk:St→Hp→Prop:=fun _ _=>False
 ct:St→Hp→Prop:=fun _ _=>False
abbrev TS:=Ends→St→Hp→Prop
def EP(X:Cx)(pins:aL)(σ:St)(Q:VK)(u:Value)(s' :Shared):Prop:=∃v H',Inv X pins σ H' s'∧RelV v u∧Q v H'
def TP(X:Cx)(pins:aL)(σ:St)(Q:Bool→Hp→Prop)(b:Bool)(s' :Shared):Prop:=∃H',Inv X pins σ H' s'∧Q b H'
def AP(X:Cx)(pins:aL)(σ:St)(Q:az→Hp→Prop)(us:aA)(s' :Shared):Prop:=∃vs H',Inv X pins σ H' s'∧Vals vs us∧Q vs H'
def SP(X:Cx)(pins:aL)(D:Ends)(f:Flow)(s' :Shared):Prop:=
 match f with
 | .next=>∃cK H',Inv X pins cK H' s'∧D.nx cK H'
 | .brk=>∃cK H',Inv X pins cK H' s'∧D.bk cK H'
 | .cont=>∃cK H',Inv X pins cK H' s'∧D.ct cK H'
 | .ret u=>∃v cK H',Inv X pins cK H' s'∧RelV v u∧D.rt v H'
def PE(X:Cx)(e:Expr)(t:TE):Prop:=
 ∀(pins:aL) (s:Shared) (σ:St) (H:Hp) (Q:VK),Inv X pins σ H s→t σ H Q→wpAny (model X.prog X.w) X.A (eval e X.env) (EP X pins σ Q) X.xe s
def PT(X:Cx)(e:Expr)(t:TT):Prop:=
 ∀(pins:aL) (s:Shared) (σ:St) (H:Hp) (Q:Bool→Hp→Prop),Inv X pins σ H s→t σ H Q→wpAny (model X.prog X.w) X.A (isTrue e X.env (eval e X.env)) (TP X pins σ Q) X.xe s
def PW(X:Cx)(e:Expr)(t:TT):Prop:=
 ∀(whole:Sem Value) (pins:aL) (s:Shared) (σ:St) (H:Hp) (Q:Bool→Hp→Prop),Inv X pins σ H s→t σ H Q→wpAny (model X.prog X.w) X.A (isTrue e X.env whole) (TP X pins σ Q) X.xe s
theorem PW.pt{X:Cx}{e:Expr}{t:TT}(h:PW X e t):PT X e t:=h _
def PA(X:Cx)(es:cR)(t:TA):Prop:=
 ∀(pos:Pos) (pins:aL) (s:Shared) (σ:St) (H:Hp) (Q:az→Hp→Prop),Inv X pins σ H s→t σ H Q→wpAny (model X.prog X.w) X.A (spliced (backTo pos (starEach es X.env))) (AP X pins σ Q) X.xe s
def PS(X:Cx)(st:Stmt)(t:TS):Prop:=
 ∀(pins:aL) (s:Shared) (σ:St) (H:Hp) (D:Ends),Inv X pins σ H s→t D σ H→wpAny (model X.prog X.w) X.A (exec st X.env) (SP X pins D) X.xe s
def yW(X:Cx)(st:List Stmt)(t:TS):Prop:=
 ∀(pins:aL) (s:Shared) (σ:St) (H:Hp) (D:Ends),Inv X pins σ H s→t D σ H→wpAny (model X.prog X.w) X.A (execs st X.env) (SP X pins D) X.xe s
theorem cm{α:Type}{t:Sem α}{Q Q' :α→Shared→Prop}{M:Model}{A:Around}{E:Value→Shared→Prop}{s:Shared}(h:wpAny M A t Q E s)(hQ:∀a s,Q a s→Q' a s):wpAny M A t Q' E s:=wpAny_mono h hQ fun _ _ x=>x
section
variable{X:Cx}
theorem bin{a b:Expr}{ta tb:TE}(ha:PE X a ta)(hb:PE X b tb){pins:aL}{s:Shared}{σ:St}{H:Hp}{R:V→V→Hp→Prop}(I:Inv X pins σ H s)(h:ta σ H fun x H1=>tb σ H1 fun y H2=>R x y H2)
 {α:Type} {Q:α→Shared→Prop} {f:Value→Value→Sem α}
 (hf:∀v u s2 x y H2,Inv X pins σ H2 s2→RelV x v→RelV y u→R x y H2→wpAny (model X.prog X.w) X.A (f v u) Q X.xe s2):
 wpAny (model X.prog X.w) X.A (eval a X.env) (fun v bF=>wpAny (model X.prog X.w) X.A (eval b X.env) (fun u qk=>wpAny (model X.prog X.w) X.A (f v u) Q X.xe qk) X.xe bF) X.xe s:=by
 refine cm (ha pins s σ H _ I h) fun v s1 ⟨x,H1,I1,r1,q1⟩=> ?_;refine cm (hb pins s1 σ H1 _ I1 q1) fun u s2 ⟨y,H2,I2,r2,q2⟩=> ?_;exact hf v u s2 x y H2 I2 r1 r2 q2
def ZS(i:Nat):TE:=fun σ H Q=>∃v,σ[i]? =some (some v)∧Q v H
def tC(v:V):TE:=fun _ H Q=>Q v H
theorem Wu{i:Nat}{x:Str}{pos:Pos}(hN:X.N[i]? =some x)(hv:Vis X.env.scope x)(hd:(x==("__debug__" :Str))=false:=by decide)(Ao:(x==("__classdict__" :Str))=false:=by decide):PE X (.Name x pos) (ZS i):=by
 intro pins s σ H Q I h;obtain⟨v,e,h⟩:=h;obtain⟨m,hn,hl⟩:=I.loc;obtain⟨u,r,l⟩:=hl i x v hN e hv;have fin:EP X pins σ Q u s:=⟨v,H,I,r,h⟩;rcases l with⟨hk,hm⟩|⟨hk,c,hc,QN⟩
 ·exact wpAny_Name (wpAny_loadName_local I.ok.kind hk hn hm fin) hd
 ·rcases hk with hk|hk
  ·exact wpAny_Name (wpAny_loadName_cell I.ok.kind hk hc QN fin) hd
  ·exact wpAny_Name (wpAny_loadName_free I.ok.kind hk hc QN fin Ao) hd
theorem ax{i j pos}:PE X (.Constant (.int i) j pos) (tC (.int i)):=fun _ _ _ H _ I h=>wpAny_Constant_int ⟨.int i,H,I.tok _,⟨_,rfl⟩,h⟩
theorem j9{b j pos}:PE X (.Constant (.bool b) j pos) (tC (.bl b)):=fun _ _ _ H _ I h=>Constant_bool ⟨.bl b,H,I,rfl,h⟩
theorem dh{j pos}:PE X (.Constant .none j pos) (tC .bJ):=fun _ _ _ H _ I h=>Constant_none ⟨.bJ,H,I,rfl,h⟩
theorem aS{x j pos}:PE X (.Constant (.str x) j pos) (tC (.str x)):=fun _ _ _ H _ I h=>Calls.Constant_str ⟨.str x,H,I.tok _,⟨_,rfl⟩,h⟩
def Gl(X:Cx)(x:Str):Prop:=X.env.kindOf x=some .globalImplicit
theorem ou{E:Value→Shared→Prop}{pins:aL}{s:Shared}{σ:St}{H:Hp}{x:Str}{u:Value}{pos:Pos}{Q:Value→Shared→Prop}(I:Inv X pins σ H s)(hg:Gl X x)(hm:X.mg x=some u)(h:Q u s)
 (hd:(x==("__debug__" :Str))=false:=by decide):wpAny (model X.prog X.w) X.A (eval (.Name x pos) X.env) Q E s:=
 Calls.Name_function_global I.ok.kind hg (Calls.loadGlobal_global (by rw[I.ok.glob];exact I.mod.glob.keeps I.bk) hm h) hd
theorem n9{E:Value→Shared→Prop}{pins:aL}{s:Shared}{σ:St}{H:Hp}{x:Str}{u:Value}{pos:Pos}{Q:Value→Shared→Prop}(I:Inv X pins σ H s)(hg:Gl X x)(hm:X.mg x=none)(hv:bootBuiltins x=some u)(h:Q u s)
 (hn:x≠ "__name__":=by decide) (hd:(x==("__debug__" :Str))=false:=by decide):wpAny (model X.prog X.w) X.A (eval (.Name x pos) X.env) Q E s:=by
 obtain⟨mb,h1,h2⟩:=I.mod.blt;exact Calls.Name_function_global I.ok.kind hg (Calls.loadGlobal_builtin (by rw[I.ok.glob];exact I.mod.glob.keeps I.bk) hm (by rw[I.ok.blt];exact h1.keeps I.bk) ((h2 x hn).trans hv) h) hd
theorem n5{x:Str}{v:V}{u:Value}{pos:Pos}(hg:Gl X x)(hm:X.mg x=some u)(r:RelV v u)(hd:(x==("__debug__" :Str))=false:=by decide):PE X (.Name x pos) (tC v):=
 fun _ _ _ H _ I h=>ou I hg hm ⟨v,H,I,r,h⟩ hd
theorem t7{x:Str}{v:V}{u:Value}{pos:Pos}(hg:Gl X x)(hm:X.mg x=none)(hv:bootBuiltins x=some u)(r:RelV v u)(hn:x≠ "__name__":=by decide)(hd:(x==("__debug__" :Str))=false:=by decide):PE X (.Name x pos) (tC v):=
 fun _ _ _ H _ I h=>n9 I hg hm hv ⟨v,H,I,r,h⟩ hn hd
variable{a b:Expr}{ta tb:TE}{pos:Pos}
def PC(X:Cx)(op:CmpOp)(a b:Expr)(t:TE):Prop:=
 ∀(pins:aL) (s:Shared) (σ:St) (H:Hp) (Q:VK),Inv X pins σ H s→t σ H Q→
  wpAny (model X.prog X.w) X.A (eval a X.env) (fun v bF=>wpAny (model X.prog X.w) X.A (eval b X.env) (fun u qk=>wpAny (model X.prog X.w) X.A (compareOp op v u) (EP X pins σ Q) X.xe qk) X.xe bF) X.xe s
theorem DK(b:Expr){op:CmpOp}(h:op≠.In)(h2:op≠.NotIn):behindInMarks op b=false:=by
 have e1:(op==CmpOp.In)=false:=by cases op<;>first|rfl|exact absurd rfl h
 have e2:(op==CmpOp.NotIn)=false:=by cases op<;>first|rfl|exact absurd rfl h2
 cases b<;>simp[behindInMarks,e1,e2]
def tB(t:TE):TT:=fun σ H Q=>t σ H fun x H1=>∃c,x= .bl c∧Q c H1
theorem MI{op:CmpOp}{t:TE}(h:PC X op a b t)(h1:behindInMarks op b=false:=by first|exact DK _ (by decide) (by decide)|rfl):PE X (.Compare a [op] [b] pos) t:=fun pins s σ H Q I hw=>wpAny_Compare1 (h pins s σ H Q I hw) h1
theorem amn{op:CmpOp}{t:TE}(h:PC X op a b t)(h1:behindInMarks op b=false:=by first|exact DK _ (by decide) (by decide)|rfl):PT X (.Compare a [op] [b] pos) (tB t):=by
 intro pins s σ H Q I hw;refine wpAny_isTrue_Compare1 (cm (h pins s σ H _ I hw) fun v s1 h1=>cm h1 fun u s2 h2=>cm h2 fun c s3 ⟨x,H1,I1,r1,q1⟩=> ?_) h1;obtain⟨d,rfl,q⟩:=q1;cases r1;exact wpAny_truthy_bool ⟨H1,I1,q⟩
theorem eZ{e:Expr}{t:TE}(h:PE X e t)(he:∀whole,isTrue e X.env whole=(do let v←whole;standAt e.pos;holding [v] (truthy v)):=by intro _;rfl):PT X e (tB t):=by
 intro pins s σ H Q I hw;refine isTrue_plain (cm (h pins s σ H _ I hw) fun v s1 ⟨x,H1,I1,r1,q1⟩=> ?_) (he _);obtain⟨d,rfl,q⟩:=q1;cases r1;exact wpAny_truthy_bool ⟨H1,I1,q⟩
variable{tA tB' :TT}{rest:cR}
def amt(t u:TT):TT:=fun σ H Q=>t σ H fun c H1=>if c=true then u σ H1 Q else Q false H1
def tOr(t u:TT):TT:=fun σ H Q=>t σ H fun c H1=>if c=true then Q true H1 else u σ H1 Q
def amP(t:TT):TT:=fun σ H Q=>t σ H fun c H1=>Q (!c) H1
theorem Wp(ha:PT X a tA):PW X (.BoolOp .And [a] pos) tA:=by
 intro wh pins s σ H Q I h;refine isTrue_and (cm (ha pins s σ H Q I h) fun c s1 e=> ?_)
 cases c with
 |true=>exact isTrue_and_nil e
 |false=>exact e
theorem jag(ha:PT X a tA):PW X (.BoolOp .Or [a] pos) tA:=by
 intro wh pins s σ H Q I h;refine isTrue_or (cm (ha pins s σ H Q I h) fun c s1 e=> ?_)
 cases c with
 |false=>exact isTrue_or_nil e
 |true=>exact e
theorem jaa(ha:PT X a tA)(hb:PW X (.BoolOp .And (b::rest) pos) tB'):PW X (.BoolOp .And (a::b::rest) pos) (amt tA tB'):=by
 intro wh pins s σ H Q I h;refine isTrue_and (cm (ha pins s σ H _ I h) fun c s1 ⟨H1,I1,q1⟩=> ?_)
 cases c with
 |true=>exact hb wh pins s1 σ H1 Q I1 q1
 |false=>exact⟨H1,I1,q1⟩
theorem jak(ha:PT X a tA)(hb:PW X (.BoolOp .Or (b::rest) pos) tB'):PW X (.BoolOp .Or (a::b::rest) pos) (tOr tA tB'):=by
 intro wh pins s σ H Q I h;refine isTrue_or (cm (ha pins s σ H _ I h) fun c s1 ⟨H1,I1,q1⟩=> ?_)
 cases c with
 |true=>exact⟨H1,I1,q1⟩
 |false=>exact hb wh pins s1 σ H1 Q I1 q1
theorem fu(ha:PT X a tA):PT X (.UnaryOp .Not a pos) (amP tA):=by
 intro pins s σ H Q I h;exact isTrue_not (ha pins s σ H (fun c H1=>Q (!c) H1) I h)
def X8(ta tb:TE):TE:=fun σ H Q=>ta σ H fun x H1=>∃c,x= .bl c∧if c=true then tb σ H1 Q else Q (.bl false) H1
def afC(ta tb:TE):TE:=fun σ H Q=>ta σ H fun x H1=>∃c,x= .bl c∧if c=true then Q (.bl true) H1 else tb σ H1 Q
def abT(ta:TE):TE:=fun σ H Q=>ta σ H fun x H1=>∃c,x= .bl c∧Q (.bl (!c)) H1
theorem mI{op}{t:TE}(h:PE X a t):PE X (.BoolOp op [a] pos) t:=fun pins s σ H Q I hw=>BoolOp_one (h pins s σ H Q I hw)
theorem o8(ha:PE X a ta)(hb:PE X (.BoolOp .And (b::rest) pos) tb):PE X (.BoolOp .And (a::b::rest) pos) (X8 ta tb):=by
 intro pins s σ H Q I h;refine BoolOp_and (cm (ha pins s σ H _ I h) fun v s1 ⟨x,H1,I1,r1,q1⟩=> ?_);obtain⟨c,rfl,q1⟩:=q1;cases r1;refine wpAny_truthy_bool ?_
 cases c with
 |true=>exact hb pins s1 σ H1 Q I1 q1
 |false=>exact⟨.bl false,H1,I1,rfl,q1⟩
theorem Gg(ha:PE X a ta)(hb:PE X (.BoolOp .Or (b::rest) pos) tb):PE X (.BoolOp .Or (a::b::rest) pos) (afC ta tb):=by
 intro pins s σ H Q I h;refine BoolOp_or (cm (ha pins s σ H _ I h) fun v s1 ⟨x,H1,I1,r1,q1⟩=> ?_);obtain⟨c,rfl,q1⟩:=q1;cases r1;refine wpAny_truthy_bool ?_
 cases c with
 |false=>exact hb pins s1 σ H1 Q I1 q1
 |true=>exact⟨.bl true,H1,I1,rfl,q1⟩
theorem MN(ha:PE X a ta):PE X (.UnaryOp .Not a pos) (abT ta):=by
 intro pins s σ H Q I h;refine UnaryOp_ (cm (ha pins s σ H _ I h) fun v s1 ⟨x,H1,I1,r1,q1⟩=> ?_);obtain⟨c,rfl,q1⟩:=q1;cases r1;exact not_of (wpAny_truthy_bool ⟨.bl (!c),H1,I1,rfl,q1⟩)
end
def bB(K:Frag)(H:Hp)(a:Addr)(xs:az):Prop:=
 Rd H a (.lst xs)∨
  ∃(o:Obj) (bz:Array Value) (n:Nat),K.lookup a=some o∧o.cls= .type "list" ∧o.dict=none∧o.data= .seq bz n∧bz.size≤sizeLine∧Vals xs bz.toList
def qQ(K:Frag)(H:Hp)(a:Addr)(xs:az):Prop:=
 Rd H a (.tup xs)∨
  ∃(o:Obj) (bz:Array Value) (n:Nat),K.lookup a=some o∧o.cls= .type "tuple" ∧o.data= .seq bz n∧bz.size≤sizeLine∧Vals xs bz.toList
def aps:Value→Option V
 | .none=>some .bJ
 | .bool b=>some (.bl b)
 | .int i _=>some (.int i)
 | .str x _=>some (.str x)
 | .bytes b _=>some (.Iy b)
 | .float b _=>some (.VA b)
 | .ref a=>some (.ref a)
 | .type n=>some (.ty n)
 |_=>none
theorem RelV.abs{x:V}{u:Value}(r:RelV x u):aps u=some x:=by
 cases x with
 |bJ=>cases r;rfl
 |bl _=>cases r;rfl
 |int _=>obtain⟨t,rfl⟩:=r;rfl
 |str _=>obtain⟨t,rfl⟩:=r;rfl
 |Iy _=>obtain⟨t,rfl⟩:=r;rfl
 |VA _=>obtain⟨t,rfl⟩:=r;rfl
 |ref _=>cases r;rfl
 |ty _=>cases r;rfl
theorem RelV.inj{x y:V}{u:Value}(r:RelV x u)(q:RelV y u):x=y:=Option.some.inj (r.abs.symm.trans q.abs)
theorem Vals.inj:∀{xs ys:az} {us:aA},Vals xs us→Vals ys us→xs=ys
 |_,_,_,.nil,.nil=>rfl
 |_,_,_,.cons r t,.cons r' t' =>by rw[r.inj r',Vals.inj t t']
section
variable{X:Cx}{pins:aL}{σ:St}{H:Hp}{s:Shared}{a:Addr}{xs ys:az}
theorem bB.of{K:Frag}(h:H a=some (.lst xs)):bB K H a xs:= .inl (.inl h)
theorem qQ.of{K:Frag}(h:H a=some (.tup xs)):qQ K H a xs:= .inl (.inl h)
theorem Inv.list(I:Inv X pins σ H s)(h:bB X.K H a xs):∃bz:aA,Vals xs bz∧PlainL s.heap a bz.toArray∧xs.length≤sizeLine:=by
 rcases h with h|⟨o,bz,n,hk,hc,hd,hs,hz,r⟩
 ·obtain⟨z,bz,n,r,e⟩:=h.ok I.bD;exact⟨bz,r,⟨_,n,e,rfl,rfl,rfl⟩,z⟩
 ·refine⟨bz.toList,r,⟨o,n,I.lD a o hk,hc,hd,by simpa using hs⟩,?_⟩;have e:=r.length;simp only[Array.length_toList] at e;omega
theorem Inv.tuple(I:Inv X pins σ H s)(h:qQ X.K H a xs):∃bz:aA,Vals xs bz∧IsTup s.heap a bz.toArray∧xs.length≤sizeLine:=by
 rcases h with h|⟨o,bz,n,hk,hc,hs,hz,r⟩
 ·obtain⟨z,bz,r,p⟩:=h.ok I.bD;exact⟨bz,r,p,z⟩
 ·refine⟨bz.toList,r,⟨o,I.lD a o hk,hc,n,by simpa using hs⟩,?_⟩;have e:=r.length;simp only[Array.length_toList] at e;omega
theorem Inv.xB(I:Inv X pins σ H s)(h:bB X.K H a xs)(h' :bB X.K H a ys):xs=ys:=by
 obtain⟨bz,r,⟨o,n,e,_,_,d⟩,_⟩:=I.list h;obtain⟨its',r',⟨o',n',e',_,_,d'⟩,_⟩:=I.list h';rw[e] at e';cases e'
 rw[d] at d';injection d' with d1 _;have:bz=its' :=by simpa using congrArg Array.toList d1
 subst this;exact r.inj r'
end
abbrev Cx.v9(X:Cx)(E:Value→Shared→Prop):Cx:={X with xe:=E}
abbrev Cx.RQ(X:Cx):Cx:=X.v9 fun _ _=>False
theorem Cx.Ok.v9{X:Cx}(ok:X.Ok)(E:Value→Shared→Prop):(X.v9 E).Ok:=
 ⟨ok.mod,ok.kind,ok.glob,ok.blt,ok.above,ok.inj,ok.has,ok.WD,ok.hd,ok.frames,ok.Xg,ok.exf,ok.bs,ok.Ih,ok.EF,ok.Ik,ok.sk,ok.NP⟩
theorem Cx.Ok.mC{X:Cx}{E:Value→Shared→Prop}(ok:(X.v9 E).Ok):X.Ok:=
 ⟨ok.mod,ok.kind,ok.glob,ok.blt,ok.above,ok.inj,ok.has,ok.WD,ok.hd,ok.frames,ok.Xg,ok.exf,ok.bs,ok.Ih,ok.EF,ok.Ik,ok.sk,ok.NP⟩
section
variable{X:Cx}{pins:aL}{σ:St}{H:Hp}{s:Shared}{E:Value→Shared→Prop}
theorem Inv.v9(I:Inv X pins σ H s)(E:Value→Shared→Prop):Inv (X.v9 E) pins σ H s:=⟨I.ok.v9 E,I.os,I.bare,I.base,I.loc,I.cell,I.free,I.jf,I.pin,I.bD,I.len⟩
theorem Inv.mC(I:Inv (X.v9 E) pins σ H s):Inv X pins σ H s:=⟨I.ok.mC,I.os,I.bare,I.base,I.loc,I.cell,I.free,I.jf,I.pin,I.bD,I.len⟩
theorem SP.mC{D:Ends}{f:Flow}{s' :Shared}(h:SP (X.v9 E) pins D f s'):SP X pins D f s' :=by
 cases f with
 |next=>obtain⟨cK,H',I,q⟩:=h;exact⟨cK,H',I.mC,q⟩
 |brk=>obtain⟨cK,H',I,q⟩:=h;exact⟨cK,H',I.mC,q⟩
 |cont=>obtain⟨cK,H',I,q⟩:=h;exact⟨cK,H',I.mC,q⟩
 |ret u=>obtain⟨v,cK,H',I,r,q⟩:=h;exact⟨v,cK,H',I.mC,r,q⟩
theorem PE.RQ{e:Expr}{t:TE}(h:PE X.RQ e t):PE X e t:=fun pins s σ H Q I hw=>
 wpAny_mono (h pins s σ H Q (I.v9 _) hw) (fun _ _ ⟨v,H',I',r,q⟩=>⟨v,H',I'.mC,r,q⟩) fun _ _ z=>False.elim z
theorem PT.RQ{e:Expr}{t:TT}(h:PT X.RQ e t):PT X e t:=fun pins s σ H Q I hw=>
 wpAny_mono (h pins s σ H Q (I.v9 _) hw) (fun _ _ ⟨H',I',q⟩=>⟨H',I'.mC,q⟩) fun _ _ z=>False.elim z
theorem yW.RQ{st:List Stmt}{t:TS}(h:yW X.RQ st t):yW X st t:=fun pins s σ H D I hw=>
 wpAny_mono (h pins s σ H D (I.v9 _) hw) (fun _ _ q=>q.mC) fun _ _ z=>False.elim z
end
section
variable{X:Cx}{st:Stmt}{rest:List Stmt}{t u:TS}{e:Expr}{te:TE}{pos:Pos}
def Yc:TS:=fun D σ H=>D.nx σ H
def afZ(t u:TS):TS:=fun D σ H=>t {D with nx:=u D} σ H
theorem bj:yW X [] Yc:=fun _ _ σ H _ I h=>wpAny_execs_nil ⟨σ,H,I,h⟩
theorem ak(h1:PS X st t)(h2:yW X rest u):yW X (st::rest) (afZ t u):=by
 intro pins s σ H D I h;refine wpAny_execs_cons (cm (h1 pins s σ H {D with nx:=u D} I h) fun f s1 q=> ?_)
 cases f with
 |next=>
  obtain⟨cK,H',I',q⟩:=q;exact h2 pins s1 cK H' D I' q
 |ret v=>exact q
 |brk=>exact q
 |cont=>exact q
theorem aq(h1:PS X st t):yW X [st] t:=by
 intro pins s σ H D I h;refine wpAny_execs_cons (cm (h1 pins s σ H D I h) fun f s1 q=> ?_)
 cases f with
 |next=>exact wpAny_execs_nil q
 |ret v=>exact q
 |brk=>exact q
 |cont=>exact q
theorem Inv.quiet{pins:aL}{σ:St}{H:Hp}{s:Shared}(I:Inv X pins σ H s):interactive X.env=false:=by simp[interactive,I.ok.kind]
def Yu(te:TE):TS:=fun D σ H=>te σ H fun _ H1=>D.nx σ H1
theorem aY(he:PE X e te)(hs:swapsWith e none pos.line X.env=pure false:=by rfl):PS X (.Expr e pos) (Yu te):=by
 intro pins s σ H D I h;exact wpAny_Expr_any (cm (he pins s σ H _ I h) fun v s1 ⟨x,H1,I1,r1,q1⟩=>⟨σ,H1,I1,q1⟩) I.quiet hs
def ah2(te:TE):TS:=fun D σ H=>te σ H D.rt
theorem aG(he:PE X e te):PS X (.Return (some e) pos) (ah2 te):=by
 intro pins s σ H D I h;exact wpAny_Return_some (cm (he pins s σ H _ I h) fun v s1 ⟨x,H1,I1,r1,q1⟩=>⟨x,σ,H1,I1,r1,q1⟩)
def apu(c:TT)(t u:TS):TS:=fun D σ H=>c σ H fun b H1=>if b=true then t D σ H1 else u D σ H1
theorem cg{c:Expr}{a b:List Stmt}{tc:TT}(hc:PT X c tc)(ha:yW X a t)(hb:yW X b u):PS X (.If c a b pos) (apu tc t u):=by
 intro pins s σ H D I h;refine wpAny_If (cm (hc pins s σ H _ I h) fun d s1 ⟨H1,I1,q1⟩=> ?_)
 cases d with
 |true=>exact ha pins s1 σ H1 D I1 q1
 |false=>exact hb pins s1 σ H1 D I1 q1
def Nl:TS:=fun _ _ _=>False
theorem eN:PS X st Nl:=fun _ _ _ _ _ _ h=>h.elim
theorem zZ{Vz:List Stmt}:yW X Vz Nl:=fun _ _ _ _ _ _ h=>h.elim
end
abbrev TG:=V→St→Hp→(St→Hp→Prop)→Prop
abbrev Sf:=az→St→Hp→(St→Hp→Prop)→Prop
def PG(X:Cx)(target:Expr)(t:TG):Prop:=
 ∀(pins:aL) (s:Shared) (σ:St) (H:Hp) (v:V) (u:Value) (Q:St→Hp→Prop),Inv X pins σ H s→RelV v u→t v σ H Q→
  wpAny (model X.prog X.w) X.A (assign target X.env u) (fun _ s' =>∃cK H',Inv X pins cK H' s'∧Q cK H') X.xe s
def PGs(X:Cx)(ts:cR)(t:Sf):Prop:=
 ∀(pins:aL) (s:Shared) (σ:St) (H:Hp) (vs:az) (us:aA) (Q:St→Hp→Prop),Inv X pins σ H s→Vals vs us→t vs σ H Q→
  wpAny (model X.prog X.w) X.A (assignInOrder ((assignEach ts X.env).map (·.2)) us) (fun _ s' =>∃cK H',Inv X pins cK H' s'∧Q cK H') X.xe s
abbrev WJ:=V→V→V→Hp→(Hp→Prop)→Prop
def XG(X:Cx)(t:WJ):Prop:=
 ∀(pins:aL) (s:Shared) (σ:St) (H:Hp) (o i v:V) (ov iv u:Value) (Q:Hp→Prop),Inv X pins σ H s→RelV o ov→RelV i iv→RelV v u→t o i v H Q→
  wpAny (model X.prog X.w) X.A (setItem ov iv u) (fun _ s' =>∃H',Inv X pins σ H' s'∧Q H') X.xe s
section
variable{X:Cx}{pos:Pos}
def JE(i:Nat):TG:=fun v σ H Q=>Q (σ.set i (some v)) H
theorem ba{i:Nat}{x:Str}(hN:X.N.Nodup)(hi:X.N[i]? =some x)(hx:Loc X.env.scope x)(hf:X.fn x=true∨X.env.scope.names.lookup x=some .local:=by first|exact .inl rfl|exact .inr rfl|assumption):PG X (.Name x pos) (JE i):=by
 intro pins s σ H v u Q I r h;exact wpAny_assign_Name (ub I hN hi hx r (fun s' I' =>⟨_,H,I',h⟩) hf)
def akE:Sf:=fun vs σ H Q=>vs=[]∧Q σ H
def aaS(t:TG)(u:Sf):Sf:=fun vs σ H Q=>∃v r,vs=v::r∧t v σ H fun cK H' =>u r cK H' Q
theorem we:PGs X [] akE:=by
 intro pins s σ H vs us Q I r h;obtain⟨e,h⟩:=h;subst e;cases r;exact assignInOrder_nil ⟨σ,H,I,h⟩
theorem jy{e:Expr}{es:cR}{t:TG}{u:Sf}(h1:PG X e t)(h2:PGs X es u)
 (hs:(assignEach (e::es) X.env).map (·.2)=assign e X.env::(assignEach es X.env).map (·.2):=by rfl):PGs X (e::es) (aaS t u):=by
 intro pins s σ H vs us Q I r h;obtain⟨v,vr,e1,h⟩:=h;subst e1
 cases r with
 |cons r rr=>
  rw[hs];refine assignInOrder_cons (cm (h1 pins s σ H _ _ _ I r h) fun _ s1 ⟨Xe,H1,I1,q1⟩=> ?_);exact h2 pins s1 Xe H1 _ _ Q I1 rr q1
def aad(K:Frag)(n:Nat)(t:Sf):TG:=fun v σ H Q=>∃a xs,v= .ref a∧qQ K H a xs∧xs.length=n∧t xs σ H Q
theorem J1{es:cR}{k:Nat}{t:Sf}{n:Nat}(hc:X.calm=true)(h:PGs X es t)
 (hn:(assignEach es X.env).length=n:=by rfl) (fw:(assignEach es X.env).findIdx? (·.1)=none:=by rfl):PG X (.Tuple es k pos) (aad X.K n t):=by
 intro pins s σ H v u Q I r hw;obtain⟨a,xs,e1,hq,hl,hw⟩:=hw;subst e1;cases r;obtain⟨bz,rv,ht,hz⟩:=I.tuple hq;refine assign_Tuple_tuple (I.ok.hd hc) ht (by simp[hn,←hl,rv.length]) fw fun h' hx=> ?_;have I1:Inv X pins σ H {s with heap:=h'}:=I.kept (t' :=s.toks) fun b o e=>hx b o (Nat.ne_of_lt (Heap.lt_size e)) e;exact h pins _ σ H xs _ Q I1 (by simpa using rv) hw
def akQ(to ti:TE)(t:WJ):TG:=fun v σ H Q=>to σ H fun o H1=>ti σ H1 fun i H2=>t o i v H2 fun H3=>Q σ H3
theorem oA{o i:Expr}{to ti:TE}{t:WJ}(ho:PE X o to)(hi:PE X i ti)(hs:XG X t)
 (ha:∀v,assign (.Subscript o i pos) X.env v=(do
  let ov←holding [v] (eval o X.env)
  let iv←holding [v,ov] (eval i X.env)
  standAt pos
  holding [v,ov,iv] (setItem ov iv v)
  release [v,ov,iv] []):=by intro _;rfl):PG X (.Subscript o i pos) (akQ to ti t):=by
 intro pins s σ H v u Q I r h;rw[ha];refine wpAny_bind (wpAny_holding (cm (ho pins s σ H _ I h) fun ov s1 ⟨x,H1,I1,r1,q1⟩=> ?_));refine wpAny_bind (wpAny_holding (cm (hi pins s1 σ H1 _ I1 q1) fun iv s2 ⟨y,H2,I2,r2,q2⟩=> ?_));refine wpAny_bind (wpAny_standAt (wpAny_bind (wpAny_holding (cm (hs pins s2 σ H2 x y v ov iv u _ I2 r1 r2 r q2) fun _ s3 ⟨H3,I3,q3⟩=> ?_))));exact wpAny_release ⟨σ,H3,I3,q3⟩
def V1(te:TE)(g:TG):TS:=fun D σ H=>te σ H fun x H1=>g x σ H1 D.nx
theorem nG{tg e:Expr}{te:TE}{g:TG}(he:PE X e te)(hg:PG X tg g)(hs:swapsWithSole [tg] e pos.line X.env=pure false:=by rfl)(hw:swappedStores [tg] e X.env=pure none:=by rfl)
 (h1:(assignEach [tg] X.env).map (·.2)=[assign tg X.env]:=by rfl):PS X (.Assign [tg] e pos) (V1 te g):=by
 intro pins s σ H D I h;refine wpAny_Assign_stores (cm (he pins s σ H _ I h) fun v s1 ⟨x,H1,I1,r1,q1⟩=> ?_) hs hw;rw[h1];exact cm (hg pins s1 σ H1 x v _ I1 r1 q1) fun _ s2 q=>q
theorem a_{i:Nat}{x:Str}{e:Expr}{te:TE}{pos' :Pos}(hN:X.N.Nodup)(hi:X.N[i]? =some x)(hx:Loc X.env.scope x)(he:PE X e te)(hs:swapsWith e (some (.Name x pos')) pos.line X.env=pure false:=by rfl)(hf:X.fn x=true∨X.env.scope.names.lookup x=some .local:=by first|exact .inl rfl|exact .inr rfl|assumption):
 PS X (.Assign [.Name x pos'] e pos) (V1 te (JE i)):=by
 intro pins s σ H D I h;refine wpAny_Assign_Name (cm (he pins s σ H _ I h) fun v s1 ⟨y,H1,I1,r1,q1⟩=> ?_) hs;exact ub I1 hN hi hx r1 (fun s2 I2=>⟨_,H1,I2,q1⟩) hf
end
section
variable{X:Cx}{pos:Pos}
def UL(c:TT)(tb:TS):TS:=fun D σ H=>∃W:Nat→St→Hp→Prop,(∃m,W m σ H)∧∀m σ H,W m σ H→
 c σ H fun b H1=>if b=true then ∃N:St→Hp→Prop,(∀cK H',N cK H'→∃m',m' <m∧W m' cK H')∧tb {D with nx:=N,ct:=N,bk:=D.nx} σ H1 else D.nx σ H1
theorem C3{c:Expr}{body:List Stmt}{tc:TT}{tb:TS}(hp:PassesOwn (model X.prog X.w) X.A X.env X.xe)(hc:PT X c tc)(hb:yW X body tb):PS X (.While c body [] pos) (UL tc tb):=by
 intro pins s σ H D I h;obtain⟨W,⟨m0,w0⟩,turn⟩:=h;refine wpAny_While (codeAny_whileLoop (fun n s' =>∃cK H',Inv X pins cK H' s'∧W n cK H') ?_ m0 ⟨σ,H,I,w0⟩)
 rintro n s1 ⟨Xe,H1,I1,w1⟩
 refine wpAny_passesOwn hp (cm (hc pins s1 Xe H1 _ I1 (turn n Xe H1 w1)) fun b s2 ⟨H2,I2,q2⟩=> ?_)
 cases b with
 |true=>
  obtain⟨N,hN,q2⟩:=q2;rw[if_pos rfl];refine wpAny_passesOwn hp (cm (hb pins s2 Xe H2 _ I2 q2) fun f s3 q3=> ?_)
  cases f with
  |next=>
   obtain⟨Lu,H3,I3,n3⟩:=q3;obtain⟨m',hm,w3⟩:=hN Lu H3 n3;exact⟨m',hm,Lu,H3,I3,w3⟩
  |cont=>
   obtain⟨Lu,H3,I3,n3⟩:=q3;obtain⟨m',hm,w3⟩:=hN Lu H3 n3;exact⟨m',hm,Lu,H3,I3,w3⟩
  |brk=>exact q3
  |ret v=>exact q3
 |false=>
  rw[if_neg Bool.false_ne_true];exact wpAny_execs_nil ⟨Xe,H2,I2,q2⟩
end
structure It where
 go:Nat→Hp→Prop
 wd:Nat→Hp→V→Hp→Prop
 stop:Nat→Hp→Prop
def u2(X:Cx)(pins:aL)(H:Hp)(b:Addr):Prop:=
 H b=none∧b≠X.env.locals∧b∉X.fs∧(b∈X.ex∨X.fD.heap.objs.size≤b)∧(∀x c,X.env.cells.lookup x=some c→c≠b)∧∀p∈X.pn++pins,p.1≠b
theorem Inv.Bh{X:Cx}{pins:aL}{σ:St}{H H' :Hp}{s:Shared}{b:Addr}(I:Inv X pins σ H s)(hb:s.heap.objs.size≤b)(hn:H' b=none):u2 X pins H' b:=by
 refine⟨hn,Nat.ne_of_gt (Nat.lt_of_lt_of_le I.lt hb),I.anb hb,.inr (Nat.le_trans I.sz hb),fun x c e z=> ?_,fun p hp z=> ?_⟩
 ·obtain⟨v,q⟩:=I.cell x c e;exact absurd (Nat.lt_of_lt_of_le q.lt (by rw[z];exact hb)) (Nat.lt_irrefl _)
 ·exact absurd (Nat.lt_of_lt_of_le (Heap.lt_size (I.pin p hp).1) (by rw[z];exact hb)) (Nat.lt_irrefl _)
structure Turn(P:Program)(w:World)(K:Frag)(tg:Expr)(J:It)(fp:aZ)(it:Addr)(tn:Nat→Heap→Prop):Prop where
 mem:it∈fp
 obj:∀i h,tn i h→∀b∈fp,∃o,h.get? b=some o∧∀v,o.data≠.cell v
 keep:∀i h h',tn i h→(∀b∈fp,∀o,h.get? b=some o→h'.get? b=some o)→tn i h'
 item:∀(X:Cx),X.prog=P→X.w=w→X.K=K→X.calm=true→∀(i:Nat) (pins:aL) (s:Shared) (σ:St) (H:Hp) (E:Value→Shared→Prop),Inv X pins σ H s→(∀b∈fp,u2 X pins H b)→tn i s.heap→J.go i H→
  wpAny (model P w) X.A (pyNext (.ref it)) (fun r s1=>∃u,r=some u∧
   wpAny (model P w) X.A (letOwnedTupleGo tg (.ref it) u) (fun _ s2=>∃x H',Inv X pins σ H' s2∧RelV x u∧J.wd i H x H'∧tn (i+1) s2.heap∧∀b∈fp,H' b=none) E s1) E s
 done:∀(X:Cx),X.prog=P→X.w=w→X.K=K→X.calm=true→∀(i:Nat) (pins:aL) (s:Shared) (σ:St) (H:Hp) (E:Value→Shared→Prop),Inv X pins σ H s→(∀b∈fp,u2 X pins H b)→tn i s.heap→J.stop i H→
  wpAny (model P w) X.A (pyNext (.ref it)) (fun r s1=>r=none∧Inv X pins σ H s1) E s
 self:∀(A:Around) (i:Nat) (s:Shared) (Q:Value→Shared→Prop) (E:Value→Shared→Prop),tn i s.heap→Q (.ref it) s→wpAny (model P w) A (pyIter (.ref it)) Q E s
abbrev TI:=St→Hp→(It→Hp→Prop)→Prop
def PIE(X:Cx)(pins:aL)(σ:St)(tg:Expr)(R:It→Hp→Prop)(itv:Value)(s2:Shared):Prop:=
 ∃(it:Addr) (fp:aZ) (tn:Nat→Heap→Prop) (J:It) (H' :Hp),itv= .ref it∧Inv X pins σ H' s2∧Turn X.prog X.w X.K tg J fp it tn∧tn 0 s2.heap∧(∀b∈fp,u2 X pins H' b)∧R J H'
def PI(X:Cx)(tg iter:Expr)(wi:TI):Prop:=
 ∀(pins:aL) (s:Shared) (σ:St) (H:Hp) (R:It→Hp→Prop),Inv X pins σ H s→wi σ H R→
  wpAny (model X.prog X.w) X.A (eval iter X.env) (fun v s1=>wpAny (model X.prog X.w) X.A (pyIter v) (PIE X pins σ tg R) X.xe s1) X.xe s
theorem FG{M:Model}{A:Around}{E:Value→Shared→Prop}{s:Shared}{tg:Expr}{it:Addr}{u:Value}{o:Obj}{n:String}{vs:Array Value}{Q:Unit→Shared→Prop}(ho:s.heap.get? it=some o)(hc:o.cls= .type n)(hd:o.data= .fields vs)
 (hn:["enumerate","zip","dict_itemiterator","dict_reverseitemiterator","odict_iterator","itertools.zip_longest","itertools.pairwise"].contains n=false) (hQ:Q () s):wpAny M A (letOwnedTupleGo tg (.ref it) u) Q E s:=by
 unfold letOwnedTupleGo
 cases tg<;>first
  |exact wpAny_pure hQ
  |(cases u<;>first
   |exact wpAny_pure hQ
   |(refine wpAny_bind (wpAny_load ho ?_)
     rw[hc,hd];show wpAny M A (if(["enumerate","zip","dict_itemiterator","dict_reverseitemiterator","odict_iterator","itertools.zip_longest","itertools.pairwise"].contains n&&vs[0]? ==some (rawInt _))=true then _ else _) Q E s;rw[if_neg (by intro h;rw[hn,Bool.false_and] at h;cases h)];exact wpAny_pure hQ))
def W8(K:Frag)(a:Addr):It:=
 ⟨fun i H=>∃xs x,bB K H a xs∧xs[i]? =some x,fun i H x H' =>H' =H∧∀xs,bB K H a xs→xs[i]? =some x,fun i H=>∃xs,bB K H a xs∧xs.length≤i⟩
def Q9(lo:Int)(n:Nat):It:=⟨fun i _=>i<n,fun i H x H' =>H' =H∧x= .int (lo+i),fun i _=>n≤i⟩
theorem GS{P:Program}{w:World}{K:Frag}{tg:Expr}(a it:Addr):Turn P w K tg (W8 K a) [it] it (fun i h=>h.IsListIter it a i) where
 mem:=by simp
 obj:=fun i h st b hb=>by
  have e:b=it:=by simpa using hb
  subst e;obtain⟨o,e,c,d⟩:=st;exact⟨o,e,fun v z=>by rw[d] at z;cases z⟩
 keep:=fun i h h' st k=>st.at fun o e=>k it (by simp) o e
 item:=by
  intro X hP hw hK hc i pins s σ H E I hf st hg;subst hP hw hK;obtain⟨xs,x,hq,hx⟩:=hg;obtain⟨bz,rv,p,hz⟩:=I.list hq;obtain⟨u,hu,ru⟩:=rv.get hx;obtain⟨f0,f1,f2,f3,f4,f5⟩:=hf it (by simp);refine wpAny_pyNext_list_item st p.isList (x:=u) (by simpa using hu) fun h' Pa sb=> ?_;have I1:Inv X pins σ H {s with heap:=h'}:=I.turned (t' :=s.toks) (fun b o hb e=>(sb.2 b hb).trans e) f0 f1 f3 f4 f5;obtain⟨o,e,c,d⟩:=id Pa;exact⟨u,rfl,FG (s:={s with heap:=h'}) e c d (by decide) ⟨x,H,I1,ru,⟨rfl,fun ys hy=>by rw[I.xB hy hq];exact hx⟩,Pa,fun b hb=>(hf b hb).1⟩⟩
 done:=by
  intro X hP hw hK hc i pins s σ H E I hf st hg;subst hP hw hK;obtain⟨xs,hq,hx⟩:=hg;obtain⟨bz,rv,p,hz⟩:=I.list hq;obtain⟨f0,f1,f2,f3,f4,f5⟩:=hf it (by simp);have hl:=rv.length;exact wpAny_pyNext_list_end (I.ok.hd hc) st p.isList (by simp;omega) fun h' eb=>⟨rfl,I.turned (t' :=s.toks) (fun b o hb e=>eb b o hb e) f0 f1 f3 f4 f5⟩
 self:=fun _ _ _ _ _ st h=>wpAny_pyIter_listiter st h
theorem Eg{P:Program}{w:World}{K:Frag}{tg:Expr}(it:Addr)(lo:Int)(n:Nat):Turn P w K tg (Q9 lo n) [it] it (fun i h=>IsRangeIter h it (lo+(i:Nat)*1) ((n:Int) - (i:Nat)) 1) where
 mem:=by simp
 obj:=fun i h st b hb=>by
  have e:b=it:=by simpa using hb
  subst e
  exact⟨_,st,fun v z=>by
   have z' :Data.fields _=Data.cell v:=z;cases z'⟩
 keep:=fun i h h' st k=>k it (by simp) _ st
 item:=by
  intro X hP hw hK hc i pins s σ H E I hf st hg;subst hP hw hK;obtain⟨f0,f1,f2,f3,f4,f5⟩:=hf it (by simp);have W:=Walks.range (prog:=X.prog) (w:=X.w) (I.ok.hd hc) it lo 1 n;refine W.item i s _ _ hg st fun v h' tk hv Pa kk=> ?_;obtain⟨t,rfl⟩:=hv;have I1:Inv X pins σ H {s with heap:=h',toks:=tk}:=I.turned (fun b o hb e=>kk b o (by simpa using hb) e) f0 f1 f3 f4 f5;refine⟨_,rfl,FG (s:={s with heap:=h',toks:=tk}) (n:="range_iterator") Pa rfl rfl (by decide) ⟨.int (lo+i),H,I1,⟨t,?_⟩,⟨rfl,rfl⟩,Pa,fun b hb=>(hf b hb).1⟩⟩;rw[Int.mul_one]
 done:=by
  intro X hP hw hK hc i pins s σ H E I hf st hg;subst hP hw hK;obtain⟨f0,f1,f2,f3,f4,f5⟩:=hf it (by simp);exact wpAny_pyNext_range_end (I.ok.hd hc) st (by have:n≤i:=hg;omega) fun h' eb=>⟨rfl,I.turned (t' :=s.toks) (fun b o hb e=>eb b o hb e) f0 f1 f3 f4 f5⟩
 self:=fun _ _ _ _ _ st h=>wpAny_pyIter_rangeiter st h
section
variable{X:Cx}{tg:Expr}
def Xz(K:Frag)(tl:TE):TI:=fun σ H R=>tl σ H fun x H1=>∃a,x= .ref a∧(∃xs,bB K H1 a xs)∧R (W8 K a) H1
theorem cy{l:Expr}{tl:TE}(hl:PE X l tl):PI X tg l (Xz X.K tl):=by
 intro pins s σ H R I h;refine cm (hl pins s σ H _ I h) fun v s1 ⟨x,H1,I1,r1,q1⟩=> ?_;obtain⟨a,e,⟨xs,hq⟩,q⟩:=q1;subst e;cases r1;obtain⟨bz,rv,p,hz⟩:=I1.list hq;refine wpAny_pyIter_list p.isList ?_;refine⟨s1.heap.objs.size,[s1.heap.objs.size],_,_,H1,rfl,I1.kept (t' :=s1.toks) fun b o e=>Heap.get?_push_of_some _ e,GS a _,⟨_,Heap.get?_push_size _ rfl,rfl,rfl⟩,fun b hb=> ?_,q⟩;have e:b=s1.heap.objs.size:=by simpa using hb
 subst e;exact I1.Bh (Nat.le_refl _) (I1.bD.fresh (Nat.le_refl _))
theorem K_{pins:aL}{σ:St}{H:Hp}{s:Shared}{R:It→Hp→Prop}{E:Value→Shared→Prop}{lo hi:Int}{t u v:Tok}{tk:Nat}(I:Inv X pins σ H s)(h1: -(2 ^ 62)≤lo)(h2:lo<2 ^ 62)(h3: -(2 ^ 62)≤hi)(h4:hi<2 ^ 62)
 (q:R (Q9 lo (hi - lo).toNat) H):wpAny (model X.prog X.w) X.A (pyIter (.ref s.heap.objs.size)) (PIE X pins σ tg R) E {s with heap:=s.heap.push {cls:= .type "range",data:= .fields #[.int lo t,.int hi u,.int 1 v]},toks:=tk}:=by
 refine wpAny_pyIter_range (IsRange.new ..) (small_one h1 h2 h3 h4) ?_;have I1:Inv X pins σ H {s with heap:=s.heap.push {cls:= .type "range",data:= .fields #[.int lo t,.int hi u,.int 1 v]},toks:=tk}:=I.kept fun b o e=>Heap.get?_push_of_some _ e
 refine⟨(s.heap.push {cls:= .type "range",data:= .fields #[.int lo t,.int hi u,.int 1 v]}).objs.size,[(s.heap.push {cls:= .type "range",data:= .fields #[.int lo t,.int hi u,.int 1 v]}).objs.size],_,_,H,rfl,
  I1.kept (t' :=tk) fun b o e=>Heap.get?_push_of_some _ e,Eg _ lo (hi - lo).toNat,?_,fun b hb=> ?_,q⟩
 ·have e1:lo+((0:Nat):Int)*1=lo:=by simp
  have e2:(((hi - lo).toNat:Nat):Int) - ((0:Nat):Int)=Builtin.Range.rangeSize lo hi 1:=by rw[rangeSize_one];split<;>omega
  show IsRangeIter _ _ (lo+((0:Nat):Int)*1) ((((hi - lo).toNat:Nat):Int) - ((0:Nat):Int)) 1;rw[e1,e2];exact Heap.get?_push_size _ rfl
 ·have e:b=(s.heap.push {cls:= .type "range",data:= .fields #[.int lo t,.int hi u,.int 1 v]}).objs.size:=by simpa using hb
  subst e;exact I1.Bh (Nat.le_refl _) (I1.bD.fresh (Nat.le_refl _))
def Yw(ta:TA):TI:=fun σ H R=>ta σ H fun vs H1=>∃j:Int,vs=[.int j]∧ -(2 ^ 62)≤j∧j<2 ^ 62∧R (Q9 0 j.toNat) H1
theorem iZ{a:Expr}{ta:TA}{p pos:Pos}(hg:Gl X "range")(hm:X.mg "range"=none)(ha:PA X [a] ta)(hs:starEach [a] X.env=[(false,eval a X.env)]:=by rfl):PI X tg (.Call (.Name "range" p) [a] [] pos) (Yw ta):=by
 intro pins s σ H R I h;refine Call_ (n9 I hg hm boot_range (PyProof.Rows.callWith_type1 (cm (ha pos pins s σ H _ I h) fun us s1 ⟨vs,H1,I1,r1,q1⟩=> ?_) hs rfl));obtain⟨j,e,q1,q2,q⟩:=q1;subst e
 cases r1 with
 |cons r rr=>
  cases rr;obtain⟨t,rfl⟩:=r;exact call_range_1 (K_ I1 (by omega) (by omega) q1 q2 (by simpa using q))
def amN(wi:TI)(g:TG)(tb:TS):TS:=fun D σ H=>wi σ H fun J H1=>∃W:Nat→Nat→St→Hp→Prop,(∃m,W 0 m σ H1)∧∀i m σ H,W i m σ H→
 (J.stop i H∧D.nx σ H)∨(J.go i H∧∃N:St→Hp→Prop,(∀cK H',N cK H'→∃m',m' <m∧W (i+1) m' cK H')∧∀x H',J.wd i H x H'→g x σ H' fun nT H2=>tb {D with nx:=N,ct:=N,bk:=D.nx} nT H2)
def xx(fp:aZ)(h:Heap):aL:=fp.filterMap fun b=>(h.get? b).map fun o=>(b,o)
theorem pj{fp:aZ}{h:Heap}{b:Addr}{o:Obj}(hb:b∈fp)(e:h.get? b=some o):(b,o)∈xx fp h:=List.mem_filterMap.mpr ⟨b,hb,by rw[e];rfl⟩
theorem Ib{fp:aZ}{h:Heap}{p:Addr×Obj}(hp:p∈xx fp h):p.1∈fp∧h.get? p.1=some p.2:=by
 obtain⟨b,hb,e⟩:=List.mem_filterMap.mp hp
 cases q:h.get? b with
 |none=>rw[q] at e;cases e
 |some o=>
  rw[q] at e;have e' :(b,o)=p:=Option.some.inj e;subst e';exact⟨hb,q⟩
theorem Inv.pinned{pins:aL}{σ:St}{H:Hp}{s:Shared}{fp:aZ}(I:Inv X pins σ H s)(hf:∀b∈fp,u2 X pins H b)(ho:∀b∈fp,∃o,s.heap.get? b=some o∧∀v,o.data≠.cell v):Inv X (pins++xx fp s.heap) σ H s:=
 I.Gz fun p hp=>(List.mem_append.mp hp).elim (fun z=>I.pin p (List.mem_append_right _ z)) fun z=>by
  obtain⟨hb,e⟩:=Ib z;obtain⟨f0,f1,f2,_⟩:=hf p.1 hb;obtain⟨o,e',d⟩:=ho p.1 hb;rw[e] at e';cases e'
  exact⟨e,f0,f1,f2,d⟩
theorem Inv.tE{pins pl:aL}{σ:St}{H:Hp}{s:Shared}(I:Inv X (pins++pl) σ H s):Inv X pins σ H s:=I.Gz fun p hp=>I.pin p (List.mem_append_right _ (List.mem_append_left _ hp))
theorem gR{iter:Expr}{body:List Stmt}{wi:TI}{g:TG}{tb:TS}{pos:Pos}(hp:PassesOwn (model X.prog X.w) X.A X.env X.xe)(hc:X.calm=true)(hi:PI X tg iter wi)(hg:PG X tg g)(hb:yW X body tb)
 (hs:∀x,foldedSetIterable iter X.env x=pure x:=by intro _;rfl):PS X (.For tg iter body [] pos) (amN wi g tb):=by
 intro pins s σ H D I h;refine wpAny_For (cm (hi pins s σ H _ I h) fun v s1 h1=>cm h1 fun itv s2 h2=> ?_) hs;obtain⟨it,fp,tn,J,H2,e,I2,T,Pe,f2,W,⟨m0,w0⟩,turn⟩:=h2;subst e;have EO:∀{H' :Hp},(∀b∈fp,H' b=none)→∀b∈fp,u2 X pins H' b:=fun hn b hb=>⟨hn b hb,(f2 b hb).2⟩;refine codeAny_forLoop_any (fun n s' =>∃i cK H',Inv X pins cK H' s'∧tn i s'.heap∧(∀b∈fp,H' b=none)∧W i n cK H') ?_ m0 ⟨0,σ,H2,I2,Pe,fun b hb=>(f2 b hb).1,w0⟩
 rintro n s3 ⟨i,Lu,H3,I3,st3,fr3,w3⟩
 rcases turn i n Lu H3 w3 with⟨stop,qn⟩|⟨go,N,hN,step⟩
 ·refine wpAny_passesOwn hp (cm (T.done X rfl rfl rfl hc i pins s3 Lu H3 X.xe I3 (EO fr3) st3 stop) fun r s4 ⟨hr,I4⟩=> ?_);subst hr;exact wpAny_execs_nil ⟨Lu,H3,I4,qn⟩
 ·refine wpAny_passesOwn hp (cm (T.item X rfl rfl rfl hc i pins s3 Lu H3 X.xe I3 (EO fr3) st3 go) fun r s4 ⟨u,hr,h4⟩=> ?_);subst hr;refine wpAny_passesOwn hp (cm h4 fun _ s5 ⟨x,H5,I5,r5,y5,Xq,WO⟩=> ?_);have I5' :=I5.pinned (EO WO) (T.obj _ _ Xq);refine wpAny_passesOwn hp (cm (hg _ s5 Lu H5 x u _ I5' r5 (step x H5 y5)) fun _ s6 ⟨σ6,H6,I6,q6⟩=> ?_);refine wpAny_passesOwn hp (cm (hb _ s6 σ6 H6 _ I6 q6) fun f s7 q7=> ?_)
  have again:∀{Ke:St} {H7:Hp},Inv X (pins++xx fp s5.heap) Ke H7 s7→N Ke H7→∃m,m<n∧∃i cK H',Inv X pins cK H' s7∧tn i s7.heap∧(∀b∈fp,H' b=none)∧W i m cK H' :=fun{Ke H7} I7 n7=>by
   obtain⟨m',hm,w7⟩:=hN Ke H7 n7;refine⟨m',hm,i+1,Ke,H7,I7.tE,T.keep _ _ _ Xq fun b hb o e=>(I7.pin (b,o) (List.mem_append_right _ (List.mem_append_right _ (pj hb e)))).1,fun b hb=> ?_,w7⟩;obtain⟨o,e,d⟩:=T.obj _ _ Xq b hb;exact(I7.pin (b,o) (List.mem_append_right _ (List.mem_append_right _ (pj hb e)))).2.1
  cases f with
  |next=>obtain⟨Ke,H7,I7,n7⟩:=q7;exact again I7 n7
  |cont=>obtain⟨Ke,H7,I7,n7⟩:=q7;exact again I7 n7
  |brk=>obtain⟨Ke,H7,I7,q7⟩:=q7;exact⟨Ke,H7,I7.tE,q7⟩
  |ret v=>obtain⟨x7,Ke,H7,I7,r7,q7⟩:=q7;exact⟨x7,Ke,H7,I7.tE,r7,q7⟩
end
theorem gr{K:Frag}{a:Addr}{xs:az}{g:TG}{tb:TS}{D:Ends}{σ:St}{H:Hp}(Pv:Nat→St→Hp→Prop)(h0:Pv 0 σ H)(hl:∀i σ H,i≤xs.length→Pv i σ H→bB K H a xs)
 (hs:∀i x σ H,xs[i]? =some x→Pv i σ H→g x σ H fun nT H2=>tb {D with nx:=Pv (i+1),ct:=Pv (i+1),bk:=D.nx} nT H2) (hd:∀σ H,Pv xs.length σ H→D.nx σ H):
 ∃W:Nat→Nat→St→Hp→Prop,(∃m,W 0 m σ H)∧∀i m σ H,W i m σ H→
  ((W8 K a).stop i H∧D.nx σ H)∨((W8 K a).go i H∧∃N:St→Hp→Prop,(∀cK H',N cK H'→∃m',m' <m∧W (i+1) m' cK H')∧∀x H',(W8 K a).wd i H x H'→g x σ H' fun nT H2=>tb {D with nx:=N,ct:=N,bk:=D.nx} nT H2):=by
 refine⟨fun i m σ H=>m=xs.length - i∧i≤xs.length∧Pv i σ H,⟨xs.length,by simp,Nat.zero_le _,h0⟩,?_⟩
 rintro i m σ H ⟨rfl,hi,p⟩
 have q:=hl i σ H hi p;by_cases eQ:i<xs.length
 ·refine .inr ⟨⟨xs,xs[i],q,by simp[eQ]⟩,Pv (i+1),fun cK H' p' =>⟨xs.length - (i+1),by omega,rfl,eQ,p'⟩,fun x H' y=> ?_⟩;obtain⟨e,y⟩:=y;subst e;exact hs i x σ _ (y xs q) p
 ·have e:i=xs.length:=by omega
  subst e;exact .inl ⟨⟨xs,q,Nat.le_refl _⟩,hd σ H p⟩
theorem qI{lo:Int}{n:Nat}{g:TG}{tb:TS}{D:Ends}{σ:St}{H:Hp}(Pv:Nat→St→Hp→Prop)(h0:Pv 0 σ H)
 (hs:∀i σ H,i<n→Pv i σ H→g (.int (lo+i)) σ H fun nT H2=>tb {D with nx:=Pv (i+1),ct:=Pv (i+1),bk:=D.nx} nT H2) (hd:∀σ H,Pv n σ H→D.nx σ H):
 ∃W:Nat→Nat→St→Hp→Prop,(∃m,W 0 m σ H)∧∀i m σ H,W i m σ H→
  ((Q9 lo n).stop i H∧D.nx σ H)∨((Q9 lo n).go i H∧∃N:St→Hp→Prop,(∀cK H',N cK H'→∃m',m' <m∧W (i+1) m' cK H')∧∀x H',(Q9 lo n).wd i H x H'→g x σ H' fun nT H2=>tb {D with nx:=N,ct:=N,bk:=D.nx} nT H2):=by
 refine⟨fun i m σ H=>m=n - i∧i≤n∧Pv i σ H,⟨n,by simp,Nat.zero_le _,h0⟩,?_⟩
 rintro i m σ H ⟨rfl,hi,p⟩
 by_cases eQ:i<n
 ·refine .inr ⟨eQ,Pv (i+1),fun cK H' p' =>⟨n - (i+1),by omega,rfl,eQ,p'⟩,fun x H' y=> ?_⟩;obtain⟨e,y⟩:=y;subst e y;exact hs i σ _ eQ p
 ·have e:i=n:=by omega
  subst e;exact .inl ⟨Nat.le_refl _,hd σ H p⟩
abbrev R2:=V→V→Hp→VK→Prop
def qB(X:Cx)(f:Value→Value→Sem Value)(r:R2):Prop:=
 ∀(pins:aL) (s:Shared) (σ:St) (H:Hp) (x y:V) (v u:Value) (Q:VK),Inv X pins σ H s→RelV x v→RelV y u→r x y H Q→
  wpAny (model X.prog X.w) X.A (f v u) (EP X pins σ Q) X.xe s
def UnR(X:Cx)(f:Value→Sem Value)(r:V→Hp→VK→Prop):Prop:=
 ∀(pins:aL) (s:Shared) (σ:St) (H:Hp) (x:V) (v:Value) (Q:VK),Inv X pins σ H s→RelV x v→r x H Q→
  wpAny (model X.prog X.w) X.A (f v) (EP X pins σ Q) X.xe s
def gf(X:Cx)(f:Value)(r:az→Hp→VK→Prop):Prop:=
 ∀(pins:aL) (s:Shared) (σ:St) (H:Hp) (xs:az) (us:aA) (Q:VK),Inv X pins σ H s→Vals xs us→r xs H Q→
  wpAny (model X.prog X.w) X.A (call f us) (EP X pins σ Q) X.xe s
def tOp(r:R2)(ta tb:TE):TE:=fun σ H Q=>ta σ H fun x H1=>tb σ H1 fun y H2=>r x y H2 Q
def tUn(r:V→Hp→VK→Prop)(ta:TE):TE:=fun σ H Q=>ta σ H fun x H1=>r x H1 Q
def rI(C:Int→Int→Prop)(g:Int→Int→V):R2:=fun x y H Q=>∃i j,x= .int i∧y= .int j∧C i j∧Q (g i j) H
def RY(g:Int→Int→V):R2:=fun x y H Q=>∃i j,x= .int i∧y= .int j∧Q (g i j) H
def rU(g:Int→V):V→Hp→VK→Prop:=fun x H Q=>∃i,x= .int i∧Q (g i) H
section
variable{X:Cx}{a b c:Expr}{ta tb tc:TE}{pos:Pos}
theorem UC(ha:PE X a ta)(hb:PE X b tb){pins:aL}{s:Shared}{σ:St}{H:Hp}{R:V→V→Hp→Prop}(I:Inv X pins σ H s)
 (h:ta σ H fun x H1=>tb σ H1 fun y H2=>R x y H2) {Q:Value→Shared→Prop} {f:Value→Value→Sem Value}
 (hf:∀v u s2 x y H2,Inv X pins σ H2 s2→RelV x v→RelV y u→R x y H2→wpAny (model X.prog X.w) X.A (f v u) Q X.xe s2):
 wpAny (model X.prog X.w) X.A (eval a X.env) (fun v bF=>wpAny (model X.prog X.w) X.A (eval b X.env) (fun u qk=>wpAny (model X.prog X.w) X.A (f v u) Q X.xe qk) X.xe bF) X.xe s:=by
 refine cm (ha pins s σ H _ I h) fun v s1 ⟨x,H1,I1,r1,q1⟩=> ?_;refine cm (hb pins s1 σ H1 _ I1 q1) fun u s2 ⟨y,H2,I2,r2,q2⟩=> ?_;exact hf v u s2 x y H2 I2 r1 r2 q2
theorem bH{op:Operator}{r:R2}(ho:qB X (binaryOp op) r)(ha:PE X a ta)(hb:PE X b tb):PE X (.BinOp a op b pos) (tOp r ta tb):=by
 intro pins s σ H Q I h;exact wpAny_BinOp (UC ha hb I h fun v u s2 x y H2 I2 rx ry q=>ho pins s2 σ H2 x y v u Q I2 rx ry q)
theorem RW{op:UnaryOp}{r:V→Hp→VK→Prop}(ho:UnR X (unaryOp op) r)(ha:PE X a ta):PE X (.UnaryOp op a pos) (tUn r ta):=by
 intro pins s σ H Q I h;exact UnaryOp_ (cm (ha pins s σ H _ I h) fun v s1 ⟨x,H1,I1,r1,q1⟩=>ho pins s1 σ H1 x v Q I1 r1 q1)
theorem opI{f:Value→Value→Sem Value}{C:Int→Int→Prop}{g:Int→Int→Int}
 (rule:∀(i j:Int) (t u:Tok) (s:Shared) (Q:Value→Shared→Prop) (E:Value→Shared→Prop),C i j→Q (.int (g i j) s.toks) {s with toks:=s.toks+1}→wpAny (model X.prog X.w) X.A (f (.int i t) (.int j u)) Q E s):
 qB X f (rI C fun i j=> .int (g i j)):=by
 intro pins s σ H x y v u Q I rx ry h;obtain⟨i,j,rfl,rfl,hc,q⟩:=h;obtain⟨t,rfl⟩:=rx;obtain⟨t',rfl⟩:=ry;exact rule i j t t' s _ _ hc ⟨.int (g i j),H,I.tok _,⟨_,rfl⟩,q⟩
theorem abe{f:Value→Value→Sem Value}{g:Int→Int→Int}
 (rule:∀(i j:Int) (t u:Tok) (s:Shared) (Q:Value→Shared→Prop) (E:Value→Shared→Prop),Q (.int (g i j) s.toks) {s with toks:=s.toks+1}→wpAny (model X.prog X.w) X.A (f (.int i t) (.int j u)) Q E s):
 qB X f (RY fun i j=> .int (g i j)):=by
 intro pins s σ H x y v u Q I rx ry h;obtain⟨i,j,rfl,rfl,q⟩:=h;obtain⟨t,rfl⟩:=rx;obtain⟨t',rfl⟩:=ry;exact rule i j t t' s _ _ ⟨.int (g i j),H,I.tok _,⟨_,rfl⟩,q⟩
theorem PU{f:Value→Value→Sem Value}{g:Int→Int→Bool}
 (rule:∀(i j:Int) (t u:Tok) (s:Shared) (Q:Value→Shared→Prop) (E:Value→Shared→Prop),Q (.bool (g i j)) s→wpAny (model X.prog X.w) X.A (f (.int i t) (.int j u)) Q E s):
 qB X f (RY fun i j=> .bl (g i j)):=by
 intro pins s σ H x y v u Q I rx ry h;obtain⟨i,j,rfl,rfl,q⟩:=h;obtain⟨t,rfl⟩:=rx;obtain⟨t',rfl⟩:=ry;exact rule i j t t' s _ _ ⟨.bl (g i j),H,I,rfl,q⟩
def apf(i j:Int):Prop:=0<j∧j<1073741824
def alu(i j:Int):Prop:=0≤j∧j≤1000000∧i.natAbs<2 ^ 64
def WB(i j:Int):Prop:=(-(2 ^ 64)<i∧i<2 ^ 64)∨(-(2 ^ 64)<j∧j<2 ^ 64)
theorem WB.ok{i j:Int}(h:WB i j):IntMulOk i j:=by
 rcases h with⟨h1,h2⟩|⟨h1,h2⟩
 ·exact .of_left (intBits_le_64 h1 h2)
 ·exact .of_right (intBits_le_64 h1 h2)
theorem iP:qB X (binaryOp .Add) (RY fun i j=> .int (i+j)):=abe fun _ _ _ _ _ _ _ q=>add_int q
theorem jV:qB X (binaryOp .Sub) (RY fun i j=> .int (i - j)):=abe fun _ _ _ _ _ _ _ q=>sub_int q
theorem xw:qB X (binaryOp .Mult) (rI WB fun i j=> .int (i*j)):=opI fun _ _ _ _ _ _ _ hc q=>mul_int q hc.ok
theorem ur:qB X (binaryOp .FloorDiv) (rI apf fun i j=> .int (i / j)):=opI fun i j _ _ _ _ _ hc q=>by
 have h1:(0:Int)<j:=hc.1;have h2:j<1073741824:=hc.2;exact floordiv_int (by omega) (by rw[Int.fdiv_eq_ediv_of_nonneg i (by omega)];exact q) (.inl (PyProof.noPylong_small (by omega)))
theorem rO:qB X (binaryOp .Mod) (rI (fun _ j=>0<j) fun i j=> .int (i % j)):=opI fun i j _ _ _ _ _ hc q=>by
 have h1:(0:Int)<j:=hc;exact mod_int' (by omega) (by rw[Int.fmod_eq_emod_of_nonneg i (by omega)];exact q)
theorem AR:qB X (binaryOp .Pow) (rI alu fun i j=> .int (i ^ j.toNat)):=opI fun _ _ _ _ _ _ _ hc q=>pow_int_small hc.1 hc.2.1 hc.2.2 q
theorem unI{f:Value→Sem Value}{g:Int→Int}
 (rule:∀(i:Int) (t:Tok) (s:Shared) (Q:Value→Shared→Prop) (E:Value→Shared→Prop),Q (.int (g i) s.toks) {s with toks:=s.toks+1}→wpAny (model X.prog X.w) X.A (f (.int i t)) Q E s):
 UnR X f (rU fun i=> .int (g i)):=by
 intro pins s σ H x v Q I rx h;obtain⟨i,rfl,q⟩:=h;obtain⟨t,rfl⟩:=rx;exact rule i t s _ _ ⟨.int (g i),H,I.tok _,⟨_,rfl⟩,q⟩
theorem J7:UnR X (unaryOp .USub) (rU fun i=> .int (-i)):=unI fun _ _ _ _ _ q=>neg_int q
end
def We:V→V→Bool
 | .bJ,.bJ=>true| .bJ,.int _=>true| .int _,.bJ=>true| .bJ,.bl _=>true| .bl _,.bJ=>true| .bJ,.str _=>true| .str _,.bJ=>true
 | .int _,.int _=>true| .bl _,.bl _=>true| .str _,.str _=>true| .Iy _,.Iy _=>true
 | .int _,.str _=>true| .str _,.int _=>true| .bl _,.str _=>true| .str _,.bl _=>true
 |_,_=>false
def rEq:R2:=fun x y H Q=>We x y=true∧Q (.bl (decide (x=y))) H
def rNe:R2:=fun x y H Q=>We x y=true∧Q (.bl (!decide (x=y))) H
theorem Gd{i j:Int}:decide (V.int i=V.int j)=(i==j):=by
 rw[Bool.eq_iff_iff];simp
theorem IZ{i j:Bool}:decide (V.bl i=V.bl j)=(i==j):=by
 rw[Bool.eq_iff_iff];simp
theorem F_{i j:Str}:decide (V.str i=V.str j)=(i==j):=by
 rw[Bool.eq_iff_iff];simp
theorem FW{i j:Array UInt8}:decide (V.Iy i=V.Iy j)=(i.toList==j.toList):=by
 rw[Bool.eq_iff_iff];cases i;cases j;simp
section
variable{X:Cx}{a b c:Expr}{ta tb tc:TE}{pos:Pos}
theorem bV{pins:aL}{σ:St}{H:Hp}{s:Shared}{Q:VK}{k k' :Bool}(I:Inv X pins σ H s)(q:Q (.bl k) H)(e:k=k'):EP X pins σ Q (.bool k') s:=by
 subst e;exact⟨.bl k,H,I,rfl,q⟩
theorem xj:qB X (compareOp .Eq) rEq:=by
 intro pins s σ H x y v u Q I rx ry h;obtain⟨hs,q⟩:=h
 cases x with
 |bJ=>
  cases rx
  cases y with
  |bJ=>cases ry;exact PySem.EqNone.eq_none_none (bV I q (by simp))
  |bl j=>cases ry;exact PySem.EqNone.eq_none_bool (bV I q (by simp))
  |int j=>obtain⟨t',rfl⟩:=ry;exact PySem.EqNone.eq_none_int (bV I q (by simp))
  |str j=>obtain⟨t',rfl⟩:=ry;exact PySem.EqNone.eq_none_str (bV I q (by simp))
  |_=>exact absurd (show false=true from hs) Bool.false_ne_true
 |bl i=>
  cases rx
  cases y with
  |bJ=>cases ry;exact PySem.EqNone.eq_bool_none (bV I q (by simp))
  |bl j=>cases ry;exact eq_bool (bV I q IZ)
  |str j=>obtain⟨t',rfl⟩:=ry;exact PySem.EqMixed.eq_bool_str (bV I q (by simp))
  |_=>exact absurd (show false=true from hs) Bool.false_ne_true
 |int i=>
  obtain⟨t,rfl⟩:=rx
  cases y with
  |bJ=>cases ry;exact PySem.EqNone.eq_int_none (bV I q (by simp))
  |int j=>obtain⟨t',rfl⟩:=ry;exact eq_int (bV I q Gd)
  |str j=>obtain⟨t',rfl⟩:=ry;exact PySem.EqMixed.eq_int_str (bV I q (by simp))
  |_=>exact absurd (show false=true from hs) Bool.false_ne_true
 |str i=>
  obtain⟨t,rfl⟩:=rx
  cases y with
  |bJ=>cases ry;exact PySem.EqNone.eq_str_none (bV I q (by simp))
  |bl j=>cases ry;exact PySem.EqMixed.eq_str_bool (bV I q (by simp))
  |int j=>obtain⟨t',rfl⟩:=ry;exact PySem.EqMixed.eq_str_int (bV I q (by simp))
  |str j=>obtain⟨t',rfl⟩:=ry;exact eq_str (bV I q F_)
  |_=>exact absurd (show false=true from hs) Bool.false_ne_true
 |Iy i=>
  obtain⟨t,rfl⟩:=rx
  cases y with
  |Iy j=>obtain⟨t',rfl⟩:=ry;exact PySem.W.eq_bytes (bV I q FW)
  |_=>exact absurd (show false=true from hs) Bool.false_ne_true
 |_=>cases y<;>exact absurd (show false=true from hs) Bool.false_ne_true
theorem vg:qB X (compareOp .NotEq) rNe:=by
 intro pins s σ H x y v u Q I rx ry h;obtain⟨hs,q⟩:=h
 cases x with
 |bJ=>
  cases rx
  cases y with
  |bJ=>cases ry;exact PySem.EqNone.ne_none_none (bV I q (by simp))
  |bl j=>cases ry;exact PySem.EqNone.ne_none_bool (bV I q (by simp))
  |int j=>obtain⟨t',rfl⟩:=ry;exact PySem.EqNone.ne_none_int (bV I q (by simp))
  |str j=>obtain⟨t',rfl⟩:=ry;exact PySem.EqNone.ne_none_str (bV I q (by simp))
  |_=>exact absurd (show false=true from hs) Bool.false_ne_true
 |bl i=>
  cases rx
  cases y with
  |bJ=>cases ry;exact PySem.EqNone.ne_bool_none (bV I q (by simp))
  |bl j=>cases ry;exact ne_bool (bV I q (congrArg not IZ))
  |str j=>obtain⟨t',rfl⟩:=ry;exact PySem.EqMixed.ne_bool_str (bV I q (by simp))
  |_=>exact absurd (show false=true from hs) Bool.false_ne_true
 |int i=>
  obtain⟨t,rfl⟩:=rx
  cases y with
  |bJ=>cases ry;exact PySem.EqNone.ne_int_none (bV I q (by simp))
  |int j=>obtain⟨t',rfl⟩:=ry;exact ne_int (bV I q (congrArg not Gd))
  |str j=>obtain⟨t',rfl⟩:=ry;exact PySem.EqMixed.ne_int_str (bV I q (by simp))
  |_=>exact absurd (show false=true from hs) Bool.false_ne_true
 |str i=>
  obtain⟨t,rfl⟩:=rx
  cases y with
  |bJ=>cases ry;exact PySem.EqNone.ne_str_none (bV I q (by simp))
  |bl j=>cases ry;exact PySem.EqMixed.ne_str_bool (bV I q (by simp))
  |int j=>obtain⟨t',rfl⟩:=ry;exact PySem.EqMixed.ne_str_int (bV I q (by simp))
  |str j=>obtain⟨t',rfl⟩:=ry;exact ne_str (bV I q (congrArg not F_))
  |_=>exact absurd (show false=true from hs) Bool.false_ne_true
 |Iy i=>
  obtain⟨t,rfl⟩:=rx
  cases y with
  |Iy j=>obtain⟨t',rfl⟩:=ry;exact PySem.W.ne_bytes (bV I q (congrArg not FW))
  |_=>exact absurd (show false=true from hs) Bool.false_ne_true
 |_=>cases y<;>exact absurd (show false=true from hs) Bool.false_ne_true
theorem De:qB X (compareOp .Lt) (RY fun i j=> .bl (decide (i<j))):=PU fun _ _ _ _ _ _ _ q=>lt_int q
theorem GA:qB X (compareOp .LtE) (RY fun i j=> .bl (decide (i≤j))):=PU fun _ _ _ _ _ _ _ q=>le_int q
theorem JA:qB X (compareOp .Gt) (RY fun i j=> .bl (decide (j<i))):=PU fun _ _ _ _ _ _ _ q=>gt_int q
theorem ab4:qB X (compareOp .GtE) (RY fun i j=> .bl (decide (j≤i))):=PU fun _ _ _ _ _ _ _ q=>ge_int q
theorem sJ:qB X (compareOp .Is) (fun x y H Q=>y= .bJ∧Q (.bl (decide (x= .bJ))) H):=by
 intro pins s σ H x y v u Q I rx ry h;obtain⟨rfl,q⟩:=h;cases ry;refine is_none_gen (bV I q ?_)
 cases x<;>first
  |(cases rx;rfl)
  |(obtain⟨t,rfl⟩:=rx;rfl)
theorem wu:qB X (compareOp .IsNot) (fun x y H Q=>y= .bJ∧Q (.bl (!decide (x= .bJ))) H):=by
 intro pins s σ H x y v u Q I rx ry h;obtain⟨rfl,q⟩:=h;cases ry;refine isnot_none_gen (bV I q ?_)
 cases x<;>first
  |(cases rx;rfl)
  |(obtain⟨t,rfl⟩:=rx;rfl)
theorem qB.or{f:Value→Value→Sem Value}{r r' :R2}(h:qB X f r)(h' :qB X f r'):qB X f (fun x y H Q=>r x y H Q∨r' x y H Q):=by
 intro pins s σ H x y v u Q I rx ry q;rcases q with q|q
 ·exact h pins s σ H x y v u Q I rx ry q
 ·exact h' pins s σ H x y v u Q I rx ry q
theorem bu(b:Expr){op:CmpOp}(h:op≠.In:=by decide)(h2:op≠.NotIn:=by decide):behindInMarks op b=false:=by
 have e1:(op==CmpOp.In)=false:=by cases op<;>first|rfl|exact absurd rfl h
 have e2:(op==CmpOp.NotIn)=false:=by cases op<;>first|rfl|exact absurd rfl h2
 cases b<;>simp[behindInMarks,e1,e2]
theorem lS{op:CmpOp}{r:R2}(ho:qB X (compareOp op) r)(ha:PE X a ta)(hb:PE X b tb)(hm:behindInMarks op b=false):PE X (.Compare a [op] [b] pos) (tOp r ta tb):=by
 intro pins s σ H Q I h;exact wpAny_Compare1 (UC ha hb I h fun v u s2 x y H2 I2 rx ry q=>ho pins s2 σ H2 x y v u Q I2 rx ry q) hm
def abY(t:TE):TT:=fun σ H Q=>t σ H fun x H' =>∃k,x= .bl k∧Q k H'
theorem bc{op:CmpOp}{r:R2}(ho:qB X (compareOp op) r)(ha:PE X a ta)(hb:PE X b tb)(hm:behindInMarks op b=false):PT X (.Compare a [op] [b] pos) (abY (tOp r ta tb)):=by
 intro pins s σ H Q I h
 refine wpAny_isTrue_Compare1 (cm (ha pins s σ H _ I h) fun v s1 ⟨x,H1,I1,r1,q1⟩=>cm (hb pins s1 σ H1 _ I1 q1) fun u s2 ⟨y,H2,I2,r2,q2⟩=>
  cm (ho pins s2 σ H2 x y v u _ I2 r1 r2 q2) fun c s3 ⟨z,H3,I3,r3,k,e,q3⟩=> ?_) hm
 subst e;cases r3;exact wpAny_truthy_bool ⟨H3,I3,q3⟩
def Ve(r r' :R2)(ta tb tc:TE):TE:=fun σ H Q=>ta σ H fun x H1=>tb σ H1 fun y H2=>r x y H2 fun z H3=>∃k,z= .bl k∧
 (if k=true then tc σ H3 fun w' H4=>r' y w' H4 Q else Q (.bl false) H3)
theorem LO{op op' :CmpOp}{r r' :R2}(ho:qB X (compareOp op) r)(BO :qB X (compareOp op') r')(ha:PE X a ta)(hb:PE X b tb)(hc:PE X c tc)
 (hm:lastMarks [op,op'] [b,c]=false:=by with_unfolding_all rfl):PE X (.Compare a [op,op'] [b,c] pos) (Ve r r' ta tb tc):=by
 intro pins s σ H Q I h
 refine Compare_chain (cm (ha pins s σ H _ I h) fun v s1 ⟨x,H1,I1,r1,q1⟩=>chain_link (cm (hb pins s1 σ H1 _ I1 q1) fun u s2 ⟨y,H2,I2,r2,q2⟩=>
  cm (ho pins s2 σ H2 x y v u _ I2 r1 r2 q2) fun d s3 ⟨z,H3,I3,r3,k,e,q3⟩=> ?_)) hm
 subst e;cases r3;refine wpAny_truthy_bool ?_
 cases k with
 |false=>exact ite_ff ⟨.bl false,H3,I3,rfl,q3⟩
 |true=>exact ite_tt (chain_last (cm (hc pins s3 σ H3 _ I3 q3) fun w' s4 ⟨z',H4,I4,r4,q4⟩=>BO pins s4 σ H4 y z' u w' Q I4 r2 r4 q4))
theorem BH:(sizeLine:Nat)<2 ^ 63:=by rw[sizeLine_eq];decide
theorem xL{x:V}{us:aA}(r:Vals [x] us):∃u,us=[u]∧RelV x u:=by
 cases r with
 |cons r1 r2=>cases r2;exact⟨_,rfl,r1⟩
theorem XV{x y:V}{us:aA}(r:Vals [x,y] us):∃u w',us=[u,w']∧RelV x u∧RelV y w' :=by
 cases r with
 |cons r1 r2=>
  cases r2 with
  |cons r3 r4=>cases r4;exact⟨_,_,rfl,r1,r3⟩
theorem qL(hc:X.calm=true):gf X (.builtin "max") (fun xs H Q=>∃i j,xs=[.int i,.int j]∧Q (.int (if j>i then j else i)) H):=by
 intro pins s σ H xs us Q I r h;obtain⟨i,j,rfl,q⟩:=h;obtain⟨u,w',rfl,⟨t,rfl⟩,⟨t',rfl⟩⟩:=XV r;refine max_two_ints (I.ok.hd hc) fun h' tk k=>⟨_,H,I.kept k,?_,q⟩;by_cases hj:j>i
 ·rw[if_pos hj,if_pos hj];exact⟨_,rfl⟩
 ·rw[if_neg hj,if_neg hj];exact⟨_,rfl⟩
theorem Hk(hc:X.calm=true):gf X (.builtin "min") (fun xs H Q=>∃i j,xs=[.int i,.int j]∧Q (.int (if j<i then j else i)) H):=by
 intro pins s σ H xs us Q I r h;obtain⟨i,j,rfl,q⟩:=h;obtain⟨u,w',rfl,⟨t,rfl⟩,⟨t',rfl⟩⟩:=XV r;refine min_two_ints (I.ok.hd hc) fun h' tk k=>⟨_,H,I.kept k,?_,q⟩;by_cases hj:j<i
 ·rw[if_pos hj,if_pos hj];exact⟨_,rfl⟩
 ·rw[if_neg hj,if_neg hj];exact⟨_,rfl⟩
end
structure EM(h:Heap)(x dx C:Addr)(mA:Str→aH):Prop where
 obj:h.get? x=some (instObj C dx)
 ns:h.Ns1 dx mA
 ne:dx≠x
theorem zG{h:Heap}{dx:Addr}{mA:Str→aH}(n:h.Ns1 dx mA):∃od,h.get? dx=some od∧∀name,lookIn name od=some (mA name):=by
 obtain⟨o,es,ep,ho,hd,hk,_,hm⟩:=n;refine⟨o,ho,fun name=> ?_⟩;have e:=hm name;unfold nsFind findBy at e;rw[←Array.find?_toList] at e;unfold lookIn;rw[hd];dsimp only
 split
 ·rename_i y q;rw[q] at e;exact congrArg some e
 ·rename_i q;rw[q] at e
  have a:es.toList.any (·.refKey)=false:=by
   rw[List.any_eq_false];intro y hy;obtain⟨z,t,Bs⟩:=hk y (Array.mem_toList_iff.mp hy);simp[DictEntry.refKey,Bs]
  have a' :¬es.toList.any (·.refKey)=true:=by rw[a];exact Bool.false_ne_true
  rw[if_neg a'];exact congrArg some e
theorem EM.look{h:Heap}{x dx C:Addr}{mA:Str→aH}(I:EM h x dx C mA):∃od,PySem.W.InstAt h x (instObj C dx) C (some od)∧∀name,lookIn name od=some (mA name):=
 let⟨od,ho,hl⟩:=zG I.ns
 ⟨od,⟨I.obj,rfl,rfl,ho⟩,hl⟩
section
variable{prog:Program}{w:World}{A:Around}{E:Value→Shared→Prop}{s:Shared}{K:Frag}{x dx C f:Addr}{mA:Str→aH}{name:Str}{v:Value}
theorem jai{expr:Bool}{Q:Value→Shared→Prop}(X:K.In s.heap)(I:EM s.heap x dx C mA)(hg:PySem.W.plainGet K C name=true)(hh:PySem.W.hasDictIn K C=true)
 (ha:PySem.W.findIn K (.ref C) name=some none) (hv:mA name=some v) (NM :handedIn v=true) (h:Q v {s with toks:=s.toks+1}):
 wpAny (model prog w) A (getAttr (.ref x) name expr) Q E s:=by
 obtain⟨od,J,hl⟩:=I.look;exact PySem.W.get_value X J (plainGet_of hg).1 (findObj_own hh ha rfl (by rw[hl,hv])) NM h
theorem KC{pl:Sem Bool}{Q:Value×aA→Shared→Prop}(X:K.In s.heap)(I:EM s.heap x dx C mA)(hg:PySem.W.plainGet K C name=true)
 (hf:PySem.W.findIn K (.ref C) name=some (some (.ref f))) (ht:PySem.W.isFn K (.ref f)=true) (hv:mA name=none) (h:Q (.ref f,[.ref x]) s):
 wpAny (model prog w) A (getMethod (.ref x) name pl) Q E s:=by
 obtain⟨od,J,hl⟩:=I.look;exact PySem.W.method_fn X J (plainGet_of hg).1 (plainGet_of hg).2 hf (beq_iff_eq.mp ht) (by show(lookIn name od).map (·.isSome)=some false;rw[hl,hv];rfl) h
theorem OQ{ns:aX}{Q:Unit→Shared→Prop}(X:K.In s.heap)(I:EM s.heap x dx C mA)
 (hs:PySem.W.findIn K (.ref C) "__setattr__"=some (some (.builtin "object.__setattr__"))) (hp:PySem.W.plainOver K C=true) (ht:takerIn K C name=some none) (hh:PySem.W.hasDictIn K C=true)
 (hw:PySem.Within mA ns) (hsz:ns.length≤sizeLine)
 (h:∀h',EM h' x dx C (fun y=>if y=name then some v else mA y)→Heap.SameBut dx s.heap h'→Q () {s with heap:=h',toks:=s.toks+2}):
 wpAny (model prog w) A (setAttr (.ref x) name v) Q E s:=by
 obtain⟨od,J,hl⟩:=I.look;refine set_plain X J hs (PySem.W.osa_open (s:={s with toks:=s.toks+1}) (r:=none) X J hp ht fun b=> ?_);obtain⟨cd,hc,zj⟩:=any_some hh;have hx:s.heap.get? x=some ⟨.ref C,some dx,.plain,#[]⟩:=I.obj;refine wpAny_bind (wpAny_pure (wpAny_bind (wpAny_bind (wpAny_loadPart hx (wpAny_bind (PySem.W.Looks.here (s:={s with toks:=s.toks+1}) (PySem.W.looks_clsIn X hc) ?_))))));rw[zj];refine wpAny_pure (a:=some dx) (wpAny_bind (wpAny_pure (wpAny_bind ?_)));refine wpAny_nsSet1 (s:={s with toks:=s.toks+1}) I.ns fun h' W2 Xy=> ?_;obtain⟨oD,esD,epD,hoD,hdD,hcD⟩:=W2.count (PySem.Within.cons name v hw);refine wpAny_bind (wpAny_lookBehind hoD (by rw[hdD];exact pastItsLine_dict (Nat.le_trans hcD (by rw[List.length_cons];omega))) ?_);exact wpAny_pure (h _ ⟨(Xy.2 _ (Ne.symm I.ne)).trans I.obj,W2,I.ne⟩ Xy)
theorem L9{R:Result→Shared→Prop}{vs:aA}{kw:List (Str×Value)}(X:K.In s.heap)(hm:PySem.W.makesIn K C=true)
 (hi:PySem.W.findIn K (.ref C) "__init__"=some (some (.ref f))) (hf:PySem.W.typeIn K (.ref f)=some (.type "function"))
 (h:codeAny (model prog w) (A.under (.builtin "type.__call__" ⟨.ref C::vs,kw⟩)) (.call (.ref f) ⟨.ref (s.heap.objs.size+1)::vs,kw⟩) (PySem.W.InitBack (s.heap.objs.size+1) R)
  {s with heap:=(s.heap.push emptyDict).push (instObj C s.heap.objs.size)}):
 codeAny (model prog w) A (.call (.ref C) ⟨vs,kw⟩) R s:=by
 obtain⟨hh,g,d,t,os⟩:=s;exact PySem.W.make_core (PySem.W.makes_of X hm) (looks_findIn X hi) (fun self=>bind_fn X self hf) (.inl rfl) h
end
def cu(f:Str)(v:V):iN→iN
 |[]=>[(f,v)]
 |(g,x)::r=>if g=f then(g,v)::r else(g,x)::cu f v r
theorem aK(f g:Str)(v:V):∀fs:iN,(cu f v fs).lookup g=if g=f then some v else fs.lookup g
 |[]=>by
  show List.lookup g [(f,v)]=_;by_cases h:g=f
  ·have hb:(g==f)=true:=beq_iff_eq.mpr h;simp only[List.lookup,hb,if_pos h]
  ·have hb:(g==f)=false:=beq_eq_false_iff_ne.mpr h;simp only[List.lookup,hb,if_neg h]
 |(k,x)::r=>by
  have ih:=aK f g v r;rw[show cu f v ((k,x)::r)=(if k=f then(k,v)::r else(k,x)::cu f v r) from rfl];by_cases hk:k=f
  ·rw[if_pos hk];by_cases h:g=k
   ·have hb:(g==k)=true:=beq_iff_eq.mpr h;simp only[List.lookup,hb,if_pos (h.trans hk)]
   ·have hb:(g==k)=false:=beq_eq_false_iff_ne.mpr h;simp only[List.lookup,hb,if_neg (fun e:g=f=>h (e.trans hk.symm))]
  ·rw[if_neg hk];by_cases h:g=k
   ·have hb:(g==k)=true:=beq_iff_eq.mpr h;simp only[List.lookup,hb,if_neg (fun e:g=f=>hk (h.symm.trans e))]
   ·have hb:(g==k)=false:=beq_eq_false_iff_ne.mpr h;simp only[List.lookup,hb];exact ih
theorem u4(f:Str)(v:V):∀fs:iN,f∈(cu f v fs).map (·.1)∧∀g,g∈fs.map (·.1)→g∈(cu f v fs).map (·.1)
 |[]=>⟨by simp[cu],fun g h=>by simp at h⟩
 |(k,x)::r=>by
  obtain⟨i1,i2⟩:=u4 f v r;rw[show cu f v ((k,x)::r)=(if k=f then(k,v)::r else(k,x)::cu f v r) from rfl];by_cases hk:k=f
  ·rw[if_pos hk];subst hk;exact⟨by simp,fun g h=>by simpa using h⟩
  ·rw[if_neg hk];refine⟨?_,fun g h=> ?_⟩
   ·rw[List.map_cons];exact List.mem_cons_of_mem _ i1
   ·rw[List.map_cons] at h ⊢;rcases List.mem_cons.mp h with e|e
    ·exact List.mem_cons.mpr (.inl e)
    ·exact List.mem_cons_of_mem _ (i2 g e)
theorem cE(f:Str)(v:V):∀fs:iN,(cu f v fs).length≤fs.length+1
 |[]=>by simp[cu]
 |(k,x)::r=>by
  have ih:=cE f v r;rw[show cu f v ((k,x)::r)=(if k=f then(k,v)::r else(k,x)::cu f v r) from rfl];by_cases hk:k=f
  ·rw[if_pos hk,List.length_cons,List.length_cons];omega
  ·rw[if_neg hk,List.length_cons,List.length_cons];omega
theorem lE.some_of{v:V}{o:aH}(r:lE (some v) o):∃u,o=some u∧RelV v u:=by
 cases o with
 |none=>exact(show False from r).elim
 |some u=>exact⟨u,rfl,r⟩
theorem lE.none_of{o:aH}(r:lE none o):o=none:=by
 cases o with
 |none=>rfl
 |some u=>exact(show False from r).elim
theorem zU{v:V}{u:Value}(r:RelV v u):handedIn u=true:=by
 cases v with
 |bJ=>cases(show u=Value.none from r);rfl
 |bl b=>cases(show u=Value.bool b from r);rfl
 |int i=>obtain⟨t,e⟩:=(show ∃t,u=Value.int i t from r);cases e;rfl
 |str x=>obtain⟨t,e⟩:=(show ∃t,u=Value.str x t from r);cases e;rfl
 |Iy b=>obtain⟨t,e⟩:=(show ∃t,u=Value.bytes b t from r);cases e;rfl
 |VA b=>obtain⟨t,e⟩:=(show ∃t,u=Value.float b t from r);cases e;rfl
 |ref a=>cases(show u=Value.ref a from r);rfl
 |ty n=>cases(show u=Value.type n from r);rfl
section
variable{P:Program}{w:World}{H H' :Hp}{h h' :Heap}{a C dx:Addr}{fs fs' :iN}
theorem wk(bD:qE P w H h)(e:H a=some (.ins C dx fs)):∃mA,EM h a dx C mA∧(∀f,lE (fs.lookup f) (mA f))∧PySem.Within mA (fs.map (·.1))∧fs.length≤1000∧H dx=some (.own a):=by
 obtain⟨d,z,ne,ob,mA,n,r,q⟩:=(show bq P w H h a (.ins C dx fs) from bD a _ e);exact⟨mA,⟨ob,n,ne⟩,r,q,z,d⟩
end
structure Fh(K:Frag)(C:Addr):Prop where
 pg:PySem.W.plainGet K C Str.empty=true
 hd:PySem.W.hasDictIn K C=true
 po:PySem.W.plainOver K C=true
 sa:PySem.W.findIn K (.ref C) "__setattr__"=some (some (.builtin "object.__setattr__"))
theorem Fh.get{K:Frag}{C:Addr}(c:Fh K C)(f:Str):PySem.W.plainGet K C f=true:=c.pg
def cP(K:Frag)(C:Addr)(f:Str):Prop:=PySem.W.findIn K (.ref C) f=some none
theorem cP.acd{K:Frag}{C:Addr}{f:Str}(n:cP K C f):takerIn K C f=some none:=by
 unfold takerIn;rw[show PySem.W.findIn K (.ref C) f=some none from n];rfl
structure Meth(K:Frag)(C:Addr)(m:Str)(f:Addr):Prop where
 at_:PySem.W.findIn K (.ref C) m=some (some (.ref f))
 fn:PySem.W.isFn K (.ref f)=true
 kp:PySem.W.keepIn K (.ref f)=true
section
variable{X:Cx}{pins:aL}{σ:St}{H:Hp}{s:Shared}{a C dx:Addr}{fs:iN}{f:Str}{v:V}{A:Around}{E:Value→Shared→Prop}
theorem EW{b:Bool}{Q:Value→Shared→Prop}(I:Inv X pins σ H s)(e:H a=some (.ins C dx fs))(c:Fh X.K C)(n:cP X.K C f)(l:fs.lookup f=some v)
 (h:∀u s',Inv X pins σ H s'→RelV v u→Q u s'):wpAny (model X.prog X.w) A (getAttr (.ref a) f b) Q E s:=by
 obtain⟨mA,O,r,_,_,_⟩:=wk I.bD e;obtain⟨u,hu,ru⟩:=lE.some_of (v:=v) (o:=mA f) (by rw[←l];exact r f);exact jai I.lD O (c.get f) c.hd n hu (zU ru) (h u _ (I.tok _) ru)
theorem nH{m:Str}{g:Addr}{pl:Sem Bool}{Q:Value×aA→Shared→Prop}(I:Inv X pins σ H s)(e:H a=some (.ins C dx fs))(c:Fh X.K C)(k:Meth X.K C m g)(l:fs.lookup m=none)
 (h:Q (.ref g,[.ref a]) s):wpAny (model X.prog X.w) A (getMethod (.ref a) m pl) Q E s:=by
 obtain⟨mA,O,r,_,_,_⟩:=wk I.bD e;have hn:mA m=none:=lE.none_of (by rw[←l];exact r m);exact KC I.lD O (c.get m) k.at_ k.fn hn h
theorem EG{y:V}{u:Value}{Q:Unit→Shared→Prop}(I:Inv X pins σ H s)(e:H a=some (.ins C dx fs))(c:Fh X.K C)(n:cP X.K C f)(hl:fs.length<1000)(ry:RelV y u)
 (h:∀s',Inv X pins σ (upd H a (.ins C dx (cu f y fs))) s'→Q () s'):wpAny (model X.prog X.w) A (setAttr (.ref a) f u) Q E s:=by
 obtain⟨mA,O,r,wi,_,ho⟩:=wk I.bD e;have hz:(fs.map (·.1)).length≤sizeLine:=by rw[List.length_map,sizeLine_eq];omega
 refine OQ I.lD O c.sa c.po n.acd c.hd wi hz fun h' O' sb=>h _ ?_;have hd:∃o,h'.get? dx=some o:=let⟨o,_,_,e',_⟩:=O'.ns;⟨o,e'⟩
 refine I.write (x:=a) (e:=dx) (by rw[e];exact True.intro) (.inr ho) (fun b q hb z=>(sb.2 b hb).trans z) hd ?_;refine⟨by rw[af O.ne];exact ho,?_,O.ne,O'.obj,_,O'.ns,fun g=> ?_,fun g hg=> ?_⟩
 ·have:=cE f y fs;omega
 ·show lE ((cu f y fs).lookup g) (if g=f then some u else mA g);rw[aK];by_cases q:g=f
  ·rw[if_pos q,if_pos q];exact ry
  ·rw[if_neg q,if_neg q];exact r g
 ·by_cases q:g=f
  ·rw[q];exact(u4 f y fs).1
  ·refine(u4 f y fs).2 g (wi g fun z=>hg ?_);show(if g=f then some u else mA g)=none;rw[if_neg q];exact z
theorem Inv.made(I:Inv X pins σ H s):Inv X pins σ (upd (upd H s.heap.objs.size (.own (s.heap.objs.size+1))) (s.heap.objs.size+1) (.ins C s.heap.objs.size []))
 {s with heap:=(s.heap.push emptyDict).push (instObj C s.heap.objs.size)}:=by
 have e1:(s.heap.push emptyDict).get? s.heap.objs.size=some emptyDict:=Heap.get?_push_size s.heap rfl
 have e2:((s.heap.push emptyDict).push (instObj C s.heap.objs.size)).get? (s.heap.objs.size+1)=some (instObj C s.heap.objs.size):=by
  have:=Heap.get?_push_size (s.heap.push emptyDict) (o:=instObj C s.heap.objs.size) rfl;rwa[Heap.size_push] at this
 have e3:(s.heap.push emptyDict).Ns s.heap.objs.size (fun _=>none):=⟨emptyDict,#[],_,e1,rfl,(fun e he=>absurd he (by simp)),fun _=>rfl⟩;have I1:=I.laid (a:=s.heap.objs.size) (o:= .own (s.heap.objs.size+1)) (h' :=s.heap.push emptyDict) (t' :=s.toks) (fun b u q=>Heap.get?_push_of_some _ q) (Nat.le_refl _) ⟨_,e1⟩;refine I1.laid (a:=s.heap.objs.size+1) (o:= .ins C s.heap.objs.size []) (t' :=s.toks) (fun b u q=>Heap.get?_push_of_some _ q) (Nat.le_of_eq (Heap.size_push _ _)) ?_;have ne:s.heap.objs.size≠s.heap.objs.size+1:=Nat.ne_of_lt (Nat.lt_succ_self _);refine⟨by rw[af ne,ae],Nat.zero_le _,ne,e2,fun _=>none,(Heap.Ns1.of_empty e3).at fun o q=>Heap.get?_push_of_some _ q,fun _=>True.intro,fun y hy=>absurd rfl hy⟩
theorem FJ{prog:Program}{w:World}{env:Env}{e:Expr}{f:Str}{pos:Pos}{s:Shared}{Q:Value→Shared→Prop}(hb:attributeBase e f env (eval e env)=eval e env)
 (h:wpAny (model prog w) A (eval e env) (fun o bF=>wpAny (model prog w) A (getAttr o f true) Q E bF) E s):wpAny (model prog w) A (eval (.Attribute e f pos) env) Q E s:=
 Attribute_any_ h (by rw[arm_eval_Attribute,hb])
end
def YB(K:Frag)(ta:TE)(f:Str):TE:=fun σ H Q=>ta σ H fun x H1=>∃a C dx fs v,x= .ref a∧H1 a=some (.ins C dx fs)∧Fh K C∧cP K C f∧fs.lookup f=some v∧Q v H1
def agB(K:Frag)(ta tv:TE)(f:Str):TS:=fun D σ H=>tv σ H fun y H1=>ta σ H1 fun x H2=>∃a C dx fs,x= .ref a∧H2 a=some (.ins C dx fs)∧Fh K C∧cP K C f∧fs.length<1000∧
 D.nx σ (upd H2 a (.ins C dx (cu f y fs)))
section
variable{X:Cx}{o e value:Expr}{f:Str}{pos pos' afr:Pos}{ta tv:TE}
theorem b9(he:PE X e ta)(hb:attributeBase e f X.env (eval e X.env)=eval e X.env):PE X (.Attribute e f pos) (YB X.K ta f):=by
 intro pins s σ H Q I h;refine FJ hb (cm (he pins s σ H _ I h) fun u s1 ⟨x,H1,I1,rx,a,C,dx,fs,v,ex,ea,c,n,l,q⟩=> ?_);subst ex;obtain rfl:u=Value.ref a:=rx;exact EW I1 ea c n l fun u' s2 I2 ru=>⟨v,H1,I2,ru,q⟩
theorem kS(ha:PE X o ta)(hv:PE X value tv)(hs:swapsWith value (some (.Attribute o f pos')) pos.line X.env=pure false):PS X (.Assign [.Attribute o f pos'] value pos) (agB X.K ta tv f):=by
 intro pins s σ H D I h;refine plainObj_wpAny_Assign_Attribute (cm (hv pins s σ H _ I h) fun u s1 ⟨y,H1,I1,ry,q⟩=>cm (ha pins s1 σ H1 _ I1 q) fun ov s2 ⟨x,H2,I2,rx,a,C,dx,fs,ex,ea,c,n,l,q2⟩=> ?_) hs;subst ex;obtain rfl:ov=Value.ref a:=rx;exact EG I2 ea c n l ry fun s3 I3=>⟨σ,_,I3,q2⟩
theorem Ss{pl:Sem Bool}{m:Str}{apos:Pos}{args:cR}{pins:aL}{s:Shared}{σ:St}{H:Hp}{Q:Value→Shared→Prop}{te:TE}(he:PE X e te)(I:Inv X pins σ H s)
 (h:te σ H fun x H1=>∃a C dx fs g,x= .ref a∧H1 a=some (.ins C dx fs)∧Fh X.K C∧Meth X.K C m g∧fs.lookup m=none∧
  ∀s1,Inv X pins σ H1 s1→wpAny (model X.prog X.w) X.A (callWith pos (.ref g) [.ref a] (backTo pos (starEach args X.env)) (backToKw pos (keywordEach [] X.env))) Q X.xe s1)
 (ht:eval (.Call (.Attribute e m apos) args [] pos) X.env=(do
  let ov←eval e X.env
  standAt apos.atName
  let(f,first)←holding [ov] (getMethod ov m pl)
  callWith pos f first (backTo pos (starEach args X.env)) (backToKw pos (keywordEach [] X.env)))):
 wpAny (model X.prog X.w) X.A (eval (.Call (.Attribute e m apos) args [] pos) X.env) Q X.xe s:=by
 refine methodCall_KW (pl:=pl) (cm (he pins s σ H _ I h) fun u s1 ⟨x,H1,I1,rx,a,C,dx,fs,g,ex,ea,c,k,l,q⟩=> ?_) ht;subst ex;obtain rfl:u=Value.ref a:=rx;exact nH I1 ea c k l (q s1 I1)
end
section
variable{X:Cx}{pins:aL}{σ:St}{H:Hp}{s:Shared}{A:Around}{E:Value→Shared→Prop}{Q:Value→Shared→Prop}{c:Value}{b:Bool}
inductive sj (K:Frag) (H:Hp):V→Value→Prop where
 |bJ:sj K H .bJ (.type "NoneType")
 |bl (x:Bool):sj K H (.bl x) (.type "bool")
 |int (i:Int):sj K H (.int i) (.type "int")
 |str (x:Str):sj K H (.str x) (.type "str")
 |VA (x:UInt64):sj K H (.VA x) (.type "float")
 |lst {a:Addr} {xs:az} (e:H a=some (.lst xs)):sj K H (.ref a) (.type "list")
 |gz {a:Addr} {o:Obj} {xs:az} (e:H a=some (.gz o (.lst xs))):sj K H (.ref a) (.type "list")
 |tup {a:Addr} {xs:az} (e:H a=some (.tup xs)):sj K H (.ref a) (.type "tuple")
 |dK {a:Addr} {kvs:bK} (e:H a=some (.dK kvs)):sj K H (.ref a) (.type "dict")
 |dT {a:Addr} {kvs:dM} (e:H a=some (.dT kvs)):sj K H (.ref a) (.type "dict")
 |ins {a C dx:Addr} {fs:iN} (e:H a=some (.ins C dx fs)) (cl:Fh K C) (ha:PySem.W.findIn K (.ref C) "__class__"=some (some (.builtin "object.__class__")))
  (hn:PySem.W.specialIn K (.builtin "object.__class__") "__get__"=some (some (.builtin "getset_descriptor.__get__"))) (U4:PySem.W.takesIn K (.builtin "object.__class__")=some true)
  (hm:PySem.W.mroIn K C (.type "object")=some true):sj K H (.ref a) (.ref C)
theorem z_{x:V}{u t:Value}(I:Inv X pins σ H s)(rx:RelV x u)(ty:sj X.K H x t)(e:kitOne X.K t c=some b)(h:∀tk,Q (.bool b) {s with toks:=tk}):
 wpAny (model X.prog X.w) A (call (.builtin "isinstance") [u,c]) Q E s:=by
 cases ty with
 |bJ=>cases(show u=Value.none from rx);exact kia_one PySem.W.kitx_none I.lD True.intro e (fun z=>nomatch z) h
 |bl y=>cases(show u=Value.bool y from rx);exact kia_one PySem.W.kitx_bool I.lD True.intro e (fun z=>nomatch z) h
 |int i=>obtain⟨t,q⟩:=(show ∃t,u=Value.int i t from rx);cases q;exact kia_one PySem.W.kitx_int I.lD True.intro e (fun z=>nomatch z) h
 |str y=>obtain⟨t,q⟩:=(show ∃t,u=Value.str y t from rx);cases q;exact kia_one PySem.W.kitx_str I.lD True.intro e (fun z=>nomatch z) h
 |VA y=>obtain⟨t,q⟩:=(show ∃t,u=Value.float y t from rx);cases q;exact kia_one PySem.W.kitx_float I.lD True.intro e (fun z=>nomatch z) h
 | @lst a xs ea=>
  cases(show u=Value.ref a from rx);obtain⟨_,_,n,_,h1⟩:=(show bq X.prog X.w H s.heap a (.lst xs) from I.bD a _ ea);exact kia_one kitx_list I.lD ⟨_,h1,rfl⟩ e (fun z=>nomatch z) h
 | @gz a ob xs ea=>
  cases(show u=Value.ref a from rx);obtain⟨_,_,_,n,_,h1⟩:=(show bq X.prog X.w H s.heap a (.gz ob (.lst xs)) from I.bD a _ ea);exact kia_one kitx_list I.lD ⟨_,h1,rfl⟩ e (fun z=>nomatch z) h
 | @tup a xs ea=>
  cases(show u=Value.ref a from rx);obtain⟨_,_,_,p⟩:=(show bq X.prog X.w H s.heap a (.tup xs) from I.bD a _ ea);obtain⟨o,h1,h2,_⟩:=p;exact kia_one PySem.W.kitx_tuple I.lD ⟨o,h1,h2⟩ e (fun z=>nomatch z) h
 | @dK a kvs ea=>
  cases(show u=Value.ref a from rx);obtain⟨_,_,vs,_,p⟩:=(show bq X.prog X.w H s.heap a (.dK kvs) from I.bD a _ ea);obtain⟨o,es,ep,h1,h2,_⟩:=p;exact kia_one kitx_dict I.lD ⟨o,h1,h2.1⟩ e (fun z=>nomatch z) h
 | @dT a kvs ea=>
  cases(show u=Value.ref a from rx);obtain⟨_,_,xs,_,o,es,ep,h1,h2,_⟩:=(show bq X.prog X.w H s.heap a (.dT kvs) from I.bD a _ ea);exact kia_one kitx_dict I.lD ⟨o,h1,h2.1⟩ e (fun z=>nomatch z) h
 | @ins a C dx fs ea cl ha hn U4 hm=>
  cases(show u=Value.ref a from rx);obtain⟨mA,O,_⟩:=wk I.bD ea;obtain⟨od,J,_⟩:=O.look;exact kia_one (PySem.W.kitx_own (cl.get _) cl.hd ha hn U4 hm) I.lD J e (fun z=>nomatch z) h
end
structure eT(k:Nat)(A:Around):Prop where
 hd:A.handled=none
 dp:A.depth+3*k+5<recursionLimit
 un:A.units+16*k+200<cLine
 gd:A.guards=some []
theorem eT.mono{j k:Nat}{A:Around}(r:eT k A)(h:j≤k):eT j A:=⟨r.hd,by have:=r.dp;omega,by have:=r.un;omega,r.gd⟩
theorem eT.deeper{k:Nat}{A:Around}(r:eT (k+1) A)(env:Env):eT k (A.deeper env):=
 ⟨r.hd,by have:=r.dp;show A.depth+1+3*k+5<_;omega,by have:=r.un;show A.units+3+16*k+200<_;omega,r.gd⟩
theorem eT.in1{k:Nat}{A:Around}(r:eT (k+1) A):eT k A.in1:=
 ⟨r.hd,by have:=r.dp;show A.depth+3*k+5<_;omega,by have:=r.un;show A.units+1+16*k+200<_;omega,r.gd⟩
theorem Ed{A:Around}{C:Addr}{us:aA}{kw:List (Str×Value)}:(A.under (.builtin "type.__call__" ⟨.ref C::us,kw⟩)).depth=A.depth+1:=by
 first|rfl|simp[Around.under,Code.weight,Code.isCreation,Code.isGuard,Code.isCaller,Code.frames,Code.isFrame,guardIds]
theorem Fg{A:Around}{C:Addr}{us:aA}{kw:List (Str×Value)}:(A.under (.builtin "type.__call__" ⟨.ref C::us,kw⟩)).units=A.units+1:=by
 first|rfl|simp[Around.under,Code.cUnits,Code.frames,Code.isFrame]
theorem B8{A:Around}{C:Addr}{us:aA}{kw:List (Str×Value)}{g:List Code}(h:A.guards=some g):(A.under (.builtin "type.__call__" ⟨.ref C::us,kw⟩)).guards=some g:=by
 have e:(Code.builtin "type.__call__" ⟨.ref C::us,kw⟩).guards=[]:=by first|rfl|simp[Code.guards,Code.isGuard,guardIds]
 first
  |(simp only[Around.under,e,pushGuards];exact h)
  |simp[Around.under,e,pushGuards,h]
theorem eT.make{k:Nat}{A:Around}(r:eT (k+1) A)(C:Addr)(us:aA)(kw:List (Str×Value)):eT k (A.under (.builtin "type.__call__" ⟨.ref C::us,kw⟩)):=
 ⟨r.hd,by have:=r.dp;rw[Ed];omega,by have:=r.un;rw[Fg];omega,B8 r.gd⟩
theorem eT.depth{k:Nat}{A:Around}(r:eT k A):A.depth<recursionLimit:=by have:=r.dp;omega
theorem eT.units{k:Nat}{A:Around}(r:eT k A):A.units+64<cLine:=by have:=r.un;omega
theorem eT.Ej{k:Nat}{A:Around}(r:eT k A):A.units<cLine:=by have:=r.un;omega
def abf:TA:=fun _ H Q=>Q [] H
def aa9(ta:TE)(tr:TA):TA:=fun σ H Q=>ta σ H fun x H1=>tr σ H1 fun xs H2=>Q (x::xs) H2
section
variable{X:Cx}{e:Expr}{es:cR}{te:TE}{t:TA}{pos:Pos}
theorem ah:PA X [] abf:=fun _ _ _ _ H Q I h=>Calls.spliced_nil ⟨[],H,I,.nil,h⟩
theorem aa(ha:PE X e te)(hr:PA X es t)(hs:starEach (e::es) X.env=(false,eval e X.env)::starEach es X.env:=by rfl):PA X (e::es) (aa9 te t):=by
 intro pos pins s σ H Q I h;rw[hs];show wpAny _ _ (spliced ((false,eval e X.env)::backTo pos (starEach es X.env))) _ _ s;refine Calls.spliced_cons (cm (ha pins s σ H _ I h) fun u s1 ⟨x,H1,I1,r1,q1⟩=> ?_);exact cm (hr pos pins s1 σ H1 _ I1 q1) fun us s2 ⟨xs,H2,I2,r2,q2⟩=>⟨x::xs,H2,I2,.cons r1 r2,q2⟩
def agt(t:TA):TE:=fun σ H Q=>t σ H fun xs H1=>xs.length≤sizeLine∧∀p,H1 p=none→Q (.ref p) (upd H1 p (.tup xs))
def ajF(t:TA):TE:=fun σ H Q=>t σ H fun xs H1=>xs.length≤sizeLine∧∀p,H1 p=none→Q (.ref p) (upd H1 p (.lst xs))
theorem nC{x1}(h:PA X es t):PE X (.Tuple es x1 pos) (agt t):=by
 intro pins s σ H Q I hq;refine wpAny_Tuple_spliced (cm (h pos pins s σ H _ I hq) fun us s1 ⟨xs,H1,I1,r,z,q⟩=>⟨by rw[←r.length];exact z,?_⟩);have hf:H1 s1.heap.objs.size=none:=I1.bD.fresh (Nat.le_refl _);refine⟨.ref s1.heap.objs.size,upd H1 s1.heap.objs.size (.tup xs),I1.laid (t' :=s1.toks) (fun b u e=>Heap.get?_push_of_some _ e) (Nat.le_refl _) ?_,rfl,q _ hf⟩;exact⟨z,us,r,⟨_,Heap.get?_push_size _ rfl,rfl,_,rfl⟩⟩
theorem bO(h:PA X es t):PE X (.List es pos) (ajF t):=by
 intro pins s σ H Q I hq;refine wpAny_List_spliced (cm (h pos pins s σ H _ I hq) fun us s1 ⟨xs,H1,I1,r,z,q⟩=>⟨by rw[←r.length];exact z,?_⟩);have hf:H1 s1.heap.objs.size=none:=I1.bD.fresh (Nat.le_refl _);refine⟨.ref s1.heap.objs.size,upd H1 s1.heap.objs.size (.lst xs),I1.laid (t' :=s1.toks) (fun b u e=>Heap.get?_push_of_some _ e) (Nat.le_refl _) ?_,rfl,q _ hf⟩;exact⟨z,us,0,r,Heap.get?_push_size _ rfl⟩
end
abbrev Sp:=az→Hp→VK→XK→Prop
abbrev Bl:=List Env→Hp→Shared→XK→Value→Shared→Prop
structure wU(P:Program)(w:World)(K:Frag)(mg:Str→aH)(base:Heap)(A:Around)(outer:List Env)(s:Shared)(H:Hp):Prop where
 frames:A.frames=some outer
 mod:Mod K mg base
 bs:∀b o,base.get? b=some o→s.heap.get? b=some o∧H b=none
 Ih:base.objs.size≤s.heap.objs.size
 sk:s.heap.FunFrames base outer
 NP:∀b∈wz outer,H b=none
 bD:qE P w H s.heap
 bare:AllBare s.gens
def CE(outer:List Env)(P:Program)(w:World)(H:Hp)(s:Shared)(Q:VK)(u:Value)(s' :Shared):Prop:=
 ∃v H',s'.os=s.os∧AllBare s'.gens∧Un (wz outer) [] H H' s.heap s'.heap∧qE P w H' s'.heap∧RelV v u∧Q v H'
def CR(CX:Bl)(outer:List Env)(P:Program)(w:World)(H:Hp)(s:Shared)(Q:VK)(E:XK)(r:Result)(s' :Shared):Prop:=
 match r with
 | .ok (.ret u)=>CE outer P w H s Q u s'
 | .ok _=>False
 | .error e=>CX outer H s E e s'
structure aV(P:Program)(w:World)(K:Frag)(mg:Str→aH)(base:Heap)(CX:Bl)(k:Nat)(f:Addr)(fd:FuncData)(ps:aX)(sp:Sp):Prop where
 len:∀vs H Q E,sp vs H Q E→vs.length=ps.length
 run:∀(A:Around) (outer:List Env) (s:Shared) (H:Hp) (args:Args) (us:aA) (vs:az) (Q:VK) (E:XK),eT k A→wU P w K mg base A outer s H→BindsTo s fd args (ps.zip us)→Vals vs us→sp vs H Q E→
  codeAny (model P w) A (.call (.ref f) args) (CR CX outer P w H s Q E) s
theorem aV.mono{P:Program}{w:World}{K:Frag}{mg:Str→aH}{base:Heap}{CX:Bl}{j k:Nat}{f:Addr}{fd:FuncData}{ps:aX}{sp:Sp}(F:aV P w K mg base CX j f fd ps sp)(h:j≤k):
 aV P w K mg base CX k f fd ps sp:=⟨F.len,fun A outer s H args us vs Q E hr=>F.run A outer s H args us vs Q E (hr.mono h)⟩
theorem aV.imp{P:Program}{w:World}{K:Frag}{mg:Str→aH}{base:Heap}{CX:Bl}{k:Nat}{f:Addr}{fd:FuncData}{ps:aX}{sp sp' :Sp}(F:aV P w K mg base CX k f fd ps sp)
 (h:∀vs H Q E,sp' vs H Q E→sp vs H Q E):aV P w K mg base CX k f fd ps sp' :=
 ⟨fun vs H Q E q=>F.len vs H Q E (h _ _ _ _ q),fun A outer s H args us vs Q E hr he hb hv hs=>F.run A outer s H args us vs Q E hr he hb hv (h _ _ _ _ hs)⟩
theorem wU.make{P:Program}{w:World}{K:Frag}{mg:Str→aH}{base:Heap}{A:Around}{outer:List Env}{s:Shared}{H:Hp}(e:wU P w K mg base A outer s H)(C:Addr)(us:aA)(kw:List (Str×Value)):
 wU P w K mg base (A.under (.builtin "type.__call__" ⟨.ref C::us,kw⟩)) outer s H:=⟨by first|exact e.frames|(simpa[Around.under,Code.envs,Code.isFrame,pushEnvs] using e.frames),e.mod,e.bs,e.Ih,e.sk,e.NP,e.bD,e.bare⟩
theorem wU.in1{P:Program}{w:World}{K:Frag}{mg:Str→aH}{base:Heap}{A:Around}{outer:List Env}{s:Shared}{H:Hp}(e:wU P w K mg base A outer s H):
 wU P w K mg base A.in1 outer s H:=⟨e.frames,e.mod,e.bs,e.Ih,e.sk,e.NP,e.bD,e.bare⟩
section
variable{X:Cx}{pins:aL}{σ:St}{H:Hp}{s s' :Shared}
theorem Inv.Po(I:Inv X pins σ H s):wU X.prog X.w X.K X.mg X.base X.A X.stack s H:=
 ⟨I.ok.frames,I.ok.mod,I.bs,Nat.le_trans I.ok.Ih I.sz,I.stack,I.wj,I.bD,I.bare⟩
theorem Inv.after{Q:VK}{u:Value}(I:Inv X pins σ H s)(h:CE X.stack X.prog X.w H s Q u s'):EP X pins σ Q u s' :=by
 obtain⟨v,H',os,bare,un,bD,r,q⟩:=h;obtain⟨hh,g,d,t,os'⟩:=s';obtain rfl:os' =s.os:=os;exact⟨v,H',I.call (h' :=hh) (g' :=g) (d' :=d) (t' :=t) (ch:=[]) un bD bare (fun b z=>absurd z (by simp)),r,q⟩
end
def Tc(sp:Sp)(qX:az)(E:XK)(t:TA):TE:=fun σ H Q=>t σ H fun vs H1=>sp (vs++qX) H1 Q E
def QQ(C:Addr)(m:Str)(sp:Sp)(qX:az)(E:XK)(ta:TE)(t:TA):TE:=fun σ H Q=>ta σ H fun x H1=>∃a dx fs,x= .ref a∧H1 a=some (.ins C dx fs)∧fs.lookup m=none∧
 t σ H1 fun vs H2=>sp (x::(vs++qX)) H2 Q E
def abL(C:Addr)(sp:Sp)(qX:az)(E:XK)(t:TA):TE:=fun σ H Q=>t σ H fun vs H1=>∀x dx,H1 x=none→H1 dx=none→dx≠x→
 sp (.ref x::(vs++qX)) (upd (upd H1 dx (.own x)) x (.ins C dx [])) (fun v H2=>v= .bJ∧Q (.ref x) H2) E
def Binds(K:Frag)(fd:FuncData)(ps:aX)(ds:aA):Prop:=
 ∀(s:Shared) (us:aA),K.In s.heap→(us++ds).length=ps.length→BindsTo s fd ⟨us,[]⟩ (ps.zip (us++ds))
theorem Binds.all{K:Frag}{fd:FuncData}{ps:aX}(h:∀us:aA,us.length=ps.length→bindArgs fd ⟨us,[]⟩=pure (ps.zip us)):Binds K fd ps []:=fun s us _ hl=>by
 rw[List.append_nil] at hl ⊢;exact .of_eq (h us hl)
def wT(CX:Bl)(X:Cx)(E:XK):Prop:=∀(pins:aL) (σ:St) (H:Hp) (s:Shared) (e:Value) (s' :Shared),Inv X pins σ H s→CX X.stack H s E e s'→X.xe e s'
section
variable{X:Cx}{CX:Bl}{k:Nat}{f C:Addr}{fd:FuncData}{ps:aX}{sp:Sp}{qX:az}{ds:aA}{E:XK}{x m:Str}{p pos apos:Pos}{e o:Expr}{es:cR}{ta:TE}{t:TA}
theorem AX{pins:aL}{σ:St}{H:Hp}{s:Shared}{Q:VK}{us:aA}{vs:az}(F:aV X.prog X.w X.K X.mg X.base CX k f fd ps sp)(hr:eT k X.A)(hb:Binds X.K fd ps ds)(hd:Vals qX ds)(hx:wT CX X E)
 (I:Inv X pins σ H s) (r:Vals vs us) (h:sp (vs++qX) H Q E):wpAny (model X.prog X.w) X.A (call (.ref f) us) (EP X pins σ Q) X.xe s:=by
 have r2:Vals (vs++qX) (us++ds):=r.append hd;have hl:(us++ds).length=ps.length:=by rw[←r2.length];exact F.len _ _ _ _ h
 refine wpAny_call (codeAny_mono (F.run X.A X.stack s H ⟨us,[]⟩ (us++ds) (vs++qX) Q E hr I.Po (hb s us I.lD hl) r2 h) fun r s' hq=> ?_)
 cases r with
 |error e=>exact hx pins σ H s e s' I hq
 |ok fl=>
  cases fl with
  |ret u=>exact I.after hq
  |next=>exact False.elim hq
  |brk=>exact False.elim hq
  |cont=>exact False.elim hq
theorem ay(F:aV X.prog X.w X.K X.mg X.base CX k f fd ps sp)(hr:eT k X.A)(hg:Gl X x)(hm:X.mg x=some (.ref f))(hk:PySem.W.keepIn X.K (.ref f)=true)(hb:Binds X.K fd ps ds)(hd:Vals qX ds)(hx:wT CX X E)
 (ha:PA X (e::es) t) (BX:(x==("__debug__" :Str))=false:=by decide) (he:starEach (e::es) X.env=(false,eval e X.env)::starEach es X.env:=by rfl) (rK:(backTo pos (starEach es X.env)).any (·.1)=false:=by rfl):
 PE X (.Call (.Name x p) (e::es) [] pos) (Tc sp qX E t):=by
 intro pins s σ H Q I h;refine wpAny_Call_Name_kw (ou I hg hm ?_ BX);refine callWith_K (h₀:=X.base) I.ok.mod.Oy hk (cm (ha pos pins s σ H _ I h) fun us s1 ⟨vs,H1,I1,r,q⟩=>⟨I1.lD,?_⟩) he rK;exact AX F hr hb hd hx I1 r q
theorem aR{pl:Sem Bool}(he:PE X o ta)(c:Fh X.K C)(hm:Meth X.K C m f)(F:aV X.prog X.w X.K X.mg X.base CX k f fd ps sp)(hr:eT k X.A)(hb:Binds X.K fd ps ds)(hd:Vals qX ds)(hx:wT CX X E)(ha:PA X (e::es) t)
 (fw:starEach (e::es) X.env=(false,eval e X.env)::starEach es X.env:=by rfl) (rK:(backTo pos (starEach es X.env)).any (·.1)=false:=by rfl)
 (ht:eval (.Call (.Attribute o m apos) (e::es) [] pos) X.env=(do
  let ov←eval o X.env
  standAt apos.atName
  let(f,first)←holding [ov] (getMethod ov m pl)
  callWith pos f first (backTo pos (starEach (e::es) X.env)) (backToKw pos (keywordEach [] X.env))):=by rfl):
 PE X (.Call (.Attribute o m apos) (e::es) [] pos) (QQ C m sp qX E ta t):=by
 intro pins s σ H Q I h;refine methodCall_KW (pl:=pl) (cm (he pins s σ H _ I h) fun u s1 ⟨x,H1,I1,rx,a,dx,fs,ex,ea,l,q⟩=> ?_) ht;subst ex;obtain rfl:u=Value.ref a:=rx;refine nH I1 ea c hm l ?_;refine callWith_K (first:=[.ref a]) (h₀:=X.base) I.ok.mod.Oy hm.kp (cm (ha pos pins s1 σ H1 _ I1 q) fun us s2 ⟨vs,H2,I2,r,q2⟩=>⟨I2.lD,?_⟩) fw rK;exact AX (us:= .ref a::us) (vs:= .ref a::vs) F hr hb hd hx I2 (.cons rfl r) q2
theorem cf{pl:Sem Bool}(he:PE X o ta)(c:Fh X.K C)(hm:Meth X.K C m f)(F:aV X.prog X.w X.K X.mg X.base CX k f fd ps sp)(hr:eT k X.A)(hb:Binds X.K fd ps ds)(hd:Vals qX ds)(hx:wT CX X E)
 (ht:eval (.Call (.Attribute o m apos) [] [] pos) X.env=(do
  let ov←eval o X.env
  standAt apos.atName
  let(f,first)←holding [ov] (getMethod ov m pl)
  callWith pos f first (backTo pos (starEach [] X.env)) (backToKw pos (keywordEach [] X.env))):=by rfl):
 PE X (.Call (.Attribute o m apos) [] [] pos) (QQ C m sp qX E ta abf):=by
 intro pins s σ H Q I h;refine methodCall_KW (pl:=pl) (cm (he pins s σ H _ I h) fun u s1 ⟨x,H1,I1,rx,a,dx,fs,ex,ea,l,q⟩=> ?_) ht;subst ex;obtain rfl:u=Value.ref a:=rx;refine nH I1 ea c hm l ?_;exact PySem.W.callWith_K0 (first:=[.ref a]) I1.lD hm.kp (AX (us:=[.ref a]) (vs:=[.ref a]) F hr hb hd hx I1 (.cons rfl .nil) q)
structure Mk(K:Frag)(C f:Addr):Prop where
 makes:PySem.W.makesIn K C=true
 init:PySem.W.findIn K (.ref C) "__init__"=some (some (.ref f))
 fn:PySem.W.isFn K (.ref f)=true
 kp:PySem.W.keepIn K (.ref C)=true
theorem Lj{pins:aL}{σ:St}{H:Hp}{s:Shared}{Q:VK}{us:aA}{vs:az}(M:Mk X.K C f)(F:aV X.prog X.w X.K X.mg X.base CX k f fd ps sp)(hr:eT (k+1) X.A)(hb:Binds X.K fd ps ds)(hd:Vals qX ds)
 (hx:wT CX X E) (I:Inv X pins σ H s) (r:Vals vs us)
 (h:∀x dx,H x=none→H dx=none→dx≠x→sp (.ref x::(vs++qX)) (upd (upd H dx (.own x)) x (.ins C dx [])) (fun v H2=>v= .bJ∧Q (.ref x) H2) E):
 wpAny (model X.prog X.w) X.A (call (.ref C) us) (EP X pins σ Q) X.xe s:=by
 have hq:=h (s.heap.objs.size+1) s.heap.objs.size (I.bD.fresh (Nat.le_succ _)) (I.bD.fresh (Nat.le_refl _)) (Nat.ne_of_lt (Nat.lt_succ_self _));have I2:=Inv.made (C:=C) I;have r2:Vals (V.ref (s.heap.objs.size+1)::(vs++qX)) (Value.ref (s.heap.objs.size+1)::(us++ds)):= .cons rfl (r.append hd)
 have hl:(Value.ref (s.heap.objs.size+1)::us++ds).length=ps.length:=by
  have e:=r2.length;rw[F.len _ _ _ _ hq] at e;exact e.symm
 refine wpAny_call (L9 (f:=f) I.lD M.makes M.init (beq_iff_eq.mp M.fn) (codeAny_mono (F.run _ X.stack _ _ ⟨Value.ref (s.heap.objs.size+1)::us,[]⟩ (Value.ref (s.heap.objs.size+1)::(us++ds)) _ _ E (hr.make C us [])
  (I2.Po.make C us []) (hb _ (Value.ref (s.heap.objs.size+1)::us) I2.lD hl) r2 hq) fun r s' Nh => ?_))
 cases r with
 |error e=>exact hx pins σ _ _ e s' I2 Nh
 |ok fl=>
  cases fl with
  |ret u=>
   obtain⟨v,H',I3,rv,ev,q3⟩:=I2.after Nh;subst ev;exact⟨rv,⟨V.ref (s.heap.objs.size+1),H',I3,rfl,q3⟩⟩
  |next=>exact False.elim Nh
  |brk=>exact False.elim Nh
  |cont=>exact False.elim Nh
theorem wy(M:Mk X.K C f)(F:aV X.prog X.w X.K X.mg X.base CX k f fd ps sp)(hr:eT (k+1) X.A)(hg:Gl X x)(hm:X.mg x=some (.ref C))(hb:Binds X.K fd ps ds)(hd:Vals qX ds)(hx:wT CX X E)
 (ha:PA X (e::es) t) (BX:(x==("__debug__" :Str))=false:=by decide) (he:starEach (e::es) X.env=(false,eval e X.env)::starEach es X.env:=by rfl) (rK:(backTo pos (starEach es X.env)).any (·.1)=false:=by rfl):
 PE X (.Call (.Name x p) (e::es) [] pos) (abL C sp qX E t):=by
 intro pins s σ H Q I h;refine wpAny_Call_Name_kw (ou I hg hm ?_ BX);refine callWith_K (h₀:=X.base) I.ok.mod.Oy M.kp (cm (ha pos pins s σ H _ I h) fun us s1 ⟨vs,H1,I1,r,q⟩=>⟨I1.lD,?_⟩) he rK;exact Lj M F hr hb hd hx I1 r q
end
section
variable{X:Cx}{CX:Bl}{k:Nat}{f C:Addr}{fd:FuncData}{ps ks:aX}{sp:Sp}{E:XK}{x m:Str}{p pos apos avp:Pos}{e o:Expr}{es:cR}{kws:List Keyword}{te ta:TE}{t tk:TA}{nm:Option Str}
variable{g:aA→aA→aA}{gV:az→az→az}
end
structure aC(N P:aX)(sc:Scope):Prop where
 kind:sc.kind= .function
 co:sc.isCoroutine=false
 gen:sc.isGenerator=false
 nd:N.Nodup
 pre:N.take P.length=P
 par:∀x∈P,sc.names.lookup x=some .local∨sc.names.lookup x=some .cell
 Wk:∀y∈sc.names,y.2≠.free
theorem Ay{kindOf:Str→Option NameKind}{x:Str}:∀{binds:List (Str×Value)} {m:Str→aH},(∀v,(x,v)∉binds)→bindL kindOf binds m x=m x
 |[],_,_=>rfl
 |(n,v)::r,m,h=>by
  unfold bindL;rw[Ay fun w hw=>h w (List.mem_cons_of_mem _ hw)]
  split
  ·have:x≠n:=by rintro rfl;exact h v List.mem_cons_self
   simp[this]
  ·rfl
theorem Ax{kindOf:Str→Option NameKind}{x:Str}:∀{binds:List (Str×Value)} {m:Str→aH},(∀v,(x,v)∉binds)→bindC kindOf binds m x=m x
 |[],_,_=>rfl
 |(n,v)::r,m,h=>by
  unfold bindC;rw[Ax fun w hw=>h w (List.mem_cons_of_mem _ hw)]
  split
  ·rfl
  ·have:x≠n:=by rintro rfl;exact h v List.mem_cons_self
   simp[this]
theorem zE{kindOf:Str→Option NameKind}{x:Str}{v:Value}:∀{P:aX} {vs:aA} {i:Nat} {m:Str→aH},P.Nodup→P[i]? =some x→vs[i]? =some v→kindOf x=some .local→
 bindL kindOf (P.zip vs) m x=some v
 |[],_,_,_,_,h,_,_=>by simp at h
 |_::_,[],_,_,_,_,h,_=>by simp at h
 |p::P,w::vs,0,m,nd,h1,h2,hk=>by
  simp at h1 h2;subst h1;subst h2
  show bindL kindOf ((p,w)::P.zip vs) m p=_;unfold bindL;rw[Ay fun v hv=>(List.nodup_cons.mp nd).1 (List.of_mem_zip hv).1,if_pos hk];simp
 |p::P,w::vs,i+1,m,nd,h1,h2,hk=>by
  show bindL kindOf ((p,w)::P.zip vs) m x=_;unfold bindL;exact zE (i:=i) (List.nodup_cons.mp nd).2 (by simpa using h1) (by simpa using h2) hk
theorem z7{kindOf:Str→Option NameKind}{x:Str}{v:Value}:∀{P:aX} {vs:aA} {i:Nat} {m:Str→aH},P.Nodup→P[i]? =some x→vs[i]? =some v→kindOf x≠some .local→
 bindC kindOf (P.zip vs) m x=some v
 |[],_,_,_,_,h,_,_=>by simp at h
 |_::_,[],_,_,_,_,h,_=>by simp at h
 |p::P,w::vs,0,m,nd,h1,h2,hk=>by
  simp at h1 h2;subst h1;subst h2
  show bindC kindOf ((p,w)::P.zip vs) m p=_;unfold bindC;rw[Ax fun v hv=>(List.nodup_cons.mp nd).1 (List.of_mem_zip hv).1,if_neg hk];simp
 |p::P,w::vs,i+1,m,nd,h1,h2,hk=>by
  show bindC kindOf ((p,w)::P.zip vs) m x=_;unfold bindC;exact z7 (i:=i) (List.nodup_cons.mp nd).2 (by simpa using h1) (by simpa using h2) hk
def zn(N:aX)(vs:az):St:=vs.map some++List.replicate (N.length - vs.length) none
def CA(CX:Bl)(P:Program)(w:World)(K:Frag)(mg:Str→aH)(base:Heap)(N:aX)(qual:Str)(scope:Scope)(f:Addr)(cd:Value)(A:Around)(outer:List Env)(s:Shared)(H:Hp)(E:XK):Cx where
 prog:=P
 w:=w
 K:=K
 mg:=mg
 base:=base
 A:=A.deeper (envOfC qual scope s.heap.objs.size f cd)
 N:=N
 fD:=s
 H₀:=H
 env:=envOfC qual scope s.heap.objs.size f cd
 outer:=outer
 stack:=envOfC qual scope s.heap.objs.size f cd::outer
 ex:=[]
 calm:=true
 fn:=fun _=>true
 pn:=[]
 xe:=fun e s' =>wpAny (model P w) (A.deeper (envOfC qual scope s.heap.objs.size f cd)) (leaving (envOfC qual scope s.heap.objs.size f cd) e) (fun _ Kq =>CX outer H s E e Kq) (fun e' Kq =>CX outer H s E e' Kq) s'
theorem Dv{sc:Scope}{n:Nat}{x:Str}(h:sc.names.lookup x=some .cell):∃c,(cellsFrom n sc.names []).lookup x=some c:=by
 have q:=cellsFrom_some sc.names n [] (.inl h);exact Option.isSome_iff_exists.mp q
theorem HE{CX:Bl}{P:Program}{w:World}{K:Frag}{mg:Str→aH}{base:Heap}{N ps:aX}{qual:Str}{scope:Scope}{f:Addr}{cd:Value}{A:Around}{outer:List Env}{s s1:Shared}{H:Hp}{E:XK}{us:aA}{vs:az}
 (S:aC N ps scope) (hd:A.handled=none) (e0:wU P w K mg base A outer s H) (hl:vs.length=ps.length) (r:Vals vs us)
 (x:InCallC s s.heap.objs.size (bindL (envOfC qual scope s.heap.objs.size f cd).kindOf (ps.zip us) fun _=>none) (cellsFrom (s.heap.objs.size+1) scope.names []) (bindC (envOfC qual scope s.heap.objs.size f cd).kindOf (ps.zip us) fun _=>none) s1):
 Inv (CA CX P w K mg base N qual scope f cd A outer s H E) [] (zn N vs) H s1:=by
 have rK:ps.length≤N.length:=by have:=congrArg List.length S.pre;rw[List.length_take] at this;omega
 obtain⟨h1,tk,rfl,hk⟩:=x.done;have noA:∀b:Addr,b∉(CA CX P w K mg base N qual scope f cd A outer s H E).ex:=fun b z=>absurd (show b∈([]:aZ) from z) (by simp)
 refine⟨⟨e0.mod,S.kind,rfl,rfl,Nat.le_refl _,fun y z c h1 h2=> ?_,fun y hy=> ?_,fun y c _ h=> ?_,fun _=>hd,Around.frames_deeper e0.frames,.inr ⟨rfl,rfl⟩,fun b z=>absurd z (noA b),e0.bs,e0.Ih,fun b _ _=>noA b,fun b z=>absurd z (noA b),e0.sk,e0.NP⟩,
  rfl,e0.bare,Un.kept hk,⟨_,x.toInCall.ns,fun i y v h1 h2 h3=> ?_⟩,fun y c h=>⟨_,x.cell y c h⟩,e0.bD.fresh (Nat.le_refl _),fun y c h=> ?_,fun p hp=>absurd (show p∈([]:aL) from hp) (by simp),e0.bD.kept hk,?_⟩
 ·exact name_of_addr x.apart (PySem.mem_of_lookup h1) (PySem.mem_of_lookup h2)
 ·have hy:scope.names.lookup y=some .cell∨scope.names.lookup y=some .free:=hy;rcases hy with hy|hy
  ·exact Dv hy
  ·exact absurd rfl (S.Wk _ (PySem.mem_of_lookup hy))
 ·exact Nat.le_of_lt (x.above y c (PySem.mem_of_lookup h))
 ·have hi:i<vs.length:=by
   unfold zn at h2;by_cases hi:i<vs.length
   ·exact hi
   ·rw[List.getElem?_append_right (by simpa using hi)] at h2;rw[List.getElem?_replicate] at h2
    split at h2<;>cases h2
  have ha:vs[i]? =some v:=by
   unfold zn at h2;rw[List.getElem?_append_left (by simpa using hi),List.getElem?_map] at h2
   cases e:vs[i]? with
   |none=>rw[e] at h2;cases h2
   |some a=>rw[e] at h2;cases h2;rfl
  obtain⟨u,hu,rv⟩:=r.get ha
  have hp:ps[i]? =some y:=by
   rw[←S.pre,List.getElem?_take_of_lt (by omega)];exact h1
  have ndP:ps.Nodup:=by rw[←S.pre];exact S.nd.sublist (List.take_sublist _ _)
  refine⟨u,rv,?_⟩;rcases S.par y (List.mem_of_getElem? hp) with k|k
  ·exact .inl ⟨k,zE ndP hp hu k⟩
  ·obtain⟨c,e⟩:=Dv (n:=s.heap.objs.size+1) k;refine .inr ⟨.inl k,c,e,?_⟩;have q:=x.cell y c e;rw[z7 ndP hp hu (by show scope.names.lookup y≠_;rw[k];decide)] at q;exact q
 ·exact e0.bD.fresh (Nat.le_of_lt (x.above y c (PySem.mem_of_lookup h)))
 ·unfold zn;show _=N.length;rw[List.length_append,List.length_map,List.length_replicate];omega
theorem QI{CX:Bl}{P:Program}{w:World}{K:Frag}{mg:Str→aH}{base:Heap}{k:Nat}{f:Addr}{name qual:Str}{params:Arguments}{body:List Stmt}{scope:Scope}{dV kV doc pm cG ct oc:Value}{an od:Option Addr}
 {IF:Array (aH)} {N ps:aX} {sp:Sp} (lk:K.lookup f=some ⟨oc,od,.func (fnOf name qual params body scope dV kV doc pm an cG ct),IF⟩) (Ao:PySem.W.codeIn K cG qual=true) (S:aC N ps scope)
 (len:∀vs H Q E,sp vs H Q E→vs.length=ps.length)
 (ll:∀(A:Around) (outer:List Env) (s:Shared) (H:Hp) (vs:az) (Q:VK) (E:XK),eT k (A.deeper (envOfC qual scope s.heap.objs.size f cG))→sp vs H Q E→
  ∃t,yW (CA CX P w K mg base N qual scope f cG A outer s H E) body t∧t {nx:=fun _ H' =>Q .bJ H',rt:=Q} (zn N vs) H):
 aV P w K mg base CX (k+1) f (fnOf name qual params body scope dV kV doc pm an cG ct) ps sp:=by
 refine⟨len,fun A outer s H args us vs Q E hr e0 hb r NN=> ?_⟩;have hl:=len _ _ _ _ NN;have KX:K.In s.heap:=e0.mod.Oy.keeps fun b o e=>(e0.bs b o e).1;have lim:s.heap.NoLimit:=e0.mod.nolimit.keeps fun b o e=>(e0.bs b o e).1
 have Zy:∀y∈ps.zip us,scope.names.lookup y.1=some .local∨(scope.names.lookup y.1=some .cell∧((cellsFrom (s.heap.objs.size+1) scope.names []).lookup y.1).isSome=true):=fun⟨n,v⟩ hy=>by
  rcases S.par n (List.of_mem_zip hy).1 with q|q
  ·exact .inl q
  ·exact .inr ⟨q,cellsFrom_some _ _ _ (.inl q)⟩
 refine codeAny_call_function hr.depth (KX _ _ lk) rfl S.co S.gen rfl (PySem.W.codeRec_of KX Ao) (hb _ _ _ _ ?_);refine wpAny_newFunctionEnv_cells S.kind Zy fun env he s1 x=> ?_;subst he;refine⟨lim.keeps x.toInCall.keep,codeAny_func ?_⟩;obtain⟨t,ht,hq⟩:=ll A outer s H vs Q E (hr.deeper _) NN;have I:Inv (CA CX P w K mg base N qual scope f cG A outer s H E) [] (zn N vs) H s1:=HE S hr.hd e0 hl r x;refine wpAny_mono (ht [] s1 (zn N vs) H _ I hq) (fun fl s' hs=> ?_) fun e s' hs=>hs
 have fin:∀{cK :St} {H' :Hp} {v:V} {u:Value},Inv (CA CX P w K mg base N qual scope f cG A outer s H E) [] cK H' s'→RelV v u→Q v H'→CE outer P w H s Q u s' :=
  fun{cK H' v u} J rv q=>⟨v,H',J.os,J.bare,J.base,J.bD,rv,q⟩
 cases fl with
 |ret u=>
  obtain⟨v,cK,H',J,rv,q⟩:=hs;exact fin J rv q
 |next=>
  obtain⟨cK,H',J,q⟩:=hs;exact fin (v:=V.bJ) (u:=Value.none) J rfl q
 |brk=>
  obtain⟨_,_,_,q⟩:=hs;exact False.elim q
 |cont=>
  obtain⟨_,_,_,q⟩:=hs;exact False.elim q
section
variable{X:Cx}{x:Str}{p pos:Pos}{e:Expr}{es:cR}{t:TA}{id T:String}{r:az→Hp→VK→Prop}
def tCB(r:az→Hp→VK→Prop)(t:TA):TE:=fun σ H Q=>t σ H fun vs H1=>r vs H1 Q
theorem aE(hc:gf X (.builtin id) r)(hg:Gl X x)(hm:X.mg x=none)(hv:bootBuiltins x=some (.builtin id))(ha:PA X (e::es) t)(hn:x≠ "__name__":=by decide)(BX:(x==("__debug__" :Str))=false:=by decide)
 (he:starEach (e::es) X.env=(false,eval e X.env)::starEach es X.env:=by rfl) (rK:(backTo pos (starEach es X.env)).any (·.1)=false:=by rfl):PE X (.Call (.Name x p) (e::es) [] pos) (tCB r t):=by
 intro pins s σ H Q I h;refine wpAny_Call_Name_kw (n9 I hg hm hv ?_ hn BX);exact PyProof.Rows.callWith_builtin1 (cm (ha pos pins s σ H _ I h) fun us s1 ⟨vs,H1,I1,r1,q1⟩=>hc pins s1 σ H1 vs us Q I1 r1 q1) he rK
theorem ck(hc:gf X (.type T) r)(hg:Gl X x)(hm:X.mg x=none)(hv:bootBuiltins x=some (.type T))(ha:PA X (e::es) t)(hn:x≠ "__name__":=by decide)(BX:(x==("__debug__" :Str))=false:=by decide)
 (he:starEach (e::es) X.env=(false,eval e X.env)::starEach es X.env:=by rfl) (rK:(backTo pos (starEach es X.env)).any (·.1)=false:=by rfl):PE X (.Call (.Name x p) (e::es) [] pos) (tCB r t):=by
 intro pins s σ H Q I h;refine wpAny_Call_Name_kw (n9 I hg hm hv ?_ hn BX);exact PyProof.Rows.callWith_type1 (cm (ha pos pins s σ H _ I h) fun us s1 ⟨vs,H1,I1,r1,q1⟩=>hc pins s1 σ H1 vs us Q I1 r1 q1) he rK
end
end L2
namespace HT
open PySem PyProof.Rows
section
open PySem.SeqAt
open PySem.AutoSeq1 (wpAny_loadPart')
open PySem.MeetsSeq PySem.MeetsSeq2 PySem.MeetsSeq3
end
section
variable{prog:Program}{w:World}{A:Around}{E:Value→Shared→Prop}{s:Shared}
def CK(n d:Nat):Option Int→Nat
 |none=>d
 |some v=>if v<0 then(v+(n:Int)).toNat else min v.toNat n
theorem N9(n d k:Nat):CK n d (some (k:Int))=min k n:=by
 show(if(k:Int)<0 then((k:Int)+(n:Int)).toNat else min (k:Int).toNat n)=min k n;rw[if_neg (by omega),Int.toNat_natCast]
end
end HT
namespace L2
open PySem PySem.Spec PyProof.Rows
abbrev TO:=St→Hp→(Option Int→Hp→Prop)→Prop
def PO(X:Cx)(e:Option Expr)(t:TO):Prop:=
 ∀(pins:aL) (s:Shared) (σ:St) (H:Hp) (Q:Option Int→Hp→Prop),Inv X pins σ H s→t σ H Q→
  wpAny (model X.prog X.w) X.A (evalPart e X.env) (fun u s' =>∃o H',Inv X pins σ H' s'∧IsPart u o∧Q o H') X.xe s
def Pl:TO:=fun _ H Q=>Q none H
def QY(t:TE):TO:=fun σ H Q=>t σ H fun x H1=>∃i,x= .int i∧Q (some i) H1
section
variable{X:Cx}{e:Expr}{te:TE}{lo hi:Option Expr}{tl th:TO}{pos p2:Pos}
theorem Pg:PO X none Pl:=by
 intro pins s σ H Q I h;rw[evalPart_none];exact wpAny_pure ⟨none,H,I,.none,h⟩
theorem Fl(h:PE X e te):PO X (some e) (QY te):=by
 intro pins s σ H Q I hw;rw[evalPart_some];refine cm (h pins s σ H _ I hw) fun u s1 ⟨x,H1,I1,r1,q1⟩=> ?_;obtain⟨i,rfl,q⟩:=q1;obtain⟨t,rfl⟩:=r1;exact⟨some i,H1,I1,.int i t,q⟩
def Xl(X:Cx)(r:V→Option Int→Option Int→Hp→VK→Prop):Prop:=
 ∀(pins:aL) (s:Shared) (σ:St) (H:Hp) (x:V) (v vl vu:Value) (lo hi:Option Int) (sl:Addr) (Q:VK),Inv X pins σ H s→RelV x v→s.heap.IsSliceOf sl vl vu .none→IsPart vl lo→IsPart vu hi→r x lo hi H Q→
  ∃T id,typeLookup (.type T) "__getitem__"=pure (some (.builtin id))∧s.TypeIs v T∧wpAny (model X.prog X.w) X.A (getItem v (.ref sl)) (EP X pins σ Q) X.xe s
theorem Xl.or{r r' :V→Option Int→Option Int→Hp→VK→Prop}(h:Xl X r)(h' :Xl X r'):Xl X (fun x lo hi H Q=>r x lo hi H Q∨r' x lo hi H Q):=by
 intro pins s σ H x v vl vu lo hi sl Q I rx hs pl pu q;rcases q with q|q
 ·exact h pins s σ H x v vl vu lo hi sl Q I rx hs pl pu q
 ·exact h' pins s σ H x v vl vu lo hi sl Q I rx hs pl pu q
def tSl(r:V→Option Int→Option Int→Hp→VK→Prop)(te:TE)(tl th:TO):TE:=fun σ H Q=>te σ H fun x H1=>tl σ H1 fun l H2=>th σ H2 fun u H3=>r x l u H3 Q
theorem MH{r:V→Option Int→Option Int→Hp→VK→Prop}(hr:Xl X r)(he:PE X e te)(hl:PO X lo tl)(hu:PO X hi th):PE X (.Subscript e (.Slice lo hi none p2) pos) (tSl r te tl th):=by
 intro pins s σ H Q I h;refine Subscript_ (cm (he pins s σ H _ I h) fun v s1 ⟨x,H1,I1,r1,q1⟩=> ?_);refine wpAny_Slice (cm (hl pins s1 σ H1 _ I1 q1) fun vl s2 ⟨l,H2,I2,pl,q2⟩=>cm (hu pins s2 σ H2 _ I2 q2) fun vu s3 ⟨u,H3,I3,pu,q3⟩=> ?_);rw[evalPart_none];refine wpAny_pure ?_;have I4:Inv X pins σ H3 {s3 with heap:=s3.heap.push {cls:= .type "slice",data:= .fields #[vl,vu,.none]}}:=I3.kept (t' :=s3.toks) fun b ob q=>Heap.get?_push_of_some _ q;obtain⟨T,id,hT,ht,hg⟩:=hr pins {s3 with heap:=s3.heap.push {cls:= .type "slice",data:= .fields #[vl,vu,.none]}} σ H3 x v vl vu l u s3.heap.objs.size Q I4 r1 (Heap.IsSliceOf.new ..) pl pu q3;show wpAny (model X.prog X.w) X.A (subscriptTail e (.Slice lo hi none p2) v (.ref s3.heap.objs.size)) (EP X pins σ Q) X.xe {s3 with heap:=s3.heap.push {cls:= .type "slice",data:= .fields #[vl,vu,.none]}};exact tail_any (ops:=[.ref s3.heap.objs.size,v]) ht hT hg (by with_unfolding_all rfl)
def wM(xs:az)(lo hi:Option Int):az:=(xs.drop (HT.CK xs.length 0 lo)).take (HT.CK xs.length xs.length hi - HT.CK xs.length 0 lo)
theorem CU(xs:az)(lo hi:Option Int):(wM xs lo hi).length≤xs.length:=by
 unfold wM;rw[List.length_take,List.length_drop];omega
end
def Oj(n:Nat)(i:Int):Option Nat:=if 0≤i then(if i<n then some i.toNat else none) else if -(n:Int)≤i then some (i+n).toNat else none
def IL{α:Type}(xs:List α)(i:Int):Option α:=(Oj xs.length i).bind fun j=>xs[j]?
theorem Fv{n:Nat}{i:Int}{j:Nat}(h:Oj n i=some j):seqIndex? i n=some j∧j<n∧ -(n:Int)≤i∧i<n:=by
 unfold Oj at h;by_cases h0:0≤i
 ·rw[if_pos h0] at h;by_cases h1:i<n
  ·rw[if_pos h1] at h;have e:i.toNat=j:=Option.some.inj h;exact⟨by rw[seqIndex_of h0 h1,e],by omega,by omega,h1⟩
  ·rw[if_neg h1] at h;cases h
 ·rw[if_neg h0] at h;by_cases h1: -(n:Int)≤i
  ·rw[if_pos h1] at h;have e:(i+n).toNat=j:=Option.some.inj h;exact⟨by rw[seqIndex_neg (by omega) h1,e],by omega,h1,by omega⟩
  ·rw[if_neg h1] at h;cases h
theorem GK{α:Type}{xs:List α}{i:Int}{v:α}(h:IL xs i=some v):∃j,seqIndex? i xs.length=some j∧xs[j]? =some v∧j<xs.length∧ -(xs.length:Int)≤i∧i<xs.length:=by
 unfold IL at h
 cases e:Oj xs.length i with
 |none=>rw[e] at h;cases h
 |some j=>
  rw[e] at h;obtain⟨h1,h2,h3,h4⟩:=Fv e;exact⟨j,h1,h,h2,h3,h4⟩
theorem dD{α:Type}{xs:List α}{j:Nat}{v:α}(h:xs[j]? =some v):IL xs (j:Int)=some v:=by
 have hj:j<xs.length:=(List.getElem?_eq_some_iff.mp h).1
 have e:Oj xs.length (j:Int)=some j:=by
  unfold Oj;rw[if_pos (by omega),if_pos (by omega)];simp
 unfold IL;rw[e];exact h
def Oq(b:Expr):Prop:=∀o i,subscripted b false o i=operate [o,i] (getItem o i)
def Pf(X:Cx)(r:R2):Prop:=
 ∀(value slice:Expr) (pins:aL) (s:Shared) (σ:St) (H:Hp) (x y:V) (v u:Value) (Q:VK),Inv X pins σ H s→RelV x v→RelV y u→r x y H Q→
  subscripted slice false v u=operate [v,u] (getItem v u)→wpAny (model X.prog X.w) X.A (subscriptTail value slice v u) (EP X pins σ Q) X.xe s
def P5(X:Cx)(id:String)(r:V→az→Hp→VK→Prop):Prop:=
 ∀(pins:aL) (s:Shared) (σ:St) (H:Hp) (x:V) (xs:az) (v:Value) (us:aA) (Q:VK),Inv X pins σ H s→RelV x v→Vals xs us→r x xs H Q→
  wpAny (model X.prog X.w) X.A (call (.builtin id) (v::us)) (EP X pins σ Q) X.xe s
section
variable{X:Cx}{a b:Expr}{ta tb:TE}{pos:Pos}
theorem Pf.or{r r' :R2}(h:Pf X r)(h' :Pf X r'):Pf X (fun x y H Q=>r x y H Q∨r' x y H Q):=by
 intro value slice pins s σ H x y v u Q I rx ry q hs;rcases q with q|q
 ·exact h value slice pins s σ H x y v u Q I rx ry q hs
 ·exact h' value slice pins s σ H x y v u Q I rx ry q hs
theorem P5.or{id:String}{r r' :V→az→Hp→VK→Prop}(h:P5 X id r)(h' :P5 X id r'):P5 X id (fun x xs H Q=>r x xs H Q∨r' x xs H Q):=by
 intro pins s σ H x xs v us Q I rx rs q;rcases q with q|q
 ·exact h pins s σ H x xs v us Q I rx rs q
 ·exact h' pins s σ H x xs v us Q I rx rs q
theorem bC{r:R2}(hr:Pf X r)(ha:PE X a ta)(hb:PE X b tb)(hs:Oq b):PE X (.Subscript a b pos) (tOp r ta tb):=by
 intro pins s σ H Q I h;exact Subscript_ (UC ha hb I h fun v u s2 x y H2 I2 rx ry q=>hr a b pins s2 σ H2 x y v u Q I2 rx ry q (hs _ _))
def OT(K:Frag):R2:=fun x y H Q=>∃p xs i v,x= .ref p∧y= .int i∧bB K H p xs∧IL xs i=some v∧Q v H
def Zu(K:Frag):R2:=fun x y H Q=>∃p xs i v,x= .ref p∧y= .int i∧qQ K H p xs∧IL xs i=some v∧Q v H
theorem bp:Pf X (OT X.K):=by
 intro value slice pins s σ H x y v u Q I rx ry h hs;obtain⟨p,xs,i,z,rfl,rfl,hq,he,q⟩:=h;cases rx;obtain⟨t,rfl⟩:=ry;obtain⟨bz,r,pl,hz⟩:=I.list hq;obtain⟨j,h1,h2,h3,h4,h5⟩:=GK he;obtain⟨w,ew,D8⟩:=r.get h2;have hl:=r.length;have hn:=BH;have fin:EP X pins σ Q w s:=⟨z,H,I,D8,q⟩;by_cases h0:0≤i
 ·have hj:i.toNat=j:=by
   rw[seqIndex_of h0 h5] at h1;exact Option.some.inj h1
  exact item_listR pl.isList h0 (by omega) (by rw[hj];simpa using ew) fin hs
 ·have hj:(i+(bz.toArray.size:Int)).toNat=j:=by
   rw[seqIndex_neg (by omega) h4] at h1;rw[List.size_toArray,←hl];exact Option.some.inj h1
  exact subscriptTail_builtinR (x:=w) pl.isList.typeIs slot_list_getitem.lookup
   (wpAny_getItem_list_neg (Q:=fun r s' =>r=w∧EP X pins σ Q r s') pl.isList (by omega) (by rw[List.size_toArray]<;>omega) (by omega) (by rw[hj];simpa using ew) ⟨rfl,fin⟩) hs
theorem ie:Pf X (Zu X.K):=by
 intro value slice pins s σ H x y v u Q I rx ry h hs;obtain⟨p,xs,i,z,rfl,rfl,hq,he,q⟩:=h;cases rx;obtain⟨t,rfl⟩:=ry;obtain⟨bz,r,pl,hz⟩:=I.tuple hq;obtain⟨j,h1,h2,h3,h4,h5⟩:=GK he;obtain⟨w,ew,D8⟩:=r.get h2;have hl:=r.length;have hn:=BH;have fin:EP X pins σ Q w s:=⟨z,H,I,D8,q⟩
 exact subscriptTail_builtinR (x:=w) pl.typeIs slot_tuple_getitem.lookup
  (getItem_tuple (j:=j) (Q:=fun r s' =>r=w∧EP X pins σ Q r s') pl (by omega) (by omega) (by rw[List.size_toArray,←hl];exact h1) (by simpa using ew) ⟨rfl,fin⟩) hs
theorem D9(bz:aA)(n j:Nat)(u:Value):Obj.mapSeq (·.setIfInBounds j u) {cls:= .type "list",data:= .seq bz.toArray n}={cls:= .type "list",data:= .seq (bz.set j u).toArray n}:=by
 simp[Obj.mapSeq]
theorem Inv.lst{pins:aL}{σ:St}{H:Hp}{s:Shared}{p:Addr}{xs:az}(I:Inv X pins σ H s)(h:H p=some (.lst xs)):
 ∃(bz:aA) (n:Nat),Vals xs bz∧s.heap.get? p=some {cls:= .type "list",data:= .seq bz.toArray n}∧xs.length≤sizeLine:=by
 obtain⟨z,bz,n,r,e⟩:=I.bD p _ h;exact⟨bz,n,r,e,z⟩
theorem Inv.WA{pins:aL}{σ:St}{H:Hp}{s:Shared}{p:Addr}{xs ys:az}{bz its' :aA}{n n' :Nat}{f:Obj→Obj}(I:Inv X pins σ H s)(h:H p=some (.lst xs))
 (ho:s.heap.get? p=some {cls:= .type "list",data:= .seq bz.toArray n}) (hf:f {cls:= .type "list",data:= .seq bz.toArray n}={cls:= .type "list",data:= .seq its'.toArray n'}) (r:Vals ys its') (hz:ys.length≤sizeLine) (t:Nat):
 Inv X pins σ (upd H p (.lst ys)) {s with heap:=s.heap.update p f,toks:=t}:=by
 have e:(s.heap.update p f).get? p=some {cls:= .type "list",data:= .seq its'.toArray n'}:=by
  rw[Heap.get?_update_self f ho (by rw[hf]<;>rfl),hf]
 refine I.write (x:=p) (e:=p) (by rw[h];trivial) (.inl rfl) (fun b u hb q=>(Heap.get?_update_other _ _ (Ne.symm hb)).trans q) ⟨_,e⟩ ?_;exact⟨hz,its',n',r,e⟩
def abx:V→V→V→Hp→(Hp→Prop)→Prop:=fun o i v H Q=>∃p xs k j,o= .ref p∧i= .int k∧H p=some (.lst xs)∧Oj xs.length k=some j∧Q (upd H p (.lst (xs.set j v)))
theorem ww:XG X abx:=by
 intro pins s σ H o i v ov iv u Q I ro ri rv h;obtain⟨p,xs,k,j,rfl,rfl,hp,hj,q⟩:=h;cases ro;obtain⟨t,rfl⟩:=ri;obtain⟨bz,n,r,ho,hz⟩:=I.lst hp;obtain⟨h1,h2,h3,h4⟩:=Fv hj;have hl:=r.length;have hn:=BH
 have I' :Inv X pins σ (upd H p (.lst (xs.set j v))) {s with heap:=s.heap.update p (Obj.mapSeq (·.setIfInBounds j u))}:=
  I.WA hp ho (D9 bz n j u) (r.set rv j) (by rw[List.length_set];exact hz) s.toks
 by_cases h0:0≤k
 ·have hk:k.toNat=j:=by
   rw[seqIndex_of h0 h4] at h1;exact Option.some.inj h1
  exact PySem.W.ki_setAt ho h0 (by omega) (by rw[List.size_toArray,←hl];exact h4) (by rw[hk];exact⟨_,I',q⟩)
 ·have hk:(k+(bz.toArray.size:Int)).toNat=j:=by
   rw[seqIndex_neg (by omega) h3] at h1;rw[List.size_toArray,←hl];exact Option.some.inj h1
  exact PySem.W.ki_setBack ho (by omega) (by rw[List.size_toArray,←hl];exact h3) (by omega) (by rw[hk];exact⟨_,I',q⟩)
theorem A9(lo hi:Option Int)(n:Nat):(sliceBounds lo hi none n).1=((HT.CK n 0 lo:Nat):Int)∧(sliceBounds lo hi none n).2.1=((HT.CK n n hi:Nat):Int)∧(sliceBounds lo hi none n).2.2=1:=by
 refine⟨?_,?_,rfl⟩
 ·cases lo with
  |none=>simp[sliceBounds,HT.CK]
  |some i=>
   simp only[sliceBounds,HT.CK,Option.getD_none,show(1:Int)>0 by decide,if_true];by_cases h:i<0
   ·simp only[h,if_true]<;>omega
   ·simp only[h,if_false]<;>omega
 ·cases hi with
  |none=>simp[sliceBounds,HT.CK]
  |some i=>
   simp only[sliceBounds,HT.CK,Option.getD_none,show(1:Int)>0 by decide,if_true];by_cases h:i<0
   ·simp only[h,if_true]<;>omega
   ·simp only[h,if_false]<;>omega
theorem zr(bz:aA)(lo hi:Option Int):slicePick bz.toArray lo hi none=((bz.drop (HT.CK bz.length 0 lo)).take (HT.CK bz.length bz.length hi - HT.CK bz.length 0 lo)).toArray:=by
 obtain⟨h1,h2,h3⟩:=A9 lo hi bz.toArray.size;unfold slicePick;rw[h1,h2,h3];simp only[sliceRange_one,pick_run,List.size_toArray]<;>rfl
def aoU(K:Frag):V→Option Int→Option Int→Hp→VK→Prop:=fun x lo hi H Q=>∃a xs,x= .ref a∧bB K H a xs∧∀p,H p=none→Q (.ref p) (upd H p (.lst (wM xs lo hi)))
theorem Qt:Xl X (aoU X.K):=by
 intro pins s σ H x v vl vu lo hi sl Q I rx hs pl pu h;obtain⟨a,xs,rfl,hx,q⟩:=h;cases rx;obtain⟨bz,r,ht,hz⟩:=I.list hx;have hlen:=r.length;refine⟨"list",_,slot_list_getitem.lookup,ht.isList.typeIs,?_⟩;refine wpAny_getItem_list_slice ht.isList hs pl pu .none (by simp) ?_ (by rw[List.size_toArray]<;>omega);rw[zr,←hlen];refine⟨.ref s.heap.objs.size,_,I.laid (t' :=s.toks) (o:= .lst (wM xs lo hi)) (fun b ob q=>Heap.get?_push_of_some _ q) (Nat.le_refl _) ?_,rfl,q _ (I.bD.fresh (Nat.le_refl _))⟩;exact⟨Nat.le_trans (CU xs lo hi) hz,_,0,(r.drop (HT.CK xs.length 0 lo)).take (HT.CK xs.length xs.length hi - HT.CK xs.length 0 lo),Heap.get?_push_size _ rfl⟩
def nc:V→Bool
 | .bJ=>true
 | .bl _=>true
 | .int _=>true
 | .str _=>true
 |_=>false
def HR:V→V→Bool
 | .bJ,.bJ=>true
 | .bl a,.bl b=>a==b
 | .bl a,.int b=>(if a then 1 else 0)==b
 | .int a,.bl b=>a==(if b then 1 else 0)
 | .int a,.int b=>a==b
 | .str a,.str b=>a==b
 |_,_=>false
theorem Ny{A:Around}{s:Shared}{y x:V}{u v:Value}(ry:RelV y u)(rx:RelV x v)(fy:nc y=true)(fx:nc x=true):SeqAt.EqAt A s u v (HR y x):=by
 cases y with
 |bJ=>
  cases ry
  cases x with
  |bJ=>cases rx;exact SeqAt.EqAt.same _
  |bl b=>cases rx;exact SeqAt.EqAt.none_bool b
  |int b=>obtain⟨t,rfl⟩:=rx;exact SeqAt.EqAt.none_int b t
  |str b=>obtain⟨t,rfl⟩:=rx;exact SeqAt.EqAt.none_str b t
  |_=>exact absurd (show false=true from fx) Bool.false_ne_true
 |bl a=>
  cases ry
  cases x with
  |bJ=>cases rx;exact SeqAt.EqAt.bool_none a
  |bl b=>cases rx;exact SeqAt.EqAt.bool_bool a b
  |int b=>obtain⟨t,rfl⟩:=rx;exact SeqAt.EqAt.bool_int a b t
  |str b=>obtain⟨t,rfl⟩:=rx;exact SeqAt.EqAt.bool_str a b t
  |_=>exact absurd (show false=true from fx) Bool.false_ne_true
 |int a=>
  obtain⟨t',rfl⟩:=ry
  cases x with
  |bJ=>cases rx;exact SeqAt.EqAt.int_none a t'
  |bl b=>cases rx;exact SeqAt.EqAt.int_bool a t' b
  |int b=>obtain⟨t,rfl⟩:=rx;exact SeqAt.EqAt.int_int a t' b t
  |str b=>obtain⟨t,rfl⟩:=rx;exact SeqAt.EqAt.int_str a t' b t
  |_=>exact absurd (show false=true from fx) Bool.false_ne_true
 |str a=>
  obtain⟨t',rfl⟩:=ry
  cases x with
  |bJ=>cases rx;exact SeqAt.EqAt.str_none a t'
  |bl b=>cases rx;exact SeqAt.EqAt.str_bool a t' b
  |int b=>obtain⟨t,rfl⟩:=rx;exact SeqAt.EqAt.str_int a t' b t
  |str b=>obtain⟨t,rfl⟩:=rx;exact SeqAt.EqAt.str_str a t' b t
  |_=>exact absurd (show false=true from fx) Bool.false_ne_true
 |_=>exact absurd (show false=true from fy) Bool.false_ne_true
def Qb(x:V)(u:Value):Bool:=match u with
 | .none=>HR .bJ x
 | .bool b=>HR (.bl b) x
 | .int i _=>HR (.int i) x
 | .str z _=>HR (.str z) x
 |_=>false
theorem LP{x y:V}{u:Value}(r:RelV y u)(f:nc y=true):Qb x u=HR y x:=by
 cases y with
 |bJ=>cases r;rfl
 |bl b=>cases r;rfl
 |int i=>obtain⟨t,rfl⟩:=r;rfl
 |str z=>obtain⟨t,rfl⟩:=r;rfl
 |_=>exact absurd (show false=true from f) Bool.false_ne_true
theorem Ba{x:V}:∀{xs:az} {us:aA},Vals xs us→xs.all nc=true→us.any (Qb x)=xs.any fun y=>HR y x
 |_,_,.nil,_=>rfl
 |y::xs,u::us,.cons r t,f=>by
  rw[List.all_cons,Bool.and_eq_true] at f;rw[List.any_cons,List.any_cons,LP r f.1,Ba t f.2]
theorem wH{A:Around}{s:Shared}{x:V}{v:Value}(rx:RelV x v)(fx:nc x=true):∀{xs:az} {us:aA},Vals xs us→xs.all nc=true→∀u∈us,SeqAt.EqAt A s u v (Qb x u)
 |_,_,.nil,_=>fun u hu=>by cases hu
 |y::xs,u::us,.cons r t,f=>fun u' hu=>by
  rw[List.all_cons,Bool.and_eq_true] at f;rcases List.mem_cons.mp hu with rfl|hu
  ·rw[LP r f.1];exact Ny r rx f.1 fx
  ·exact wH rx fx t f.2 u' hu
def Se(x:V)(xs:az):Bool:=xs.any fun y=>HR y x
def rIn(K:Frag)(neg:Bool):R2:=fun x y H Q=>∃p xs,y= .ref p∧(bB K H p xs∨qQ K H p xs)∧nc x=true∧xs.all nc=true∧Q (.bl (if neg then !Se x xs else Se x xs)) H
theorem G7:qB X (compareOp .In) (rIn X.K false):=by
 intro pins s σ H x y v u Q I rx ry h;obtain⟨p,xs,rfl,hq,fx,fs,q⟩:=h;cases ry;rcases hq with hq|hq
 ·obtain⟨bz,r,pl,hz⟩:=I.list hq;refine SeqAt.in_listAt (Qb x) pl.isList (fun w hw=>wH rx fx r fs w (by simpa using hw)) ⟨.bl _,H,I,rfl,?_⟩;rw[show bz.toArray.any (Qb x)=bz.any (Qb x) by simp,Ba r fs];exact q
 ·obtain⟨bz,r,pl,hz⟩:=I.tuple hq;refine SeqAt.in_tupleAt (Qb x) pl (fun w hw=>wH rx fx r fs w (by simpa using hw)) ⟨.bl _,H,I,rfl,?_⟩;rw[show bz.toArray.any (Qb x)=bz.any (Qb x) by simp,Ba r fs];exact q
theorem aU:gf X (.builtin "len") (fun xs H Q=>∃p ys,xs=[.ref p]∧(bB X.K H p ys∨qQ X.K H p ys)∧Q (.int ys.length) H):=by
 intro pins s σ H xs us Q I r h;obtain⟨p,ys,rfl,hq,q⟩:=h;obtain⟨u,rfl,rx⟩:=xL r;cases rx;have hn:=BH;rcases hq with hq|hq
 ·obtain⟨bz,r',pl,hz⟩:=I.list hq;have hlen:=r'.length;exact Calls.call_len_list pl.isList (by simp only[List.size_toArray]<;>omega) ⟨.int ys.length,H,I.tok _,⟨s.toks+1,by rw[List.size_toArray,hlen]⟩,q⟩
 ·obtain⟨bz,r',pl,hz⟩:=I.tuple hq;have hlen:=r'.length;exact len_tuple pl (by simp only[List.size_toArray]<;>omega) ⟨.int ys.length,H,I.tok _,⟨s.toks+1,by rw[List.size_toArray,hlen]⟩,q⟩
theorem gf.or{f:Value}{r r' :az→Hp→VK→Prop}(h:gf X f r)(h' :gf X f r'):gf X f (fun xs H Q=>r xs H Q∨r' xs H Q):=by
 intro pins s σ H xs us Q I rs q;rcases q with q|q
 ·exact h pins s σ H xs us Q I rs q
 ·exact h' pins s σ H xs us Q I rs q
theorem iA:gf X (.type "list") (fun xs H Q=>∃p ys,xs=[.ref p]∧(bB X.K H p ys∨qQ X.K H p ys)∧∀l,H l=none→Q (.ref l) (upd H l (.lst ys))):=by
 intro pins s σ H xs us Q I r h;obtain⟨p,ys,rfl,hq,q⟩:=h;obtain⟨u,rfl,rx⟩:=xL r;cases rx
 have fin:∀(bz:aA),Vals ys bz→ys.length≤sizeLine→∀(h' :Heap) (c' :Nat),(∀b o',s.heap.get? b=some o'→h'.get? b=some o')→
  h'.get? s.heap.objs.size=some {cls:= .type "list",dict:=none,data:= .seq bz.toArray c',slots:= #[]}→EP X pins σ Q (.ref s.heap.objs.size) {s with heap:=h'}:=fun bz r' hz h' c' kp e=>
  ⟨.ref s.heap.objs.size,_,I.laid (t' :=s.toks) kp (Nat.le_refl _) (show bq X.prog X.w _ h' _ (.lst ys) from⟨hz,bz,c',r',e⟩),rfl,q _ (I.bD.fresh (Nat.le_refl _))⟩
 rcases hq with hq|hq
 ·obtain⟨bz,r',pl,hz⟩:=I.list hq;have hlen:=r'.length;obtain⟨o,ho,hc,n,hd⟩:=pl.isList;exact call_list_seq p (.inl rfl) ho hc hd (fun h' c' kp e=>fin bz r' hz h' c' kp e) (by simp only[List.size_toArray]<;>omega)
 ·obtain⟨bz,r',pl,hz⟩:=I.tuple hq;have hlen:=r'.length;obtain⟨o,ho,hc,n,hd⟩:=pl;exact call_list_seq p (.inr rfl) ho hc hd (fun h' c' kp e=>fin bz r' hz h' c' kp e) (by simp only[List.size_toArray]<;>omega)
theorem gj:gf X (.type "tuple") (fun xs H Q=>∃p ys,xs=[.ref p]∧((bB X.K H p ys∧∀l,H l=none→Q (.ref l) (upd H l (.tup ys)))∨(qQ X.K H p ys∧Q (.ref p) H))):=by
 intro pins s σ H xs us Q I r h;obtain⟨p,ys,rfl,h⟩:=h;obtain⟨u,rfl,rx⟩:=xL r;cases rx;rcases h with⟨hq,q⟩|⟨hq,q⟩
 ·obtain⟨bz,r',pl,hz⟩:=I.list hq;have hlen:=r'.length;refine call_tuple_list pl.isList (fun h' kp=> ?_) (by simp only[List.size_toArray]<;>omega);have I1:Inv X pins σ H {s with heap:=h'}:=I.kept (t' :=s.toks) kp
  have I2:Inv X pins σ (upd H h'.objs.size (.tup ys)) {s with heap:=h'.push {cls:= .type "tuple",data:= .seq bz.toArray}}:=
   I1.laid (t' :=s.toks) (fun b o e=>Heap.get?_push_of_some _ e) (Nat.le_refl _) (show bq X.prog X.w _ _ _ (.tup ys) from⟨hz,bz,r',IsTup.new _ _⟩)
  exact⟨.ref h'.objs.size,_,I2,rfl,q _ (I1.bD.fresh (Nat.le_refl _))⟩
 ·obtain⟨bz,r',pl,hz⟩:=I.tuple hq;exact call_tuple_same pl ⟨.ref p,H,I,rfl,q⟩
def tyV(K:Frag)(T:String)(x:V)(H:Hp):Prop:=match x with
 | .str _=>T="str"
 | .int _=>T="int"
 | .ref p=>(T="list" ∧∃xs,bB K H p xs)∨(T="tuple" ∧∃o,K.lookup p=some o∧o.cls= .type "tuple" ∧o.dict=none)∨
  (T="dict" ∧((∃kvs,H p=some (.dK kvs))∨∃kvs,H p=some (.dT kvs)))∨(T="set" ∧∃S n,H p=some (.set S n))
 |_=>False
theorem Jf{pins:aL}{σ:St}{H:Hp}{s:Shared}{T:String}{x:V}{v:Value}(I:Inv X pins σ H s)(r:RelV x v)(ty:tyV X.K T x H):
 s.TypeIs v T∧∀a,v= .ref a→∃ob,s.heap.get? a=some ob∧ob.dict=none:=by
 cases x with
 |str z=>
  obtain⟨t,rfl⟩:=r;cases(show T="str" from ty);exact⟨typeIs_str s z t,fun _ e=>nomatch e⟩
 |int i=>
  obtain⟨t,rfl⟩:=r;cases(show T="int" from ty);exact⟨typeIs_int s i t,fun _ e=>nomatch e⟩
 |ref p=>
  cases r;rcases ty with⟨rfl,xs,hq⟩|⟨rfl,o,hk,hc,hd⟩|⟨rfl,hk⟩|⟨rfl,S,n,hk⟩
  ·obtain⟨bz,_,pl,_⟩:=I.list hq;refine⟨pl.isList.typeIs,fun a e=> ?_⟩;cases e;obtain⟨o,n,e,c,hd,_⟩:=pl;exact⟨o,e,hd⟩
  ·refine⟨⟨o,I.lD p o hk,hc⟩,fun a e=> ?_⟩;cases e;exact⟨o,I.lD _ o hk,hd⟩
  ·have z:∃o,s.heap.get? p=some o∧o.ExactDict:=by
    rcases hk with⟨kvs,hk⟩|⟨kvs,hk⟩
    ·obtain⟨_,_,_,_,o,_,_,e,ex,_⟩:=I.bD p _ hk;exact⟨o,e,ex⟩
    ·obtain⟨_,_,_,_,o,_,_,e,ex,_⟩:=I.bD p _ hk;exact⟨o,e,ex⟩
   obtain⟨o,e,ex⟩:=z;refine⟨⟨o,e,ex.1⟩,fun a e2=> ?_⟩;cases e2;exact⟨o,e,ex.2.1⟩
  ·obtain⟨o,_,_,_,e,ex,_⟩:=I.bD p _ hk;refine⟨⟨o,e,ex.1⟩,fun a e2=> ?_⟩;cases e2;exact⟨o,e,ex.2.1⟩
 |_=>exact False.elim ty
def al4(K:Frag)(T:String)(r:V→az→Hp→VK→Prop)(to:TE):TE:=fun σ H Q=>to σ H fun x H1=>tyV K T x H1∧r x [] H1 Q
def tBM(K:Frag)(T:String)(r:V→az→Hp→VK→Prop)(to:TE)(t:TA):TE:=fun σ H Q=>to σ H fun x H1=>tyV K T x H1∧t σ H1 fun xs H2=>r x xs H2 Q
variable{o e:Expr}{es:cR}{to:TE}{t:TA}{name:Str}{apos fL:Pos}{T id:String}{r:V→az→Hp→VK→Prop}
theorem EH(pa:PlainAttrs T)(slot:Slot T name id)(XB:typeOf (.builtin id)=pure (.type "method_descriptor"))(hm:P5 X id r)(ho:PE X o to)
 (sU:attributeBase o name X.env (eval o X.env)=eval o X.env:=by rfl) (Dx:(apos.endLine==fL.line)=true:=by rfl):PE X (.Call (.Attribute o name apos) [] [] fL) (al4 X.K T r to):=by
 intro pins s σ H Q I h;refine wpAny_Call_method0_late sU Dx (cm (ho pins s σ H _ I h) fun v s1 ⟨x,H1,I1,r1,ty,q1⟩=> ?_);obtain⟨h1,h2⟩:=Jf I1 r1 ty;exact⟨T,id,pa,slot,XB,h1,h2,Calls.callWith_builtin rfl (PySem.evalArgs_none (hm pins s1 σ H1 x [] v [] Q I1 r1 .nil q1))⟩
theorem vC(pa:PlainAttrs T)(slot:Slot T name id)(XB:typeOf (.builtin id)=pure (.type "method_descriptor"))(hm:P5 X id r)(ho:PE X o to)(ha:PA X (e::es) t)
 (sU:attributeBase o name X.env (eval o X.env)=eval o X.env:=by rfl)
 (Vu:((backTo fL (starEach (e::es) X.env)).all (fun x=> !x.1)&&(backToKw fL (keywordEach [] X.env)).all (fun x=>x.1.isSome)
  &&decide ((e::es).length+([]:List Keyword).length+(if([]:List Keyword).isEmpty then 0 else 1)<30))=true:=by rfl)
 (Dx:(apos.endLine==fL.line)=true:=by rfl) (hs:starEach (e::es) X.env=(false,eval e X.env)::starEach es X.env:=by rfl) (D3:(backTo fL (starEach es X.env)).any (·.1)=false:=by rfl):
 PE X (.Call (.Attribute o name apos) (e::es) [] fL) (tBM X.K T r to t):=by
 intro pins s σ H Q I h;refine wpAny_Call_method_late sU Vu Dx rfl (cm (ho pins s σ H _ I h) fun v s1 ⟨x,H1,I1,r1,ty,q1⟩=> ?_);obtain⟨h1,h2⟩:=Jf I1 r1 ty;refine⟨T,id,pa,slot,XB,h1,h2,?_⟩;have hA:=ha fL pins s1 σ H1 _ I1 q1;rw[hs] at hA ⊢;refine Calls.callWith_builtin (by show(false||(backTo fL (starEach es X.env)).any (·.1))=false;rw[D3]<;>rfl) (Calls.evalArgs_plain ?_);exact cm hA fun us s2 ⟨vs,H2,I2,r2,q2⟩=>hm pins s2 σ H2 x vs v us Q I2 r1 r2 q2
end
def MtM(X:Cx)(id:String)(r:V→az→Hp→VK→Prop):Prop:=
 ∀(pins:aL) (s:Shared) (σ:St) (H:Hp) (x:V) (xs:az) (v:Value) (us:aA) (Q:VK),Inv X pins σ H s→RelV x v→Vals xs us→r x xs H Q→
  wpAny (model X.prog X.w) X.A (call (.builtin id) (v::us)) (EP X pins σ Q) X.xe s
theorem Vals.one:∀{x:V} {us:aA},Vals [x] us→∃u,us=[u]∧RelV x u
 |_,_,.cons r .nil=>⟨_,rfl,r⟩
theorem Vals.two:∀{x y:V} {us:aA},Vals [x,y] us→∃u v,us=[u,v]∧RelV x u∧RelV y v
 |_,_,_,.cons r (.cons q .nil)=>⟨_,_,rfl,r,q⟩
theorem Vals.zero:∀{us:aA},Vals [] us→us=[]
 |_,.nil=>rfl
theorem Vals.reverse{xs:az}{us:aA}(h:Vals xs us):Vals xs.reverse us.reverse:=by
 induction h with
 |nil=>exact .nil
 |cons r t ih=>rw[List.reverse_cons,List.reverse_cons];exact Vals.append ih (.cons r .nil)
theorem Vals.rep{xs:az}{us:aA}(h:Vals xs us):∀k:Nat,Vals (List.replicate k xs).flatten (List.replicate k us).flatten
 |0=> .nil
 |k+1=>by
  rw[List.replicate_succ,List.replicate_succ,List.flatten_cons,List.flatten_cons];exact Vals.append h (Vals.rep h k)
theorem ZB(bz:aA):∀(k:Nat) (acc:aA),
 List.foldl (fun x1 x2=>x1++x2) acc.toArray (List.replicate k bz.toArray)=(acc++(List.replicate k bz).flatten).toArray
 |0,acc=>by simp
 |k+1,acc=>by
  have e:acc.toArray++bz.toArray=(acc++bz).toArray:=by simp
  have e2:(acc++bz)++(List.replicate k bz).flatten=acc++(List.replicate (k+1) bz).flatten:=by
   rw[List.replicate_succ,List.flatten_cons,List.append_assoc]
  rw[←e2,←ZB bz k (acc++bz),←e,List.replicate_succ,List.foldl_cons]
section
variable{X:Cx}{pins:aL}{σ:St}{H:Hp}{s:Shared}{l b:Addr}{xs ys zs:az}
theorem Inv.abh{bz its' :aA}{n:Nat}{f:Array Value→Array Value}{t' :Nat}(I:Inv X pins σ H s)(hH:H l=some (.lst xs))
 (e:s.heap.get? l=some {cls:= .type "list",data:= .seq bz.toArray n}) (hf:f bz.toArray=its'.toArray) (hv:Vals ys its') (hz:ys.length≤sizeLine):
 Inv X pins σ (upd H l (.lst ys)) {s with heap:=s.heap.update l (Obj.mapSeq f),toks:=t'}:=by
 have q:=PySem.IsL.update e f;rw[hf] at q;refine I.write (x:=l) (e:=l) (by rw[hH];exact trivial) (.inl rfl) (fun b' u hb hu=>(Heap.get?_update_other s.heap (Obj.mapSeq f) (Ne.symm hb)).trans hu) ⟨_,q⟩ ?_;exact⟨hz,its',_,hv,q⟩
theorem Inv.Wq{bz:aA}{t' :Nat}(I:Inv X pins σ H s)(hv:Vals ys bz)(hz:ys.length≤sizeLine):
 Inv X pins σ (upd H s.heap.objs.size (.lst ys)) {s with heap:=s.heap.push {cls:= .type "list",data:= .seq bz.toArray},toks:=t'}:=
 I.laid (fun _ _ q=>Heap.get?_push_of_some _ q) (Nat.le_refl _) ⟨hz,bz,0,hv,Heap.get?_push_size _ rfl⟩
theorem Inv.fresh(I:Inv X pins σ H s):H s.heap.objs.size=none:=I.bD.fresh (Nat.le_refl _)
theorem Inv.Ht(I:Inv X pins σ H s)(hH:H l=some (.lst xs)):xs.length≤sizeLine∧∃(bz:aA) (n:Nat),Vals xs bz∧xs.length=bz.length∧s.heap.get? l=some {cls:= .type "list",data:= .seq bz.toArray n}:=by
 obtain⟨z,bz,n,r,e⟩:=I.bD l _ hH;exact⟨z,bz,n,r,r.length,e⟩
theorem C5{n:Nat}(h:n≤sizeLine):Builtin.List.listTooLong n=false:=by
 unfold Builtin.List.listTooLong;exact decide_eq_false (by omega)
end
section
variable{X:Cx}
def OD:V→az→Hp→VK→Prop:=fun x vs H Q=>∃l xs y,x= .ref l∧vs=[y]∧H l=some (.lst xs)∧xs.length<sizeLine∧Q .bJ (upd H l (.lst (xs++[y])))
theorem eW:MtM X "list.append" OD:=by
 intro pins s σ H x vs v us Q I rx rv h;obtain⟨l,xs,y,rfl,rfl,hH,hz,q⟩:=h;cases rx;obtain⟨u,rfl,ru⟩:=rv.one;obtain⟨z,bz,n,r,hl,e⟩:=I.Ht hH;refine call_meets F.slot_list_append ⟨_,e,rfl⟩ F.entry_list_append (F.args_list_append_2 _ _) (PySem.list_append l bz.toArray n u (by rw[List.size_toArray];omega)) ⟨e,?_⟩;refine⟨.bJ,_,I.abh (its' :=bz++[u]) hH e (by simp) (r.append (.cons ru .nil)) ?_,rfl,q⟩;rw[List.length_append,List.length_singleton];omega
def Qv:V→az→Hp→VK→Prop:=fun x vs H Q=>∃l b xs zs,x= .ref l∧vs=[.ref b]∧H l=some (.lst xs)∧H b=some (.lst zs)∧xs.length+zs.length≤sizeLine∧Q .bJ (upd H l (.lst (xs++zs)))
theorem Xr:MtM X "list.extend" Qv:=by
 intro pins s σ H x vs v us Q I rx rv h;obtain⟨l,b,xs,zs,rfl,rfl,hH,hB,hz,q⟩:=h;cases rx;obtain⟨u,rfl,ru⟩:=rv.one;cases ru;obtain⟨z,bz,n,r,hl,e⟩:=I.Ht hH;obtain⟨z2,xU,n2,r2,m6,e2⟩:=I.Ht hB;have hsz:bz.toArray.size+xU.toArray.size≤sizeLine:=by rw[List.size_toArray,List.size_toArray];omega
 have L5:¬(!bz.toArray.isEmpty&&Builtin.List.listTooLong (bz.toArray.size+xU.toArray.size))=true:=by
  rw[C5 hsz,Bool.and_false];exact Bool.false_ne_true
 refine call_meets F.slot_list_extend ⟨_,e,rfl⟩ F.entry_list_extend (F.args_list_extend_2 _ _)
  (AutoSeq1.list_extend_list_list_0 l bz.toArray n b xU.toArray n2 L5 (by rw[List.size_toArray];omega) (by omega)) ⟨e,e2,?_⟩
 refine⟨.bJ,_,I.abh (its' :=bz++xU) hH e (by simp) (r.append r2) ?_,rfl,q⟩;rw[List.length_append];omega
def apI:R2:=fun x y H Q=>∃l b xs zs,x= .ref l∧y= .ref b∧H l=some (.lst xs)∧H b=some (.lst zs)∧xs.length+zs.length≤sizeLine∧∀p,H p=none→Q (.ref p) (upd H p (.lst (xs++zs)))
theorem Kg:qB X (binaryOp .Add) apI:=by
 intro pins s σ H x y v u Q I rx ry h;obtain⟨l,b,xs,zs,rfl,rfl,hH,hB,hz,q⟩:=h;cases rx;cases ry;obtain⟨z,bz,n,r,hl,e⟩:=I.Ht hH;obtain⟨z2,xU,n2,r2,m6,e2⟩:=I.Ht hB;refine PySem.P.add_list e e2 ?_ (by rw[List.size_toArray,List.size_toArray];omega);have ea:bz.toArray++xU.toArray=(bz++xU).toArray:=by simp
 rw[ea];exact⟨.ref _,_,I.Wq (t' :=s.toks) (r.append r2) (by rw[List.length_append];omega),rfl,q _ I.fresh⟩
def alP:R2:=fun x y H Q=>∃l k xs,x= .ref l∧y= .int k∧H l=some (.lst xs)∧ -(2 ^ 63)≤k∧k<2 ^ 63∧xs.length*k.toNat≤sizeLine∧
 ∀p,H p=none→Q (.ref p) (upd H p (.lst (List.replicate k.toNat xs).flatten))
theorem jac{α:Type}(xs:List α)(k:Nat):(List.replicate k xs).flatten.length=k*xs.length:=by
 induction k with
 |zero=>simp
 |succ k ih=>rw[List.replicate_succ,List.flatten_cons,List.length_append,ih,Nat.succ_mul,Nat.add_comm]
theorem ED:qB X (binaryOp .Mult) alP:=by
 intro pins s σ H x y v u Q I rx ry h;obtain⟨l,k,xs,rfl,rfl,hH,h1,h2,hz,q⟩:=h;cases rx;obtain⟨t,rfl⟩:=ry;obtain⟨z,bz,n,r,hl,e⟩:=I.Ht hH;have hlen:bz.toArray.size*k.toNat≤sizeLine:=by rw[List.size_toArray,←hl];exact hz
 have apq:¬bz.toArray.size*k.toNat>(2 ^ 63 - 1) / 8:=by
  have:(sizeLine:Nat)≤(2 ^ 63 - 1) / 8:=by decide
  omega
 have alz:¬(!Builtin.List.listFitsIndex k)=true:=by
  rw[fitsIndex_both h1 h2];exact Bool.false_ne_true
 have L5:¬Builtin.List.listTooLong (bz.toArray.size*k.toNat)=true:=by
  rw[C5 hlen];exact Bool.false_ne_true
 have DH:List.foldl (fun x1 x2=>x1++x2) #[] (List.replicate (if bz.toArray.isEmpty=true then 0 else k.toNat) bz.toArray)=(List.replicate k.toNat bz).flatten.toArray:=by
  have f0:∀m:Nat,List.foldl (fun x1 x2=>x1++x2) #[] (List.replicate m bz.toArray)=(List.replicate m bz).flatten.toArray:=fun m=>by
   have:=ZB bz m [];rw[List.nil_append] at this;exact this
  rw[f0]
  cases bz with
  |nil=>simp
  |cons a r' =>rw[if_neg (by simp)]
 refine wpAny_binaryOp_repeat_ref (T:="list") (U:="int") (by decide) ⟨_,e,rfl⟩ (fun s' =>typeIs_int s' k t) noFill_list_mul F.fills_int_mul F.slot_int_rmul repeat_list F.slot_int_index.lookup
  (call_meets F.slot_int_rmul (typeIs_int s k t) F.entry_int_rmul (F.args_int_rmul_2 _ _) (int___rmul___int_list k t l bz.toArray n)
   ⟨e,rfl,⟨_,e,rfl⟩,call_meets F.slot_list_mul ⟨_,e,rfl⟩ F.entry_list_mul (F.args_list_mul_2 _ _) (AutoListH.list___mul___list_int_3 l bz.toArray n k t alz apq L5) ⟨e,?_⟩⟩)
 rw[DH];exact⟨.ref _,_,I.Wq (t' :=s.toks) (r.rep k.toNat) (by rw[jac,Nat.mul_comm];exact hz),rfl,q _ I.fresh⟩
end
section
variable{prog:Program}{w:World}{A:Around}{E:Value→Shared→Prop}{s:Shared}
set_option maxRecDepth 100000 in
end
section
variable{X:Cx}
end
section
variable{κ:Type}[DecidableEq κ]
def bA(kvs:List (κ×V))(k:κ):Option V:=(kvs.find? fun kv=>decide (kv.1=k)).map (·.2)
def v4(kvs:List (κ×V))(k:κ)(v:V):List (κ×V):=
 if(kvs.any fun kv=>decide (kv.1=k))=true then kvs.map (fun kv=>if kv.1=k then(kv.1,v) else kv) else kvs++[(k,v)]
def S9(kvs:List (κ×V))(k:κ):List (κ×V):=kvs.filter fun kv=>decide (kv.1≠k)
theorem b_{p:κ×V}{r:List (κ×V)}{k:κ}(e:p.1=k):bA (p::r) k=some p.2:=by simp[bA,List.find?_cons,e]
theorem br{p:κ×V}{r:List (κ×V)}{k:κ}(e:¬p.1=k):bA (p::r) k=bA r k:=by simp[bA,List.find?_cons,e]
theorem nj(k:κ):∀kvs:List (κ×V),(kvs.any fun kv=>decide (kv.1=k))=(bA kvs k).isSome
 |[]=>rfl
 |p::r=>by
  rw[List.any_cons];by_cases e:p.1=k
  ·simp only[b_ e,decide_eq_true e,Bool.true_or,Option.isSome_some]
  ·rw[br e,decide_eq_false e,Bool.false_or];exact nj k r
theorem Dm(k j:κ)(y:V):∀kvs:List (κ×V),bA (kvs.map fun kv=>if kv.1=k then(kv.1,y) else kv) j=(bA kvs j).map fun x=>if j=k then y else x
 |[]=>rfl
 |p::r=>by
  have ih:=Dm k j y r;rw[List.map_cons];by_cases h:p.1=k
  ·rw[if_pos h];by_cases e:p.1=j
   ·rw[b_ (p:=(p.1,y)) e,b_ e,Option.map_some,if_pos (e.symm.trans h)]
   ·rw[br (p:=(p.1,y)) e,br e,ih]
  ·rw[if_neg h];by_cases e:p.1=j
   ·rw[b_ (p:=p) e,b_ e,Option.map_some,if_neg (fun z=>h (e.trans z))]
   ·rw[br (p:=p) e,br e,ih]
theorem Af(k j:κ)(y:V):∀kvs:List (κ×V),bA kvs k=none→bA (kvs++[(k,y)]) j=if j=k then some y else bA kvs j
 |[],_=>by
  by_cases e:k=j
  ·rw[if_pos e.symm];exact b_ (p:=(k,y)) e
  ·rw[if_neg (fun z=>e z.symm)];exact br (p:=(k,y)) e
 |p::r,hn=>by
  rw[List.cons_append];have hk:¬p.1=k:=fun z=>by rw[b_ z] at hn;cases hn
  rw[br hk] at hn;have ih:=Af k j y r hn;by_cases e:p.1=j
  ·rw[b_ e,b_ e,if_neg (fun z=>hk (e.trans z))]
  ·rw[br e,br e,ih]
theorem fF(kvs:List (κ×V))(k j:κ)(y:V):bA (v4 kvs k y) j=if j=k then some y else bA kvs j:=by
 unfold v4;by_cases a:(kvs.any fun kv=>decide (kv.1=k))=true
 ·rw[if_pos a,Dm];rw[nj] at a;by_cases e:j=k
  ·obtain⟨x,hx⟩:=Option.isSome_iff_exists.mp a;rw[if_pos e,e,hx,Option.map_some,if_pos rfl]
  ·rw[if_neg e]
   cases bA kvs j with
   |none=>rfl
   |some x=>rw[Option.map_some,if_neg e]
 ·rw[if_neg a];refine Af k j y kvs ?_;rw[nj] at a
  cases q:bA kvs k with
  |none=>rfl
  |some x=>rw[q] at a;exact(a rfl).elim
theorem dF(kvs:List (κ×V))(k:κ)(v:V):(v4 kvs k v).length≤kvs.length+1:=by
 unfold v4
 split
 ·rw[List.length_map];omega
 ·rw[List.length_append,List.length_cons,List.length_nil];omega
theorem tK{kvs:List (κ×V)}{k:κ}(v:V)(h:bA kvs k=none):v4 kvs k v=kvs++[(k,v)]:=by
 unfold v4;rw[nj,h];exact if_neg (by decide)
theorem lE.vd{o:Option V}{u:aH}(r:lE o u):o.isSome=u.isSome:=by
 cases o with
 |none=>cases u with
  |none=>rfl
  |some _=>exact(show False from r).elim
 |some _=>cases u with
  |none=>exact(show False from r).elim
  |some _=>rfl
theorem lE.getD{o:Option V}{u:aH}{d:V}{d' :Value}(r:lE o u)(rd:RelV d d'):RelV (o.getD d) (u.getD d'):=by
 cases o with
 |none=>cases u with
  |none=>exact rd
  |some _=>exact(show False from r).elim
 |some _=>cases u with
  |none=>exact(show False from r).elim
  |some _=>exact r
theorem KV.val{kvs:List (κ×V)}{vs:List (κ×Value)}(r:KV kvs vs)(k:κ):lE (bA kvs k) (valueAt vs k):=by
 unfold KV at r
 induction r with
 |nil=>exact True.intro
 | @cons p q ps qs h t ih=>
  obtain⟨h1,h2⟩:=h;by_cases e:p.1=k
  ·have e' :q.1=k:=h1.symm.trans e;have b:valueAt (q::qs) k=some q.2:=by simp[valueAt,List.find?_cons,e']
   rw[b_ e,b];exact h2
  ·have e' :¬q.1=k:=fun z=>e (h1.trans z);have b:valueAt (q::qs) k=valueAt qs k:=by simp[valueAt,List.find?_cons,e']
   rw[br e,b];exact ih
theorem KV.any{kvs:List (κ×V)}{vs:List (κ×Value)}(r:KV kvs vs)(k:κ):(kvs.any fun kv=>decide (kv.1=k))=vs.any fun kv=>decide (kv.1=k):=by
 unfold KV at r
 induction r with
 |nil=>rfl
 |cons h t ih=>rw[List.any_cons,List.any_cons,ih,h.1]
theorem KV.WC{kvs:List (κ×V)}{vs:List (κ×Value)}(r:KV kvs vs)(k:κ){y:V}{u:Value}(ry:RelV y u):
 KV (kvs.map fun kv=>if kv.1=k then(kv.1,y) else kv) (vs.map fun kv=>if kv.1=k then(kv.1,u) else kv):=by
 unfold KV at r ⊢
 induction r with
 |nil=>exact .nil
 | @cons p q ps qs h t ih=>
  rw[List.map_cons,List.map_cons];refine .cons ?_ ih;obtain⟨h1,h2⟩:=h;by_cases e:p.1=k
  ·rw[if_pos e,if_pos (h1.symm.trans e)];exact⟨h1,ry⟩
  ·rw[if_neg e,if_neg (fun z=>e (h1.trans z))];exact⟨h1,h2⟩
theorem KV.put{kvs:List (κ×V)}{vs:List (κ×Value)}(r:KV kvs vs)(k:κ){y:V}{u:Value}(ry:RelV y u):KV (v4 kvs k y) (stored vs k u):=by
 unfold v4 stored;rw[r.any k];by_cases e:(vs.any fun kv=>decide (kv.1=k))=true
 ·rw[if_pos e,if_pos e];exact r.WC k ry
 ·rw[if_neg e,if_neg e];exact Paired.snoc r ⟨rfl,ry⟩
theorem KV.drop{kvs:List (κ×V)}{vs:List (κ×Value)}(r:KV kvs vs)(k:κ):KV (S9 kvs k) (without vs k):=by
 unfold KV at r ⊢;unfold S9 without
 induction r with
 |nil=>exact .nil
 | @cons p q ps qs h t ih=>
  obtain⟨h1,h2⟩:=h;rw[List.filter_cons,List.filter_cons];by_cases e:p.1=k
  ·have a:¬decide (p.1≠k)=true:=by simp[e]
   have b:¬decide (q.1≠k)=true:=by simp[h1.symm.trans e]
   rw[if_neg a,if_neg b];exact ih
  ·have e' :¬q.1=k:=fun z=>e (h1.trans z);have a:decide (p.1≠k)=true:=by simp[e]
   have b:decide (q.1≠k)=true:=by simp[e']
   rw[if_pos a,if_pos b];exact .cons ⟨h1,h2⟩ ih
theorem KV.keys{kvs:List (κ×V)}{vs:List (κ×Value)}(r:KV kvs vs):kvs.map (·.1)=vs.map (·.1):=by
 unfold KV at r
 induction r with
 |nil=>rfl
 |cons h t ih=>rw[List.map_cons,List.map_cons,ih,h.1]
theorem KV.length{kvs:List (κ×V)}{vs:List (κ×Value)}(r:KV kvs vs):kvs.length=vs.length:=Paired.length r
end
theorem vj{P:Program}{w:World}{k:wp}{u:Value}(r:RelV (kV k) u):(bI P w).is k u=true:=by
 cases k with
 |inl i=>obtain⟨t,e⟩:=(show ∃t,u=Value.int i t from r);subst e;exact Cm P w i t
 |inr x=>obtain⟨t,e⟩:=(show ∃t,u=Value.str x t from r);subst e;exact C8 P w x t
theorem Ac{P:Program}{w:World}:∀{ks:List wp} {us:aA},Vals (ks.map kV) us→ItemsAre (bI P w) ks us
 |[],_,r=>by rw[List.map_nil] at r;cases r;exact .nil
 |k::ks,_,r=>by
  rw[List.map_cons] at r
  cases r with
  |cons h t=>exact .cons (vj h) (Ac t)
abbrev KT(H:Hp):dM→List (List wp×Addr×Value)→Prop:=Paired fun p q=>p.1=q.1∧H q.2.1=some (.tup (p.1.map kV))∧RelV p.2 q.2.2
theorem KT.val{H:Hp}{kvs:dM}{xs:List (List wp×Addr×Value)}(r:KT H kvs xs)(k:List wp):lE (bA kvs k) ((atKey xs k).map (·.2)):=by
 induction r with
 |nil=>exact True.intro
 | @cons p q ps qs h t ih=>
  obtain⟨h1,_,h2⟩:=h;by_cases e:p.1=k
  ·have e' :q.1=k:=h1.symm.trans e;have b:atKey (q::qs) k=some q.2:=by simp[atKey,List.find?_cons,e']
   rw[b_ e,b];exact h2
  ·have e' :¬q.1=k:=fun z=>e (h1.trans z);have b:atKey (q::qs) k=atKey qs k:=by simp[atKey,List.find?_cons,e']
   rw[br e,b];exact ih
theorem KT.WC{H:Hp}{kvs:dM}{xs:List (List wp×Addr×Value)}(r:KT H kvs xs)(k:List wp){y:V}{u:Value}(ry:RelV y u):
 KT H (kvs.map fun kv=>if kv.1=k then(kv.1,y) else kv) (xs.map (putAt k u)):=by
 induction r with
 |nil=>exact .nil
 | @cons p q ps qs h t ih=>
  rw[List.map_cons,List.map_cons];refine .cons ?_ ih;obtain⟨h1,h2,h3⟩:=h;unfold putAt;by_cases e:p.1=k
  ·rw[if_pos e,if_pos (h1.symm.trans e)];exact⟨h1,h2,ry⟩
  ·rw[if_neg e,if_neg (fun z=>e (h1.trans z))];exact⟨h1,h2,h3⟩
theorem KT.put{H:Hp}{kvs:dM}{xs:List (List wp×Addr×Value)}(r:KT H kvs xs)(k:List wp){b:Addr}{y:V}{u:Value}(hb:H b=some (.tup (k.map kV)))(ry:RelV y u):
 KT H (v4 kvs k y) (storedH xs k b u):=by
 have e:(kvs.any fun kv=>decide (kv.1=k))=(atKey xs k).isSome:=by
  rw[nj,(r.val k).vd,Option.isSome_map]
 unfold v4 storedH;rw[e];by_cases q:(atKey xs k).isSome=true
 ·rw[if_pos q,if_pos q];exact r.WC k ry
 ·rw[if_neg q,if_neg q];exact Paired.snoc r ⟨rfl,hb,ry⟩
theorem KT.keeps{H H' :Hp}{kvs:dM}{xs:List (List wp×Addr×Value)}(r:KT H kvs xs)(ht:∀b ys,H b=some (.tup ys)→H' b=some (.tup ys)):KT H' kvs xs:=
 Paired.UN r fun _ _ z=>⟨z.1,ht _ _ z.2.1,z.2.2⟩
section
variable{P:Program}{w:World}{H:Hp}{h:Heap}{a:Addr}
theorem R6{u:HO}(ok:qE P w H h)(e:Rd H a u):bq P w H h a u:=e.ok ok
theorem zT{kvs:bK}(ok:qE P w H h)(e:Rd H a (.dK kvs)):kvs.length≤sizeLine∧(a==sysModules)=false∧∃vs,KV kvs vs∧h.DictOf (bI P w) a vs:=
 show bq P w H h a (.dK kvs) from R6 ok e
theorem xf{kvs:bK}(ok:qE P w H h)(e:H a=some (.dK kvs)):kvs.length≤sizeLine∧(a==sysModules)=false∧∃vs,KV kvs vs∧h.DictOf (bI P w) a vs:=zT ok (.inl e)
theorem uA{ks:List wp}(ok:qE P w H h)(e:H a=some (.tup (ks.map kV))):(tupleKind (bI P w)).is h ks a:=by
 obtain⟨_,bz,r,o,h1,h2,n,h3⟩:=(show bq P w H h a (.tup (ks.map kV)) from ok a _ e);exact⟨o,bz.toArray,n,h1,h2,h3,by simpa using Ac r⟩
theorem z8{kvs:dM}(ok:qE P w H h)(e:Rd H a (.dT kvs)):kvs.length≤sizeLine∧(a==sysModules)=false∧
 ∃xs,KT H kvs xs∧h.DictOfH (tupleKind (bI P w)) a xs:=by
 obtain⟨z,y,xs,r,o,es,ep,h1,h2,h3,h4,h5⟩:=(show bq P w H h a (.dT kvs) from R6 ok e);refine⟨z,y,xs,r,o,es,ep,h1,h2,h3,h4,fun x hx=> ?_,h5⟩
 have all:∀{l:dM} {m:List (List wp×Addr×Value)},KT H l m→∀x∈m,(tupleKind (bI P w)).is h x.1 x.2.1:=by
  intro l m q
  induction q with
  |nil=>intro x hx;exact nomatch hx
  | @cons p q ps qs hq t ih=>
   intro x hx;rcases List.mem_cons.mp hx with e|hx
   ·subst e;exact uA ok (by rw[←hq.1];exact hq.2.1)
   ·exact ih x hx
 exact all r x hx
theorem YJ{kvs:dM}(ok:qE P w H h)(e:H a=some (.dT kvs)):kvs.length≤sizeLine∧(a==sysModules)=false∧
 ∃xs,KT H kvs xs∧h.DictOfH (tupleKind (bI P w)) a xs:=z8 ok (.inl e)
end
def fg(H:Hp)(a:Addr)(y:V)(r:Option V):Prop:=
 (∃kvs k,Rd H a (.dK kvs)∧y=kV k∧r=bA kvs k)∨∃kvs k b,Rd H a (.dT kvs)∧y= .ref b∧H b=some (.tup (k.map kV))∧r=bA kvs k
def sM(H:Hp)(a:Addr)(y v:V)(H' :Hp):Prop:=
 (∃kvs k,H a=some (.dK kvs)∧y=kV k∧kvs.length<sizeLine∧H' =upd H a (.dK (v4 kvs k v)))∨
 ∃kvs k b,H a=some (.dT kvs)∧y= .ref b∧H b=some (.tup (k.map kV))∧kvs.length<sizeLine∧H' =upd H a (.dT (v4 kvs k v))
theorem fg.k{H:Hp}{a:Addr}{kvs:bK}{k:wp}(e:H a=some (.dK kvs)):fg H a (kV k) (bA kvs k):= .inl ⟨kvs,k,.inl e,rfl,rfl⟩
theorem fg.t{H:Hp}{a b:Addr}{kvs:dM}{k:List wp}(e:H a=some (.dT kvs))(eb:H b=some (.tup (k.map kV))):fg H a (.ref b) (bA kvs k):= .inr ⟨kvs,k,b,.inl e,rfl,eb,rfl⟩
theorem sM.k{H:Hp}{a:Addr}{kvs:bK}{k:wp}{v:V}(e:H a=some (.dK kvs))(hl:kvs.length<sizeLine):sM H a (kV k) v (upd H a (.dK (v4 kvs k v))):= .inl ⟨kvs,k,e,rfl,hl,rfl⟩
theorem sM.t{H:Hp}{a b:Addr}{kvs:dM}{k:List wp}{v:V}(e:H a=some (.dT kvs))(eb:H b=some (.tup (k.map kV)))(hl:kvs.length<sizeLine):
 sM H a (.ref b) v (upd H a (.dT (v4 kvs k v))):= .inr ⟨kvs,k,b,e,rfl,eb,hl,rfl⟩
section
variable{X:Cx}{pins:aL}{σ:St}{H:Hp}{s:Shared}{a:Addr}{y v:V}{u r:Value}{o:Option V}{A:Around}{E:Value→Shared→Prop}
theorem Inv.big(I:Inv X pins σ H s):sysModules<s.heap.objs.size:=by
 have h:mainGlobals<s.heap.objs.size:=(I.mod.glob.keeps I.bk).lt;exact Nat.lt_trans (by decide) h
theorem Im{Q:Value→Shared→Prop}(hu:A.units+1<cLine)(I:Inv X pins σ H s)(g:fg H a y (some v))(ry:RelV y u)(h:∀w' s',Inv X pins σ H s'→RelV v w'→Q w' s'):
 wpAny (model X.prog X.w) A (getItem (.ref a) u) Q E s:=by
 rcases g with⟨kvs,k,e,ey,l⟩|⟨kvs,k,b,e,ey,eb,l⟩
 ·subst ey;obtain⟨z,hd,vs,rel,dd⟩:=zT I.bD e;obtain⟨w',hw,D8⟩:=lE.some_of (v:=v) (o:=valueAt vs k) (by rw[l];exact rel.val k);exact wpAny_getItem_of (vj ry) dd.mapOf hw (h w' _ (I.tok _) D8)
 ·subst ey;cases(show u=Value.ref b from ry);obtain⟨z,hd,xs,rel,dd⟩:=z8 I.bD e;obtain⟨w',hw,D8⟩:=lE.some_of (v:=v) (o:=(atKey xs k).map (·.2)) (by rw[l];exact rel.val k);obtain⟨p,hp,wX⟩:=Option.map_eq_some_iff.mp hw;refine wpAny_getItem_heap (tupleKind_room_in1 hu) (uA I.bD eb) dd hp ?_;rw[wX];exact h w' _ (I.tok _) D8
theorem ag3{Q:Value→Shared→Prop}(hu:A.units+1<cLine)(I:Inv X pins σ H s)(g:fg H a y o)(ry:RelV y u)(h:∀s',Inv X pins σ H s'→Q (.bool o.isSome) s'):
 wpAny (model X.prog X.w) A (compareOp .In u (.ref a)) Q E s:=by
 rcases g with⟨kvs,k,e,ey,l⟩|⟨kvs,k,b,e,ey,eb,l⟩
 ·subst ey;obtain⟨z,hd,vs,rel,dd⟩:=zT I.bD e;refine wpAny_in_of (vj ry) hd dd.mapOf ?_;rw[←(rel.val k).vd,←l];exact h _ (I.tok _)
 ·subst ey;cases(show u=Value.ref b from ry);obtain⟨z,hd,xs,rel,dd⟩:=z8 I.bD e;refine wpAny_in_heap (tupleKind_room_in1 hu) (uA I.bD eb) hd dd ?_;have q:=(rel.val k).vd;rw[Option.isSome_map] at q;rw[←q,←l];exact h _ (I.tok _)
theorem wB{h' :Heap}{t' :Nat}{ob:HO}(I:Inv X pins σ H s)(mu:Mut (H a))(hs:Heap.SameBut a s.heap h')(he:∃q,h'.get? a=some q)(new:bq X.prog X.w (upd H a ob) h' a ob):
 Inv X pins σ (upd H a ob) {s with heap:=h',toks:=t'}:=
 I.write (x:=a) (e:=a) mu (.inl rfl) (fun b q hb z=>(hs.2 b hb).trans z) he new
theorem xy{P:Program}{w:World}{H' :Hp}{h' :Heap}{kvs:bK}{vs:List (wp×Value)}(z:kvs.length≤sizeLine)(hd:(a==sysModules)=false)(rel:KV kvs vs)(dd:h'.DictOf (bI P w) a vs):
 bq P w H' h' a (.dK kvs):=⟨z,hd,vs,rel,dd⟩
theorem Hu{H' :Hp}{Q:Unit→Shared→Prop}(hu:A.units+1<cLine)(I:Inv X pins σ H s)(g:sM H a y v H')(ry:RelV y u)(rv:RelV v r)(h:∀s',Inv X pins σ H' s'→Q () s'):
 wpAny (model X.prog X.w) A (setItem (.ref a) u r) Q E s:=by
 rcases g with⟨kvs,k,e,ey,l,eH⟩|⟨kvs,k,b,e,ey,eb,l,eH⟩
 ·subst ey eH;obtain⟨z,hd,vs,rel,dd⟩:=xf I.bD e;have hz:vs.length≤sizeLine:=by rw[←rel.length];exact z
  have hl:(v4 kvs k v).length≤sizeLine:=by have:=dF kvs k v;omega
  refine wpAny_setItem_pairs (hsz:=hz) (vj ry) dd fun h' Ek hs=>h _ ?_;have he:∃q,h'.get? a=some q:=let⟨q,_,_,hq,_⟩:=Ek;⟨q,hq⟩
  exact wB I (by rw[e];exact True.intro) hs he (xy hl hd (rel.put k rv) Ek)
 ·subst ey eH;cases(show u=Value.ref b from ry);obtain⟨z,hd,xs,rel,dd⟩:=YJ I.bD e;have hz:xs.length≤sizeLine:=by rw[←Paired.length rel];exact z
  have hl:(v4 kvs k v).length≤sizeLine:=by have:=dF kvs k v;omega
  refine wpAny_setItem_heap (hsz:=hz) (tupleKind_room_in1 hu) (uA I.bD eb) dd fun h' Ek hs=>h _ ?_;obtain⟨q,es,ep,hq,h2,h3,h4,_,h5⟩:=Ek;refine wB I (by rw[e];exact True.intro) hs ⟨q,hq⟩ ⟨hl,hd,_,(rel.put k eb rv).keeps fun c ys ec=> ?_,q,es,ep,hq,h2,h3,h4,h5⟩;rw[af (aJ ec e (fun z=>nomatch z))];exact ec
end
section
variable{X:Cx}{pins:aL}{σ:St}{H:Hp}{s:Shared}{a:Addr}{kvs:bK}{k:wp}{u:Value}{A:Around}{E:Value→Shared→Prop}
end
def Zg(i:Expr):Prop:=∀ov iv,subscripted i false ov iv=operate [ov,iv] (getItem ov iv)
theorem N6{prog:Program}{w:World}{A:Around}{E:Value→Shared→Prop}{s:Shared}{env:Env}{value slice:Expr}{pos:Pos}{T id:String}{Q:Value→Shared→Prop}
 (hl:typeLookup (.type T) "__getitem__"=pure (some (.builtin id))) (hs:Zg slice)
 (h:wpAny (model prog w) A (eval value env) (fun o bF=>wpAny (model prog w) A (eval slice env) (fun i qk=>qk.TypeIs o T∧wpAny (model prog w) A (getItem o i) Q E qk) E bF) E s):
 wpAny (model prog w) A (eval (.Subscript value slice pos) env) Q E s:=by
 refine Subscript_ (wpAny_mono h (fun o bF i5=>wpAny_mono i5 (fun i qk Kd=> ?_) fun _ _ x=>x) fun _ _ x=>x);obtain⟨hT,Kd⟩:=Kd;unfold subscriptTail;refine wpAny_bind ?_;rw[getitemInPython_of_ne hT.not_modules];refine wpAny_bind (wpAny_specialOf hT hl ?_)
 have fin:wpAny (model prog w) A (subscripted slice false o i) (fun r vV=>wpAny (model prog w) A (letTemporaryGo value o r>>= fun _=>pure r) Q E vV) E qk:=by
  rw[hs o i];exact wpAny_operating (wpAny_mono Kd (fun r vV PH=>wpAny_bind (wpAny_letTemporaryGo (wpAny_pure PH))) fun _ _ x=>x)
 first
  |exact wpAny_pure (wpAny_bind fin)
  |exact wpAny_bind (wpAny_pure (wpAny_bind fin))
  |exact wpAny_bind fin
theorem Cw{X:Cx}{pins:aL}{σ:St}{H:Hp}{s:Shared}{a:Addr}{y:V}{o:Option V}(I:Inv X pins σ H s)(g:fg H a y o):s.TypeIs (.ref a) "dict":=by
 rcases g with⟨kvs,k,e,_,_⟩|⟨kvs,k,b,e,_,_,_⟩
 ·obtain⟨_,_,vs,_,dd⟩:=zT I.bD e;exact dd.typeIs
 ·obtain⟨_,_,xs,_,dd⟩:=z8 I.bD e;exact dd.typeIs
def abp(td ty:TE):TE:=fun σ H Q=>td σ H fun x H1=>ty σ H1 fun y H2=>∃a v,x= .ref a∧fg H2 a y (some v)∧Q v H2
def ah0(ty td:TE):TE:=fun σ H Q=>ty σ H fun y H1=>td σ H1 fun x H2=>∃a o,x= .ref a∧fg H2 a y o∧Q (.bl o.isSome) H2
def XI(td ty tv:TE):TS:=fun D σ H=>tv σ H fun v H1=>td σ H1 fun x H2=>ty σ H2 fun y H3=>∃a H4,x= .ref a∧sM H3 a y v H4∧D.nx σ H4
section
variable{X:Cx}{o i e value:Expr}{pos pos' afr:Pos}{td ty tv:TE}
theorem aN(hu:X.A.units+1<cLine)(ho:PE X o td)(hi:PE X i ty)(hs:Zg i):PE X (.Subscript o i pos) (abp td ty):=by
 intro pins s σ H Q I h;refine N6 PySem.F.slot_dict_getitem.lookup hs (cm (ho pins s σ H _ I h) fun u s1 ⟨x,H1,I1,rx,q1⟩=>cm (hi pins s1 σ H1 _ I1 q1) fun iv s2 ⟨y,H2,I2,ry,a,v,ex,g,q2⟩=> ?_);subst ex;obtain rfl:u=Value.ref a:=rx;exact⟨Cw I2 g,Im hu I2 g ry fun w' s3 I3 D8 =>⟨v,H2,I3,D8,q2⟩⟩
theorem MV(hu:X.A.units+1<cLine)(hi:PE X i ty)(ho:PE X o td):PC X .In i o (ah0 ty td):=by
 intro pins s σ H Q I h;refine cm (hi pins s σ H _ I h) fun iv s1 ⟨y,H1,I1,ry,q1⟩=>cm (ho pins s1 σ H1 _ I1 q1) fun u s2 ⟨x,H2,I2,rx,a,ov,ex,g,q2⟩=> ?_;subst ex;obtain rfl:u=Value.ref a:=rx;exact ag3 hu I2 g ry fun s3 I3=>⟨.bl ov.isSome,H2,I3,rfl,q2⟩
theorem pe(hu:X.A.units+1<cLine)(ho:PE X o td)(hi:PE X i ty)(hv:PE X value tv)(hs:swapsWith value (some (.Subscript o i pos')) pos.line X.env=pure false):
 PS X (.Assign [.Subscript o i pos'] value pos) (XI td ty tv):=by
 intro pins s σ H D I h;refine wpAny_Assign_Subscript (cm (hv pins s σ H _ I h) fun r s1 ⟨v,H1,I1,rv,q1⟩=>cm (ho pins s1 σ H1 _ I1 q1) fun u s2 ⟨x,H2,I2,rx,q2⟩=>cm (hi pins s2 σ H2 _ I2 q2) fun iv s3 ⟨y,H3,I3,ry,a,H4,ex,g,q3⟩=> ?_) hs;subst ex;obtain rfl:u=Value.ref a:=rx;exact Hu hu I3 g ry rv fun s4 I4=>⟨σ,H4,I4,q3⟩
end
theorem qt{P:Program}{w:World}{H:Hp}(h:Heap)(hb:sysModules<h.objs.size):bq P w H (h.push {cls:= .type "dict",data:= .dict #[]}) h.objs.size (.dK []):=
 ⟨Nat.zero_le _,beq_eq_false_iff_ne.mpr (Ne.symm (Nat.ne_of_lt hb)),[],.nil,Heap.DictOf.new h⟩
theorem IQ{P:Program}{w:World}{H:Hp}(h:Heap)(hb:sysModules<h.objs.size):bq P w H (h.push {cls:= .type "dict",data:= .dict #[]}) h.objs.size (.dT []):=
 ⟨Nat.zero_le _,beq_eq_false_iff_ne.mpr (Ne.symm (Nat.ne_of_lt hb)),[],.nil,_,#[],0,Heap.get?_push_size _ rfl,⟨rfl,rfl,rfl⟩,rfl,rfl,List.nodup_nil⟩
def Wm:TE:=fun _ H Q=>∀p,H p=none→Q (.ref p) (upd H p (.dK []))
def VG:TE:=fun _ H Q=>∀p,H p=none→Q (.ref p) (upd H p (.dT []))
section
variable{X:Cx}{pos:Pos}
theorem mN:PE X (.Dict [] [] pos) Wm:=fun pins s σ H Q I h=>
 wpAny_Dict_empty ⟨.ref s.heap.objs.size,_,I.laid (a:=s.heap.objs.size) (o:= .dK []) (t' :=s.toks) (fun _ _ q=>Heap.get?_push_of_some _ q) (Nat.le_refl _) (qt s.heap I.big),rfl,h _ (I.bD.fresh (Nat.le_refl _))⟩
theorem Jl:PE X (.Dict [] [] pos) VG:=fun pins s σ H Q I h=>
 wpAny_Dict_empty ⟨.ref s.heap.objs.size,_,I.laid (a:=s.heap.objs.size) (o:= .dT []) (t' :=s.toks) (fun _ _ q=>Heap.get?_push_of_some _ q) (Nat.le_refl _) (IQ s.heap I.big),rfl,h _ (I.bD.fresh (Nat.le_refl _))⟩
end
def EV:List (TE×TE)→St→Hp→(List (V×V)→Hp→Prop)→Prop
 |[],_,H,Q=>Q [] H
 |(tk,tv)::r,σ,H,Q=>tk σ H fun x H1=>tv σ H1 fun y H2=>EV r σ H2 fun ps H3=>Q ((x,y)::ps) H3
abbrev VV:List (V×V)→List (Value×Value)→Prop:=Paired fun p q=>RelV p.1 q.1∧RelV p.2 q.2
def PPs(X:Cx)(pos:Pos)(keys:List (Option Expr))(values:cR)(Ov:List (TE×TE)):Prop:=
 ∀(pins:aL) (s:Shared) (σ:St) (H:Hp) (Q:List (V×V)→Hp→Prop),Inv X pins σ H s→EV Ov σ H Q→
  wpAny (model X.prog X.w) X.A (evalPairs (pairTrees keys values X.env pos)) (fun vs s' =>∃ps H',Inv X pins σ H' s'∧VV ps vs∧Q ps H') X.xe s
theorem Oi{X:Cx}{pos:Pos}:PPs X pos [] [] []:=fun pins s σ H Q I h=>pairTrees_nil_walk ⟨[],H,I,.nil,h⟩
theorem mQ{X:Cx}{pos:Pos}{k v:Expr}{ks:List (Option Expr)}{vs:cR}{tk tv:TE}{Ov:List (TE×TE)}(hk:PE X k tk)(hv:PE X v tv)(hr:PPs X pos ks vs Ov):
 PPs X pos (some k::ks) (v::vs) ((tk,tv)::Ov):=fun pins s σ H Q I h=>
 pairTrees_cons_walk (cm (hk pins s σ H _ I h) fun u s1 ⟨x,H1,I1,rx,q1⟩=>cm (hv pins s1 σ H1 _ I1 q1) fun w2 s2 ⟨y,H2,I2,ry,q2⟩=>
  cm (hr pins s2 σ H2 _ I2 q2) fun ws s3 ⟨ps,H3,I3,rel,q3⟩=>⟨(x,y)::ps,H3,I3,.cons ⟨rx,ry⟩ rel,q3⟩)
def mr(kvs more:bK):bK:=more.foldl (fun acc kv=>v4 acc kv.1 kv.2) kvs
theorem KV.merge:∀{more:bK} {rs:List (wp×Value)} {kvs:bK} {vs:List (wp×Value)},KV more rs→KV kvs vs→KV (mr kvs more) (merged vs rs):=by
 intro more rs kvs vs r;unfold KV at r
 induction r generalizing kvs vs with
 |nil=>intro q;exact q
 | @cons p q ps qs h t ih=>
  intro r0
  have e:KV (v4 kvs p.1 p.2) (stored vs q.1 q.2):=by
   have:=r0.put p.1 h.2;rw[←h.1];exact this
  exact ih e
theorem lW:∀(more kvs:bK),(mr kvs more).length≤kvs.length+more.length
 |[],kvs=>by show kvs.length≤kvs.length+0;omega
 |p::r,kvs=>by
  have h1:=lW r (v4 kvs p.1 p.2);have h2:=dF kvs p.1 p.2;show(mr (v4 kvs p.1 p.2) r).length≤_;rw[List.length_cons];omega
theorem xg{P:Program}{w:World}:∀{kvs:bK} {ws:List (Value×Value)},VV (kvs.map fun kv=>(kV kv.1,kv.2)) ws→∃rs,Carries (bI P w) ws rs∧KV kvs rs
 |[],_,r=>by rw[List.map_nil] at r;cases r;exact⟨[],True.intro,.nil⟩
 |p::kvs,_,r=>by
  rw[List.map_cons] at r
  cases r with
  | @cons a b as bs h t=>
   obtain⟨rs,c,q⟩:=xg (P:=P) (w:=w) t;obtain⟨b1,b2⟩:=b;exact⟨(p.1,b2)::rs,⟨vj h.1,rfl,c⟩,.cons ⟨rfl,h.2⟩ q⟩
def acE(Ov:List (TE×TE)):TE:=fun σ H Q=>∀p,H p=none→EV Ov σ (upd H p (.dK [])) fun ps H2=>H2 p=some (.dK [])∧∃kvs:bK,ps=kvs.map (fun kv=>(kV kv.1,kv.2))∧kvs.length≤15∧Q (.ref p) (upd H2 p (.dK (mr [] kvs)))
theorem OF{X:Cx}{pos:Pos}{keys:List (Option Expr)}{values:cR}{Ov:List (TE×TE)}(h:PPs X pos keys values Ov)(Wo:keys.all (·.isSome)=true)(hl:keys.length=values.length)(h0:keys≠[])
 (h15:keys.length≤15):PE X (.Dict keys values pos) (acE Ov):=by
 intro pins s σ H Q I q;have hn:=I.bD.fresh (Nat.le_refl s.heap.objs.size);have I1:=I.laid (a:=s.heap.objs.size) (o:= .dK []) (h' :=s.heap.push {cls:= .type "dict",data:= .dict #[]}) (t' :=s.toks) (fun _ _ q=>Heap.get?_push_of_some _ q) (Nat.le_refl _) (qt s.heap I.big);refine wpAny_Dict_walk (knd:=bI X.prog X.w) Wo hl h0 h15 (cm (h pins _ σ _ _ I1 (q _ hn)) fun ws s2 ⟨ps,H2,I2,rel,e,kvs,ep,lk,q2⟩=> ?_);subst ep;obtain⟨rs,c,rk⟩:=xg (P:=X.prog) (w:=X.w) rel;obtain⟨z,hd,vs0,r0,dd⟩:=xf I2.bD e;cases r0;refine⟨rs,c,dd,fun h' Ek hs=>⟨.ref s.heap.objs.size,_,?_,rfl,q2⟩⟩
 have hz:(mr [] kvs).length≤sizeLine:=by
  have h1:=lW kvs [];rw[List.length_nil] at h1;rw[sizeLine_eq];omega
 have he:∃q,h'.get? s.heap.objs.size=some q:=let⟨q,_,_,hq,_⟩:=Ek;⟨q,hq⟩
 exact wB I2 (by rw[e];exact True.intro) hs he (xy hz hd (rk.merge .nil) Ek)
structure M1(X:Cx)(o:Expr)(m:Str)(apos:Pos)(e:Expr)(fL:Pos):Prop where
 base:attributeBase o m X.env (eval o X.env)=eval o X.env
 few:((backTo fL (starEach [e] X.env)).all (fun x=> !x.1)&&(backToKw fL (keywordEach [] X.env)).all (fun x=>x.1.isSome)
  &&decide (([e]:cR).length+([]:List Keyword).length+(if([]:List Keyword).isEmpty then 0 else 1)<30))=true
 line:(apos.endLine==fL.line)=true
 trees:backTo fL (starEach [e] X.env)=[(false,eval e X.env)]
structure M2(X:Cx)(o:Expr)(m:Str)(apos:Pos)(e f:Expr)(fL:Pos):Prop where
 base:attributeBase o m X.env (eval o X.env)=eval o X.env
 few:((backTo fL (starEach [e,f] X.env)).all (fun x=> !x.1)&&(backToKw fL (keywordEach [] X.env)).all (fun x=>x.1.isSome)
  &&decide (([e,f]:cR).length+([]:List Keyword).length+(if([]:List Keyword).isEmpty then 0 else 1)<30))=true
 line:(apos.endLine==fL.line)=true
 trees:backTo fL (starEach [e,f] X.env)=[(false,eval e X.env),(false,eval f X.env)]
def IsD(H:Hp)(a:Addr):Prop:=(∃kvs,Rd H a (.dK kvs))∨∃kvs,Rd H a (.dT kvs)
theorem JW{X:Cx}{pins:aL}{σ:St}{H:Hp}{s:Shared}{a:Addr}(I:Inv X pins σ H s)(d:IsD H a):
 s.TypeIs (.ref a) "dict" ∧(∀b,Value.ref a= .ref b→∃ob,s.heap.get? b=some ob∧ob.dict=none)∧(a==sysModules)=false:=by
 rcases d with⟨kvs,e⟩|⟨kvs,e⟩
 ·obtain⟨_,hd,vs,_,dd⟩:=zT I.bD e;refine⟨dd.typeIs,fun b q=> ?_,hd⟩;cases q;obtain⟨ob,_,_,h1,h2,_⟩:=dd;exact⟨ob,h1,h2.2.1⟩
 ·obtain⟨_,hd,xs,_,dd⟩:=z8 I.bD e;refine⟨dd.typeIs,fun b q=> ?_,hd⟩;cases q;obtain⟨ob,_,_,h1,h2,_⟩:=dd;exact⟨ob,h1,h2.2.1⟩
section
variable{X:Cx}{pins:aL}{σ:St}{H:Hp}{s:Shared}{a:Addr}{y d:V}{u r:Value}{o:Option V}{A:Around}{E:Value→Shared→Prop}
theorem V8{Q:Value→Shared→Prop}(hu:A.units+1<cLine)(I:Inv X pins σ H s)(g:fg H a y o)(ry:RelV y u)(rd:RelV d r)(h:∀w' s',Inv X pins σ H s'→RelV (o.getD d) w'→Q w' s'):
 wpAny (model X.prog X.w) A (call (.builtin "dict.get") [.ref a,u,r]) Q E s:=by
 rcases g with⟨kvs,k,e,ey,l⟩|⟨kvs,k,b,e,ey,eb,l⟩
 ·subst ey;obtain⟨z,hd,vs,rel,dd⟩:=zT I.bD e;refine call_meetsIn slot_dict_get dd.typeIs entry_dict_get (args_dict_get_3 _ _ _) (meets_dict_get_default (bI X.prog X.w) a (vj ry) hd r) ⟨_,dd.mapOf,h _ _ (I.tok _) ?_⟩;rw[l];exact(rel.val k).getD rd
 ·subst ey;cases(show u=Value.ref b from ry);obtain⟨z,hd,xs,rel,dd⟩:=z8 I.bD e;refine call_meetsIn slot_dict_get dd.typeIs entry_dict_get (args_dict_get_3 _ _ _) (meetsH_dict_get_default (tupleKind (bI X.prog X.w)) a b hd r) ⟨tupleKind_room_in1 hu,k,xs,uA I.bD eb,dd,h _ _ (I.tok _) ?_⟩;rw[l];exact(rel.val k).getD rd
end
def U7(td ty tx:TE):TE:=fun σ H Q=>td σ H fun x H1=>∃a,x= .ref a∧IsD H1 a∧ty σ H1 fun y H2=>tx σ H2 fun z H3=>∃o,fg H3 a y o∧Q (o.getD z) H3
section
variable{X:Cx}{o e f:Expr}{apos fL:Pos}{td ty tx:TE}
theorem pP(hu:X.A.units+1<cLine)(ho:PE X o td)(he:PE X e ty)(hf:PE X f tx)(m:M2 X o "get" apos e f fL):PE X (.Call (.Attribute o "get" apos) [e,f] [] fL) (U7 td ty tx):=by
 intro pins s σ H Q I h;refine wpAny_Call_method m.base m.few m.line plainAttrs_dict slot_dict_get PySem.F.type_dict_get (cm (ho pins s σ H _ I h) fun u s1 ⟨x,H1,I1,rx,a,ex,d,q1⟩=> ?_);subst ex;obtain rfl:u=Value.ref a:=rx;obtain⟨t1,t2,_⟩:=JW I1 d;refine⟨t1,t2,?_⟩;rw[m.trees]
 refine Calls.callWith_builtin rfl (Calls.evalArgs_plain (Calls.spliced_cons (cm (he pins s1 σ H1 _ I1 q1) fun iv s2 ⟨y,H2,I2,ry,q2⟩=>
  Calls.spliced_cons (cm (hf pins s2 σ H2 _ I2 q2) fun fv s3 ⟨z,H3,I3,rz,ov,g,q3⟩=>Calls.spliced_nil ?_))))
 exact V8 hu I3 g ry rz fun w' s4 I4 D8 =>⟨_,H3,I4,D8,q3⟩
end
section
variable{X:Cx}{pins:aL}{σ:St}{H:Hp}{s:Shared}{a:Addr}{kvs:bK}{A:Around}{E:Value→Shared→Prop}
end
section
variable{X:Cx}{pins:aL}{σ:St}{H:Hp}{s:Shared}{a:Addr}{y:V}{u:Value}{A:Around}{E:Value→Shared→Prop}
end
end L2
namespace Att
open PySem PySem.W PySem.Calls PyProof.Rows
theorem v_{P:Params}{h:Heap}:∀(ns:List Int) (vs:aA),WellAll P h vs (ns.map WData.int)→IntsAre vs ns:=by
 intro ns
 induction ns with
 |nil=>
  intro vs w;rw[List.map_nil] at w;cases w;exact .nil
 |cons n ns ih=>
  intro vs w;rw[List.map_cons] at w
  cases w with
  |cons a b=>
   cases a;exact .cons _ _ (ih _ b)
theorem Hg{l:OpenLaw}{n:Nat}(hn:l.most=some n){P:Params}{h:Heap}{args:List WData}{vals:aA}
 (Oa:l.row.toRowW.claim.pre args=true) (wC:WellAll P h vals args):
 ∃a vs ns,vals=[Value.ref a]∧args=[WData.list (ns.map WData.int)]∧h.get? a=some {cls:= .type "list",data:= .seq vs.toArray}∧IntsAre vs ns∧ns.length≤n:=by
 have hsh:WShape.hasAll [] args [.list .int]=true:=(pre_splitW Oa).1;have hc:l.pre.holds [] {args:=args}=true:=(pre_splitW Oa).2;obtain⟨d,r,rfl,h1,h2⟩:=hasAllW_cons hsh;obtain rfl:=hasAllW_nil h2;obtain⟨xs,rfl,h3⟩:=hasW_list h1;obtain⟨ns,rfl⟩:=items_int h3
 have hlen:ns.length≤n:=by
  unfold OpenLaw.pre at hc
  have h4:(WTm.not (.lt (.lit (.int (n:Int))) (.len (.arg 0)))).holds [] {args:=[.list (ns.map .int)]}=true:=by
   have h4:=(holds_andW hc).1;rw[hn] at h4;exact h4
  have h5:=condW_of h4 (w_not (w_lt w_lit (w_len_list (w_arg rfl))));rw[List.length_map] at h5;refine Nat.le_of_not_lt fun q=> ?_;have q' :(n:Int)<((ns.length:Nat):Int):=by omega
  first
   |(rw[decide_eq_true q'] at h5;exact absurd h5 (by decide))
   |(simp at h5;omega)
 cases wC with
 |cons w1 w2=>
  cases w2
  cases w1 with
  |list ho Wo=>exact⟨_,_,ns,rfl,rfl,ho,v_ ns _ Wo,hlen⟩
theorem HM(l:OpenLaw)(args:List WData):l.row.toRowW.claim.post args (.bool true) args=true:=
 postW_of (r:=l.row.toRowW) (X:=(true==true))
  (show WShape.has [] (.bool true) .bool=true by first|rfl|decide|simp[WShape.has,WShape.arms,WShape.armsAll])
  (show(WTm.eq .res (.lit (.bool true))).value [] {args:=args,res:=some (.bool true),after:=args}=some (.bool (true==true)) from w_eq_bool (w_res rfl) w_lit) rfl
theorem DQ{l:OpenLaw}{n:Nat}{q:Program}{loose:aX}{XP:(Str→aH)→Heap→Prop}{YP:World→Heap→Prop}{d:DefRec}
 (hn:l.most=some n) (NZ:d.params.defaults=[])
 (call:∀(w:World) (fD bF:Shared) (mg mb:Str→aH) (fa:Addr) (o:Obj) (pm cd doc:Value) (a:Addr) (vs:aA) (ns:List Int),
  Ground q loose [] XP w fD mg mb bF.heap→YP w bF.heap→
  bF.heap.get? fa=some o→o.data= .func (docDef d.name d.params d.body d.scope pm cd doc)→bF.heap.CodeRec cd d.name→mg d.name=some (.ref fa)→
  bF.heap.get? a=some {cls:= .type "list",data:= .seq vs.toArray}→IntsAre vs ns→ns.length≤n→bF.gens= #[]→
  codeAny (model l.prog w) callerA (.call (.ref fa) ⟨[.ref a],[]⟩) (fun r s' =>r= .ok (.ret (.bool true))∧OldK bF.heap s'.heap∧s'.os=bF.os∧AllBare s'.gens) bF):
 WalkO q loose XP YP l.row.toRowW d [] (fun f vs=>PySem.call f vs):=by
 intro w fD bF mg mb G Y fa o pm cd doc dV kV ho hd Ao hD X4 hg args vals as Oa avJ hrd wC hlo;obtain rfl:dV= .none:=Dflts.none hD NZ;obtain rfl:kV= .none:=Dflts.noKw hD;obtain⟨a,vs,ns,rfl,rfl,V6,hints,hlen⟩:=Hg hn Oa wC;refine enter_call (codeAny_mono (call w fD bF mg mb fa o pm cd doc a vs ns G Y ho (fd_plain hd) Ao X4 V6 hints hlen hg) fun r s' hq=> ?_);obtain⟨rfl,h2,h3,h4⟩:=hq;exact⟨.inl ⟨.bool true,.bool true,[],rfl,fun _=>rfl,.bool true,HM l _,fun _=>⟨List.Pairwise.nil,fun _ hm=>(nomatch hm)⟩⟩,h2,h3,h4⟩
section
variable{prog:Program}{w:World}{A:Around}{E:Value→Shared→Prop}{s:Shared}{K:Frag}
def jaA(h:Heap)(L d:Addr):aL:=(List.range h.objs.size).filterMap fun a=>if a=L∨a=d then none else(h.get? a).map fun o=>(a,o)
end
end Att
namespace L2
open PySem PySem.Spec PyProof.Rows
theorem Aw:∀{vs:aA} {ns:List Int},IntsAre vs ns→Vals (ns.map V.int) vs
 |_,_,.nil=> .nil
 |_,_,.cons n t h=> .cons ⟨t,rfl⟩ (Aw h)
def xq(H:Hp):Prop:=∀b,H b=none∨∃o xs,H b=some (.gz o (.lst xs))
theorem JF{P:Program}{w:World}{K:Frag}{mg mb:Str→aH}{CX:Bl}{k:Nat}{fa a:Addr}{fd:FuncData}{x:Str}{sp:Sp}{bF:Shared}{vs:aA}{ns:List Int}
 (KX:K.In bF.heap) (hns:bF.heap.Ns mainGlobals mg) (hb:bF.heap.Ns builtinsNs mb) (hbb:∀x:Str,x≠ "__name__" →mb x=bootBuiltins x) (akZ:bF.heap.NoLimit) (hg:bF.gens= #[])
 (ha:bF.heap.get? a=some {cls:= .type "list",data:= .seq vs.toArray}) (hi:IntsAre vs ns) (hl:ns.length≤sizeLine) (hr:eT k callerA)
 (F:∀base:Heap,K.In base→base.Ns mainGlobals mg→aV P w K mg base CX k fa fd [x] sp) (Y5:∀(s:Shared) (u:Value),BindsTo s fd ⟨[u],[]⟩ [(x,u)])
 (NN:∀H:Hp,xq H→bB K H a (ns.map V.int)→sp [.ref a] H (fun v _=>v= .bl true) fun _ _ _=>False)
 (hCX:∀H e s',CX [] H bF (fun _ _ _=>False) e s'→False):
 codeAny (model P w) callerA (.call (.ref fa) ⟨[.ref a],[]⟩) (fun r s' =>r= .ok (.ret (.bool true))∧OldK bF.heap s'.heap∧s'.os=bF.os∧AllBare s'.gens) bF:=by
 have rv:=Aw hi;have ahj:=hi.length
 have core:∀H:Hp,xq H→bB K H a (ns.map V.int)→qE P w H bF.heap→(∀b,H b≠none→b=a)→(H a≠none→K.lookup a=none)→
  codeAny (model P w) callerA (.call (.ref fa) ⟨[.ref a],[]⟩) (fun r s' =>r= .ok (.ret (.bool true))∧OldK bF.heap s'.heap∧s'.os=bF.os∧AllBare s'.gens) bF:=by
  intro H hO hS bD hA hK;have Fy:∀{b:Addr} {o:Obj},bF.heap.get? b=some o→H b=none→(BS bF.heap H).get? b=some o:=fun e n=>Lw e n
  have noA:∀{b:Addr} {o:Obj} {es:Array DictEntry} {ep:Nat},bF.heap.get? b=some o→o.data= .dict es ep→H b=none:=fun{b o es ep} e d=>by
   cases q:H b with
   |none=>rfl
   |some u=>
    have e' :b=a:=hA b (by rw[q];simp);subst e';rw[ha] at e;cases e
    have d' :Data.seq vs.toArray _=Data.dict es ep:=d;cases d'
  have nsK:∀{b:Addr} {m:Str→aH},bF.heap.Ns b m→(BS bF.heap H).Ns b m:=fun{b m} ⟨o,es,ep,e,d,r⟩=>⟨o,es,ep,Fy e (noA e d),d,r⟩
  have hKb:K.In (BS bF.heap H):=fun b o e=>Fy (KX b o e) (by
   cases q:H b with
   |none=>rfl
   |some u=>
    have e' :b=a:=hA b (by rw[q];simp);subst e';rw[hK (by rw[q];simp)] at e;cases e)
  have hM:Mod K mg (BS bF.heap H):=⟨hKb,nsK hns,⟨mb,nsK hb,hbb⟩,let⟨mc,h1,h2⟩:=akZ;⟨mc,nsK h1,h2⟩⟩;have e0:wU P w K mg (BS bF.heap H) callerA [] bF H:=⟨rfl,hM,fun b o e=>OZ e,Nat.le_of_eq (Ic _ _),trivial,fun b hb=>absurd (show b∈([]:aZ) from hb) (by simp),bD,.of_eq hg⟩;refine codeAny_mono ((F _ hKb (nsK hns)).run callerA [] bF H ⟨[.ref a],[]⟩ [.ref a] [.ref a] _ _ hr e0 (Y5 bF (.ref a)) (.cons rfl .nil) (NN H hO hS)) fun r s' h=> ?_
  cases r with
  |error e=>exact(hCX H e s' h).elim
  |ok fl=>
   cases fl with
   |next=>exact False.elim h
   |brk=>exact False.elim h
   |cont=>exact False.elim h
   |ret u=>
    obtain⟨v,H',os,bare,un,ajt,r',q⟩:=h;have q' :v= .bl true:=q;subst q';obtain rfl:u=Value.bool true:=r';refine⟨rfl,OldK.of_keep fun b o e=> ?_,os,bare⟩
    cases q:H b with
    |none=>exact un.keep b o e q (by intro z;exact absurd (show b∈([]:aZ) from z) (by simp)) (by simp)
    |some u=>
     rcases hO b with z|⟨ob,xs,z⟩
     ·rw[q] at z;cases z
     ·have z2:=un.pH b ob _ z;obtain⟨e1,_⟩:=bD b _ z;obtain⟨e2,_⟩:=ajt b _ z2;rw[e] at e1;cases e1
      exact e2
 cases hk:K.lookup a with
 |some o=>
  have e:=KX a o hk;rw[ha] at e;cases e;refine core (fun _=>none) (fun _=> .inl rfl) (.inr ⟨_,vs.toArray,_,hk,rfl,rfl,rfl,by rw[List.size_toArray,ahj];exact hl,by simpa using rv⟩) (fun b u z=>by have z' :(none:Option HO)=some u:=z;cases z') (fun b z=>absurd rfl z) fun z=>absurd rfl z
 |none=>
  refine core (fun b=>if b=a then some (.gz {cls:= .type "list",data:= .seq vs.toArray} (.lst (ns.map V.int))) else none) (fun b=> ?_) (.inl (.inr ⟨{cls:= .type "list",data:= .seq vs.toArray},if_pos rfl⟩)) (fun b u z=> ?_) (fun b z=> ?_) fun _=>hk
  ·by_cases hb:b=a
   ·exact .inr ⟨_,_,if_pos hb⟩
   ·exact .inl (if_neg hb)
  ·by_cases hb:b=a
   ·have z' :=(if_pos hb).symm.trans z;cases z';subst hb;exact⟨ha,by rw[List.length_map];exact hl,vs,_,rv,ha⟩
   ·have z' :=(if_neg hb).symm.trans z;cases z'
  ·by_cases hb:b=a
   ·exact hb
   ·exact absurd (if_neg hb) z
theorem OW{l:PySem.W.OpenLaw}{n k:Nat}{q:Program}{loose:aX}{XP:(Str→aH)→Heap→Prop}{YP:World→Heap→Prop}{d:DefRec}{K:Params→Frag}{CX:World→Bl}{sp:World→Sp}{x:Str}
 (hn:l.most=some n) (W2:n≤sizeLine) (NZ:d.params.defaults=[]) (hr:eT k callerA)
 (hY:∀(w:World) (h:Heap),YP w h→(K w.params).In h)
 (F:∀(w:World) (mg:Str→aH) (fa:Addr) (h:Heap),(K w.params).In h→h.Ns mainGlobals mg→mg d.name=some (.ref fa)→
  ∃fd:FuncData,(∀(s:Shared) (u:Value),BindsTo s fd ⟨[u],[]⟩ [(x,u)])∧
   ∀base:Heap,(K w.params).In base→base.Ns mainGlobals mg→aV l.prog w (K w.params) mg base (CX w) k fa fd [x] (sp w))
 (NN:∀(w:World) (H:Hp) (a:Addr) (ns:List Int),ns.length≤n→xq H→bB (K w.params) H a (ns.map V.int)→sp w [.ref a] H (fun v _=>v= .bl true) fun _ _ _=>False)
 (hCX:∀(w:World) (H:Hp) (s:Shared) (e:Value) (s' :Shared),CX w [] H s (fun _ _ _=>False) e s'→False):
 PySem.W.WalkO q loose XP YP l.row.toRowW d [] (fun f vs=>PySem.call f vs):=by
 refine Att.DQ hn NZ fun w fD bF mg mb fa o pm cd doc a vs ns G Y ho hd Ao X4 V6 hints hlen hg=> ?_;have KX:=hY w _ Y;obtain⟨fd,hb,hF⟩:=F w mg fa _ KX G.T.g X4;exact JF KX G.T.g G.T.b G.T.builtins G.T.nolimit hg V6 hints (Nat.le_trans hlen W2) hr hF hb (fun H hO hS=>NN w H a ns hlen hO hS) fun H e s' =>hCX w H bF e s'
abbrev eJ:Bl:=fun _ _ _ _ _ _=>False
abbrev E0:XK:=fun _ _ _=>False
theorem aw{X:Cx}:wT eJ X E0:=fun _ _ _ _ _ _ _ h=>h.elim
structure fc(K:Frag)(x qual:Str)(st:Stmt)(f:Addr)(fd:FuncData):Prop where
 ex:∃(oc:Value) (od:Option Addr) (kV doc pm:Value) (an:Option Addr) (cG ct:Value) (IF:Array (aH)),
  fd=fnOf x qual (oC st) (kq st) (av st) .none kV doc pm an cG ct∧K.lookup f=some ⟨oc,od,.func fd,IF⟩∧PySem.W.codeIn K cG qual=true
 kp:PySem.W.keepIn K (.ref f)=true
section
variable{P:Program}{w:World}{K:Frag}{mg:Str→aH}{base:Heap}
theorem fc.ok{x qual:Str}{st:Stmt}{f:Addr}{fd:FuncData}{N ps:aX}{k:Nat}{sp:Sp}(F:fc K x qual st f fd)(S:aC N ps (av st))(len:∀vs H Q E,sp vs H Q E→vs.length=ps.length)
 (ll:∀(cG:Value) (A:Around) (outer:List Env) (s:Shared) (H:Hp) (vs:az) (Q:VK) (E:XK),eT k (A.deeper (envOfC qual (av st) s.heap.objs.size f cG))→sp vs H Q E→
  ∃t,yW (CA eJ P w K mg base N qual (av st) f cG A outer s H E).RQ (kq st) t∧t {nx:=fun _ H' =>Q .bJ H',rt:=Q} (zn N vs) H):aV P w K mg base eJ (k+1) f fd ps sp:=by
 obtain⟨oc,od,kV,doc,pm,an,cG,ct,IF,rfl,lk,Ao⟩:=F.ex;refine QI lk Ao S len fun A outer s H vs Q E hr NN=> ?_;obtain⟨t,h,q⟩:=ll cG A outer s H vs Q E hr NN;exact⟨t,h.RQ,q⟩
theorem fc.binds{x qual:Str}{st:Stmt}{f:Addr}{fd:FuncData}{ps:aX}(F:fc K x qual st f fd)
 (h:∀(kV doc pm:Value) (an:Option Addr) (cG ct:Value) (us:aA),us.length=ps.length→bindArgs (fnOf x qual (oC st) (kq st) (av st) .none kV doc pm an cG ct) ⟨us,[]⟩=pure (ps.zip us)):Binds K fd ps []:=by
 obtain⟨oc,od,kV,doc,pm,an,cG,ct,IF,rfl,lk,Ao⟩:=F.ex;exact .all (h kV doc pm an cG ct)
theorem US{x qual:Str}{st:Stmt}{f:Addr}{oc:Value}{od an:Option Addr}{IF:Array (aH)}{kV doc pm cG ct:Value}(l:K.lookup f=some ⟨oc,od,.func (fnOf x qual (oC st) (kq st) (av st) .none kV doc pm an cG ct),IF⟩)
 (c:PySem.W.codeIn K cG qual=true) (k:PySem.W.keepIn K (.ref f)=true):fc K x qual st f (fnOf x qual (oC st) (kq st) (av st) .none kV doc pm an cG ct):=⟨⟨oc,od,kV,doc,pm,an,cG,ct,IF,rfl,l,c⟩,k⟩
end
theorem dY{A:Around}{k:Nat}(hr:eT k A):A.units+1<cLine:=Nat.lt_of_le_of_lt (Nat.add_le_add_left (by decide:1≤64) _) hr.units
section
variable{X:Cx}
theorem pv(i:Nat){x:Str}{pos:Pos}(hN:X.N[i]? =some x:=by rfl)(hv:Vis X.env.scope x:=by first|exact Or.inl rfl|exact Or.inr (Or.inl rfl)|exact Or.inr (Or.inr rfl))(hd:(x==("__debug__" :Str))=false:=by decide)
 (Ao:(x==("__classdict__" :Str))=false:=by decide):PE X (.Name x pos) (ZS i):=Wu hN hv hd Ao
end
theorem g9{A B:Prop}(h:B):if false=true then A else B:=by
 rw[if_neg Bool.false_ne_true];exact h
theorem ka{A B:Prop}(h:A):if true=true then A else B:=by
 rw[if_pos rfl];exact h
theorem zm{c A B:Prop}[Decidable c](h1:c→A)(h2:¬c→B):if c then A else B:=by
 by_cases h:c
 ·rw[if_pos h];exact h1 h
 ·rw[if_neg h];exact h2 h
def au(H H' :Hp):Prop:=∀b o,H b=some o→H' b=some o
theorem au.refl(H:Hp):au H H:=fun _ _ h=>h
theorem au.trans{H H1 H2:Hp}(a:au H H1)(b:au H1 H2):au H H2:=fun c o h=>b c o (a c o h)
theorem au.free{H H' :Hp}(e:au H H'){l:Addr}(h:H' l=Option.none):H l=Option.none:=by
 cases q:H l with
 |none=>rfl
 |some o=>
  rw[e l o q] at h;cases h
theorem au.seq{K:Frag}{H H' :Hp}{a:Addr}{xs:az}(e:au H H')(h:bB K H a xs):bB K H' a xs:=by
 rcases h with(h|⟨o,h⟩)|h
 ·exact .inl (.inl (e _ _ h))
 ·exact .inl (.inr ⟨o,e _ _ h⟩)
 ·exact .inr h
section
variable{κ:Type}[DecidableEq κ]
end
def nS(env:Env):List (Str×NameKind)→List (Str×Addr)→List (Str×Addr)
 |[],acc=>acc
 |y::r,acc=>nS env r (if(y.2==NameKind.free)=true then(y.1,(env.cells.lookup y.1).getD 0)::acc else acc)
theorem xb{env:Env}:∀(ns:List (Str×NameKind)) (acc:List (Str×Addr)),(∀y∈ns,y.2= .free→∃c,env.cells.lookup y.1=some c)→
 (forIn ns acc fun(x:Str×NameKind) (cs:List (Str×Addr))=>if(x.2==NameKind.free)=true then(cellOf env x.1>>= fun a=>pure (ForInStep.yield ((x.1,a)::cs))) else(pure (ForInStep.yield cs):Sem (ForInStep (List (Str×Addr)))))=pure (nS env ns acc)
 |[],acc,_=>rfl
 |y::r,acc,h=>by
  rw[List.forIn_cons];have ih:=fun a=>xb r a fun z hz=>h z (List.mem_cons_of_mem _ hz);by_cases hk:(y.2==NameKind.free)=true
  ·obtain⟨c,hc⟩:=h y List.mem_cons_self (eq_of_beq hk);have e:cellOf env y.1=pure c:=by unfold cellOf;rw[hc]
   rw[if_pos hk,e];show(forIn r ((y.1,c)::acc) _:Sem (List (Str×Addr)))=_;rw[ih];show pure (nS env r ((y.1,c)::acc))=pure (nS env r (if(y.2==NameKind.free)=true then(y.1,(env.cells.lookup y.1).getD 0)::acc else acc));rw[if_pos hk,hc];rfl
  ·rw[if_neg hk];show(forIn r acc _:Sem (List (Str×Addr)))=_;rw[ih];show pure (nS env r acc)=pure (nS env r (if(y.2==NameKind.free)=true then(y.1,(env.cells.lookup y.1).getD 0)::acc else acc));rw[if_neg hk]
theorem yf{scope:Scope}{env:Env}(h:∀y∈scope.names,y.2= .free→∃c,env.cells.lookup y.1=some c):closureFor scope env=pure (nS env scope.names []):=by
 have q:=xb (env:=env) scope.names [] h;have e:closureFor scope env=((forIn scope.names ([]:List (Str×Addr)) fun(x:Str×NameKind) (cs:List (Str×Addr))=>if(x.2==NameKind.free)=true then(cellOf env x.1>>= fun a=>pure (ForInStep.yield ((x.1,a)::cs))) else(pure (ForInStep.yield cs):Sem (ForInStep (List (Str×Addr)))))>>= fun cs=>pure cs):=rfl;rw[e,q];rfl
theorem uL{env:Env}:∀(ns:List (Str×NameKind)) (acc:List (Str×Addr)) {x:Str} {c:Addr},(∀y∈ns,y.2= .free→∃c,env.cells.lookup y.1=some c)→(nS env ns acc).lookup x=some c→env.cells.lookup x=some c∨acc.lookup x=some c
 |[],acc,x,c,_,h=> .inr h
 |y::r,acc,x,c,h,e=>by
  have e:(nS env r (if(y.2==NameKind.free)=true then(y.1,(env.cells.lookup y.1).getD 0)::acc else acc)).lookup x=some c:=e;rcases uL r _ (fun z hz=>h z (List.mem_cons_of_mem _ hz)) e with q|q
  ·exact .inl q
  ·by_cases hk:(y.2==NameKind.free)=true
   ·rw[if_pos hk,List.lookup_cons] at q;obtain⟨d,hd⟩:=h y List.mem_cons_self (eq_of_beq hk)
    cases hx:x==y.1 with
    |true=>
     rw[hx] at q;dsimp only at q;rw[hd] at q;have hxy:x=y.1:=eq_of_beq hx;subst hxy;exact .inl (hd.trans q)
    |false=>
     rw[hx] at q;exact .inr q
   ·rw[if_neg hk] at q;exact .inr q
theorem u5{env:Env}:∀(ns:List (Str×NameKind)) (acc:List (Str×Addr)) {x:Str},((x,NameKind.free)∈ns∨∃c,acc.lookup x=some c)→∃c,(nS env ns acc).lookup x=some c
 |[],acc,x,h=>by
  rcases h with h|h
  ·cases h
  ·exact h
 |y::r,acc,x,h=>by
  show ∃c,(nS env r (if(y.2==NameKind.free)=true then(y.1,(env.cells.lookup y.1).getD 0)::acc else acc)).lookup x=some c;refine u5 r _ ?_;rcases h with h|⟨c,hc⟩
  ·rcases List.mem_cons.mp h with e|h
   ·subst e;refine .inr ⟨(env.cells.lookup x).getD 0,?_⟩;rw[if_pos (by rfl),List.lookup_cons,beq_self_eq_true]
   ·exact .inl h
  ·by_cases hk:(y.2==NameKind.free)=true
   ·rw[if_pos hk]
    cases hx:x==y.1 with
    |true=>exact .inr ⟨_,by rw[List.lookup_cons,hx]⟩
    |false=>exact .inr ⟨c,by rw[List.lookup_cons,hx];exact hc⟩
   ·rw[if_neg hk];exact .inr ⟨c,hc⟩
theorem oz{env:Env}{x:Str}{k:NameKind}:∀(ns:List (Str×NameKind)),(ns.map fun(n,k)=>if(k==NameKind.free&&env.scope.kind== .function&&env.kindOf n==some .cell) then(n,NameKind.cell) else(n,k)).lookup x=some k→
 ns.lookup x=some k∨(ns.lookup x=some .free∧k= .cell)
 |[],h=>by cases h
 |(n,j)::r,h=>by
  have ih:=oz (env:=env) (x:=x) (k:=k) r;rw[List.map_cons] at h;dsimp only at h;by_cases hc:(j==NameKind.free&&env.scope.kind== .function&&env.kindOf n==some .cell)=true
  ·rw[if_pos hc,List.lookup_cons] at h;rw[List.lookup_cons]
   cases hx:x==n with
   |true=>
    rw[hx] at h
    have hj:(j==NameKind.free)=true:=by
     rw[Bool.and_eq_true,Bool.and_eq_true] at hc;exact hc.1.1
    have hj:=eq_of_beq hj;subst hj;exact .inr ⟨rfl,(Option.some.inj h).symm⟩
   |false=>
    rw[hx] at h;exact ih h
  ·rw[if_neg hc,List.lookup_cons] at h;rw[List.lookup_cons]
   cases hx:x==n with
   |true=>
    rw[hx] at h;exact .inl h
   |false=>
    rw[hx] at h;exact ih h
theorem ue{env:Env}{x:Str}:∀(ns:List (Str×NameKind)),ns.lookup x=some .free→
 (ns.map fun(n,k)=>if(k==NameKind.free&&env.scope.kind== .function&&env.kindOf n==some .cell) then(n,NameKind.cell) else(n,k)).lookup x=some .cell∨
 (ns.map fun(n,k)=>if(k==NameKind.free&&env.scope.kind== .function&&env.kindOf n==some .cell) then(n,NameKind.cell) else(n,k)).lookup x=some .free
 |[],h=>by cases h
 |(n,j)::r,h=>by
  have ih:=ue (env:=env) (x:=x) r;rw[List.map_cons];dsimp only;rw[List.lookup_cons] at h;by_cases hc:(j==NameKind.free&&env.scope.kind== .function&&env.kindOf n==some .cell)=true
  ·rw[if_pos hc,List.lookup_cons]
   cases hx:x==n with
   |true=>exact .inl rfl
   |false=>
    rw[hx] at h;exact ih h
  ·rw[if_neg hc,List.lookup_cons]
   cases hx:x==n with
   |true=>
    rw[hx] at h;exact .inr h
   |false=>
    rw[hx] at h;exact ih h
def lg(X:Cx)(N:aX)(scope:Scope)(cl:List (Str×Addr))(C:Addr)(s:Shared)(H:Hp)(fp:aZ):Cx where
 prog:=X.prog
 w:=X.w
 K:=X.K
 mg:=X.mg
 base:=X.base
 A:=X.A
 N:=N
 fD:=s
 H₀:=H
 env:=compEnvC scope cl C X.env
 outer:=X.stack
 stack:=X.stack
 ex:=fp
 fn:=fun _=>false
 calm:=X.calm
 pn:=[]
 xe:=fun _ _=>False
def v7(k:Nat)(js:List Nat)(σ:St):St:=List.replicate k none++js.map fun j=>σ.getD j none
structure sF(X:Cx)(N:aX)(scope:Scope)(k:Nat)(js:List Nat):Prop where
 kind:scope.kind= .function
 cell:∀y∈scope.names,y.2≠.cell
 loc:∀y∈scope.names,y.2= .local→scope.names.lookup y.1=some .local
 free:∀y∈scope.names,y.2= .free→X.env.kindOf y.1=some .cell∨X.env.kindOf y.1=some .free
 len:N.length=k+js.length
 names:∀(i j:Nat),js[i]? =some j→X.N[j]? =N[k+i]?
 js:∀(i:Nat) (x:Str),N[k+i]? =some x→scope.names.lookup x=some .free
section
variable{X:Cx}{pins:aL}{σ:St}{H:Hp}{s:Shared}{N:aX}{scope:Scope}{k:Nat}{js:List Nat}
theorem sF.cells(S:sF X N scope k js)(ok:X.Ok):∀y∈scope.names,y.2= .free→∃c,X.env.cells.lookup y.1=some c:=fun y hy hf=>ok.has _ (S.free y hy hf)
theorem Me{fp:aZ}{h1:Heap}{t1:Nat}(I:Inv X pins σ H s)(S:sF X N scope k js)(f:∀b∈fp,u2 X pins H b)(fo:∀b∈fp,∃o,s.heap.get? b=some o)
 (hn:h1.Ns s.heap.objs.size fun _=>none) (hk:∀b o,s.heap.get? b=some o→h1.get? b=some o):
 Inv (lg X N scope (nS X.env scope.names []) s.heap.objs.size s H fp) [] (v7 k js σ) H {s with heap:=h1,toks:=t1}:=by
 have cs:=S.cells I.ok
 have R9:∀{x:Str} {c:Addr},(nS X.env scope.names []).lookup x=some c→X.env.cells.lookup x=some c:=fun{x c} e=>by
  rcases uL scope.names [] cs e with q|q
  ·exact q
  ·cases q
 refine⟨⟨I.ok.mod,S.kind,I.ok.glob,I.ok.blt,Nat.le_refl _,fun x y c e1 e2=>I.ok.inj x y c (R9 e1) (R9 e2),fun x hx=> ?_,fun x c hf _=>(nomatch hf),I.ok.hd,I.ok.frames,.inl rfl,fun b hb=>⟨?_,fun x c e=> ?_⟩,I.bs,
  Nat.le_trans I.ok.Ih I.sz,fun b o e hb=> ?_,fun b hb z=> ?_,I.stack,I.wj⟩,rfl,I.bare,Un.kept hk,⟨_,hn,fun i x v e1 e2 e3=> ?_⟩,fun x c e=> ?_,I.bD.fresh (Nat.le_refl _),fun x c e=>I.jf x c (R9 e),fun p hp=> ?_,I.bD.kept hk,?_⟩
 ·have hx:(relabel scope X.env).names.lookup x=some .cell∨(relabel scope X.env).names.lookup x=some .free:=hx
  have fr:scope.names.lookup x=some .free:=by
   rcases hx with q|q
   ·rcases oz scope.names q with z|z
    ·exact absurd rfl (S.cell _ (PySem.mem_of_lookup z))
    ·exact z.1
   ·rcases oz scope.names q with z|z
    ·exact z
    ·exact z.1
  exact u5 scope.names [] (.inl (PySem.mem_of_lookup fr))
 ·obtain⟨o,ho⟩:=fo b hb;exact Nat.ne_of_lt (Heap.lt_size ho)
 ·exact(f b hb).2.2.2.2.1 x c (R9 e)
 ·rcases(f b hb).2.2.2.1 with z|z
  ·exact I.ok.EF b o e z
  ·exact absurd (Nat.lt_of_lt_of_le (Nat.lt_of_lt_of_le (Heap.lt_size e) I.ok.Ih) z) (Nat.lt_irrefl _)
 ·rcases List.mem_cons.mp (I.AO b z) with q|q
  ·exact(f b hb).2.1 q
  ·exact(f b hb).2.2.1 q
 ·have e1:N[i]? =some x:=e1
  have hi:k≤i:=by
   by_cases hi:i<k
   ·unfold v7 at e2;rw[List.getElem?_append_left (by rw[List.length_replicate];exact hi),List.getElem?_replicate,if_pos hi] at e2;cases e2
   ·omega
  obtain⟨d,rfl⟩:∃d,i=k+d:=⟨i - k,by omega⟩;unfold v7 at e2;rw[List.getElem?_append_right (by rw[List.length_replicate];omega),List.length_replicate,List.getElem?_map] at e2;have ed:k+d - k=d:=by omega
  rw[ed] at e2
  cases ej:js[d]? with
  |none=>rw[ej] at e2;cases e2
  |some j=>
   rw[ej] at e2;have e2:σ.getD j none=some v:=Option.some.inj e2
   have e2' :σ[j]? =some (some v):=by
    rw[List.getD_eq_getElem?_getD] at e2
    cases q:σ[j]? with
    |none=>rw[q] at e2;cases e2
    |some z=>rw[q] at e2;rw[show z=some v from e2]
   have en:X.N[j]? =some x:=(S.names d j ej).trans e1;have fr:=S.js d x e1;have kx:=S.free _ (PySem.mem_of_lookup fr) rfl;obtain⟨m,_,hl⟩:=I.loc;obtain⟨u,r,l⟩:=hl j x v en e2' (by rcases kx with q|q;exact .inr (.inl q);exact .inr (.inr q));refine⟨u,r,.inr ⟨?_,?_⟩⟩
   ·exact ue (env:=X.env) scope.names fr
   ·rcases l with⟨l,_⟩|⟨_,c,ec,ic⟩
    ·rcases kx with q|q
     ·dsimp only at q;rw[q] at l;cases l
     ·dsimp only at q;rw[q] at l;cases l
    ·obtain⟨c',e'⟩:=u5 (env:=X.env) scope.names [] (.inl (PySem.mem_of_lookup fr));have e'' :=R9 e';rw[ec] at e'';cases e'';exact⟨c,e',ic.keeps hk⟩
 ·obtain⟨v,q⟩:=I.cell x c (R9 e);exact⟨v,q.keeps hk⟩
 ·have hp:p∈([]:aL):=hp;cases hp
 ·show(v7 k js σ).length=N.length;unfold v7;rw[List.length_append,List.length_replicate,List.length_map,S.len]
end
def gk(σ cK :St):Prop:=∀(i:Nat) v,σ[i]? =some (some v)→cK[i]? =some (some v)
theorem gk.refl(σ:St):gk σ σ:=fun _ _ h=>h
theorem gk.own{σ cK :St}{k i:Nat}{js:List Nat}{v:Option V}(h:gk (v7 k js σ) cK)(hi:i<k):gk (v7 k js σ) (cK.set i v):=fun j u e=>by
 have hj:j≠i:=fun z=>by
  subst z;unfold v7 at e;rw[List.getElem?_append_left (by rw[List.length_replicate];exact hi),List.getElem?_replicate,if_pos hi] at e;cases e
 rw[List.getElem?_set_ne (Ne.symm hj)];exact h j u e
def mY(J:It)(k:Nat)(js:List Nat)(g:TG)(tt:TT)(te:TE)(σ:St)(H1:Hp)(Q:VK):Prop:=∀p,H1 p=none→∃W:Nat→Nat→az→Hp→Prop,(∃m,W 0 m [] (upd H1 p (.lst [])))∧
 ∀i m ys H,W i m ys H→H p=some (.lst ys)∧((J.stop i H∧Q (.ref p) H)∨(J.go i H∧ys.length<sizeLine∧∀x H',J.wd i H x H'→g x (v7 k js σ) H' fun nT H2=>gk (v7 k js σ) nT∧tt nT H2 fun b H3=>
  if b=true then te nT H3 fun y H4=>H4 p=some (.lst ys)∧∃m',m' <m∧W (i+1) m' (ys++[y]) (upd H4 p (.lst (ys++[y]))) else ∃m',m' <m∧W (i+1) m' ys H3))
def RS(wi:TI)(k:Nat)(js:List Nat)(g:TG)(tt:TT)(te:TE):TE:=fun σ H Q=>wi σ H fun J H1=>mY J k js g tt te σ H1 Q
def VW:TT:=fun _ H Q=>Q true H
def LM(Y:Cx)(ifs:cR)(t:TT):Prop:=
 ∀(pins:aL) (s:Shared) (σ:St) (H:Hp) (Q:Bool→Hp→Prop),Inv Y pins σ H s→t σ H Q→
  wpAny (model Y.prog Y.w) Y.A (forIn ifs true fun c r=>if r=true then do let ok←isTrue c Y.env (eval c Y.env);pure (ForInStep.yield ok) else pure (ForInStep.yield r)) (TP Y pins σ Q) Y.xe s
theorem zq{Y:Cx}:LM Y [] VW:=fun _ _ _ H _ I h=>wpAny_tests_nil ⟨H,I,h⟩
theorem AD{Y:Cx}{c:Expr}{t:TT}(h:PT Y c t):LM Y [c] t:=fun pins s σ H Q I hq=>wpAny_tests_one (h pins s σ H Q I hq)
section
variable{prog:Program}{w:World}{A:Around}{R:Result→Shared→Prop}{s:Shared}
theorem AQ{elt target iter:Expr}{ifs:cR}{scope:Scope}{pos:Pos}{it acc:Value}{env:Env}(I:Nat→Shared→Prop)
 (turn:∀n s,I n s→wpAny (model prog w) A (pyNext it) (fun r bF=>match r with
  |none=>R (.ok .next) bF
  |some v=>wpAny (model prog w) A (letOwnedTupleGo target it v) (fun _ fD=>wpAny (model prog w) A (assign target env v) (fun _ qk=>
   wpAny (model prog w) A (forIn ifs true fun c r=>if r=true then do let ok←isTrue c env (eval c env);pure (ForInStep.yield ok) else pure (ForInStep.yield r)) (fun ok vV=>
    if ok=true then wpAny (model prog w) A (eval elt env) (fun x O5=>
     wpAny (model prog w) A (call (.builtin "list.append") [acc,x]) (fun _ aaX=>∃m,m<n∧I m aaX) (fun _ _=>False) O5) (fun _ _=>False) vV
    else ∃m,m<n∧I m vV) (fun _ _=>False) qk) (fun _ _=>False) fD) (fun _ _=>False) bF) (fun _ _=>False) s)
 (n:Nat) (h:I n s):
 codeAny (model prog w) A (.compLoop (.ListComp elt [⟨target,iter,ifs,0⟩] scope pos) 0 it acc env) R s:=by
 refine codeAny_loop rfl I (fun n s hI=> ?_) n h;show wpAny _ A ((compTurn (.ListComp elt [⟨target,iter,ifs,0⟩] scope pos) 0 it acc env).onRaise (fun x=>do noteFrame x env;theTreesLotGoes x)) _ _ s;refine wpAny_noted ?_;rw[compTurn_list];refine wpAny_bind (wpAny_standAt (wpAny_bind (wpAny_mono (turn n s hI) (fun r bF i5=> ?_) fun _ _ h' =>h'.elim)))
 cases r with
 |none=>exact wpAny_pure i5
 |some v=>
  refine wpAny_bind (wpAny_mono i5 (fun _ fD h₀=> ?_) fun _ _ h' =>h'.elim);refine wpAny_bind (wpAny_mono h₀ (fun _ qk Kd=>wpAny_bind (wpAny_mono Kd (fun ok vV PH=> ?_) fun _ _ h' =>h'.elim)) fun _ _ h' =>h'.elim)
  cases ok with
  |false=>exact wpAny_pure ⟨rfl,PH⟩
  |true=>
   exact wpAny_bind (wpAny_bind (wpAny_mono PH (fun x O5 ao1=>wpAny_bind (wpAny_mono ao1 (fun _ aaX aj1=>wpAny_pure (wpAny_pure ⟨rfl,aj1⟩)) fun _ _ h' =>h'.elim)) fun _ _ h' =>h'.elim))
end
section
variable{X:Cx}{tg iter elt:Expr}{ifs:cR}{scope:Scope}{pos:Pos}{N:aX}{k:Nat}{js:List Nat}{wi:TI}{g:TG}{tt:TT}{te:TE}
theorem An{pins:aL}{s2:Shared}{σ:St}{H2:Hp}{it:Addr}{fp:aZ}{tn:Nat→Heap→Prop}{J:It}{Q:VK}{RR:Value→Addr→Result→Shared→Prop}{E:Value→Shared→Prop}(hc:X.calm=true)(S:sF X N scope k js)
 (hb:∀(cl:List (Str×Addr)) (C:Addr) (s:Shared) (H:Hp) (fp:aZ),PG (lg X N scope cl C s H fp) tg g∧LM (lg X N scope cl C s H fp) ifs tt∧PE (lg X N scope cl C s H fp) elt te)
 (I2:Inv X pins σ H2 s2) (T:Turn X.prog X.w X.K tg J fp it tn) (Pe:tn 0 s2.heap) (f2:∀b∈fp,u2 X pins H2 b)
 (h:∀p,H2 p=none→∃W:Nat→Nat→az→Hp→Prop,(∃m,W 0 m [] (upd H2 p (.lst [])))∧
  ∀i m ys H,W i m ys H→H p=some (.lst ys)∧((J.stop i H∧Q (.ref p) H)∨(J.go i H∧ys.length<sizeLine∧∀x H',J.wd i H x H'→g x (v7 k js σ) H' fun nT H2=>gk (v7 k js σ) nT∧tt nT H2 fun b H3=>
   if b=true then te nT H3 fun y H4=>H4 p=some (.lst ys)∧∃m',m' <m∧W (i+1) m' (ys++[y]) (upd H4 p (.lst (ys++[y]))) else ∃m',m' <m∧W (i+1) m' ys H3)))
 (hR:∀(p C:Addr) (s' :Shared) (H' :Hp) (m:Str→aH),Inv X pins σ H' s'→Q (.ref p) H'→s'.heap.Ns C m→H' C=none→C≠X.env.locals→X.fD.heap.objs.size≤C→(∀x c,X.env.cells.lookup x=some c→c≠C)→(∀q∈X.pn++pins,q.1≠C)→RR (.ref p) C (.ok .next) s'):
 wpAny (model X.prog X.w) X.A (newList []) (fun acc vV=>wpAny (model X.prog X.w) X.A (newFunctionEnv scope X.env.globals (nS X.env scope.names []) [] X.env.qual none .none (some X.env)) (fun aaI O5=>
  codeAny (model X.prog X.w) X.A (.compStart (.ListComp elt [⟨tg,iter,ifs,0⟩] scope pos) 0 (.ref it) acc {aaI with scope:=relabel scope X.env}) (RR acc aaI.locals) O5) E vV) E s2:=by
 have hf:H2 s2.heap.objs.size=none:=I2.bD.fresh (Nat.le_refl _);obtain⟨W,⟨m0,w0⟩,turn⟩:=h s2.heap.objs.size hf;have I3:Inv X pins σ (upd H2 s2.heap.objs.size (.lst [])) {s2 with heap:=s2.heap.push {cls:= .type "list",dict:=none,data:= .seq ([]:aA).toArray},toks:=s2.toks}:=I2.Wq (ys:=[]) .nil (Nat.zero_le _);refine wpAny_newObj_type (wpAny_newFunctionEnv S.cell (by intro y hy;simp at hy) (fun i5 EB E6=> ?_) S.kind);dsimp only at EB E6 ⊢;generalize hp:s2.heap.objs.size=p at*
 generalize Xx:s2.heap.push {cls:= .type "list",dict:=none,data:= .seq ([]:aA).toArray}=g3 at EB E6 I3 ⊢;have WR:∀b o,s2.heap.get? b=some o→g3.get? b=some o:=fun b o e=>Xx▸Heap.get?_push_of_some _ e;have WM:∀b o,g3.get? b=some o→i5.get? b=some o:=fun b o e=>E6.extBut b o (Nat.ne_of_lt (Heap.lt_size e)) (Heap.get?_push_of_some _ e)
 have npf:∀b∈fp,b≠p:=fun b hb z=>by
  obtain⟨o,ho,_⟩:=T.obj _ _ Pe b hb;have:=Heap.lt_size ho;rw[hp,z] at this;exact Nat.lt_irrefl _ this
 have f3:∀b∈fp,u2 X pins (upd H2 p (.lst [])) b:=fun b hb=>⟨by rw[af (npf b hb)];exact(f2 b hb).1,(f2 b hb).2⟩
 have fo3:∀b∈fp,∃o,g3.get? b=some o:=fun b hb=>by
  obtain⟨o,ho,_⟩:=T.obj _ _ Pe b hb;exact⟨o,WR b o ho⟩
 have J0:=Me (s:={s2 with heap:=g3,toks:=s2.toks}) (h1:=i5) (t1:=s2.toks+([]:List (Str×Value)).length) I3 S f3 fo3 EB WM;have st4:tn 0 i5:=T.keep _ _ _ Pe fun b hb o e=>WM b o (WR b o e);obtain⟨hG,hT,hE⟩:=hb (nS X.env scope.names []) g3.objs.size {s2 with heap:=g3,toks:=s2.toks} (upd H2 p (.lst [])) fp
 generalize hY:lg X N scope (nS X.env scope.names []) g3.objs.size {s2 with heap:=g3,toks:=s2.toks} (upd H2 p (.lst [])) fp=Y at*
 have yp:Y.prog=X.prog:=by rw[←hY];rfl
 have yw:Y.w=X.w:=by rw[←hY];rfl
 have yK:Y.K=X.K:=by rw[←hY];rfl
 have yA:Y.A=X.A:=by rw[←hY];rfl
 have yc:Y.calm=true:=by rw[←hY];exact hc
 have yx:Y.xe=fun _ _=>False:=by rw[←hY];rfl
 have ye:Y.env=compEnvC scope (nS X.env scope.names []) g3.objs.size X.env:=by rw[←hY];rfl
 have ypn:Y.pn=[]:=by rw[←hY];rfl
 have yex:Y.ex=fp:=by rw[←hY];rfl
 have yfs:Y.fs=wz X.stack:=by rw[←hY];rfl
 have R9:∀{x:Str} {c:Addr},(nS X.env scope.names []).lookup x=some c→X.env.cells.lookup x=some c:=fun{x c} e=>by
  rcases uL scope.names [] (S.cells I2.ok) e with q|q
  ·exact q
  ·cases q
 have EO:∀{H' :Hp},(∀b∈fp,H' b=none)→∀b∈fp,u2 Y [] H' b:=fun hn b hb=>by
  refine⟨hn b hb,?_,?_,?_,fun x c e=> ?_,fun q hq=> ?_⟩
  ·rw[ye];obtain⟨o,ho⟩:=fo3 b hb;exact Nat.ne_of_lt (Heap.lt_size ho)
  ·rw[yfs];intro z;rcases List.mem_cons.mp (I2.AO b z) with q|q
   ·exact(f2 b hb).2.1 q
   ·exact(f2 b hb).2.2.1 q
  ·rw[yex];exact .inl hb
  ·rw[ye] at e;exact(f2 b hb).2.2.2.2.1 x c (R9 e)
  ·rw[ypn] at hq;cases hq
 have alC:∀{cK :St} {H' :Hp} {s' :Shared},Inv Y [] cK H' s'→Q (.ref p) H'→RR (.ref p) g3.objs.size (.ok .next) s' :=fun{cK H' s'} I' q=>by
  have u:=I'.base;have ho:=I'.os;rw[yfs,yex] at u;subst hY;have IX:Inv X pins σ H' s' :=I3.TV (ch:=fp) ho u I'.bD I'.bare fun b hb=>⟨(f2 b hb).2.2.2.1,(f2 b hb).2.1,(f2 b hb).2.2.2.2.1,(f2 b hb).2.2.2.2.2⟩;obtain⟨m,hn,_⟩:=I'.loc;refine hR p g3.objs.size s' H' m IX q hn I'.free (fun z=> ?_) (Nat.le_trans I3.sz (Nat.le_refl _)) (fun x c e z=> ?_) fun r hr z=> ?_
  ·exact absurd (z▸I3.lt) (Nat.lt_irrefl _)
  ·obtain⟨v,o,ho,_⟩:=I3.cell x c e;exact absurd (z▸Heap.lt_size ho) (Nat.lt_irrefl _)
  ·obtain⟨ho,_⟩:=I3.pin r hr;exact absurd (z▸Heap.lt_size ho) (Nat.lt_irrefl _)
 have loop:codeAny (model X.prog X.w) X.A (.compLoop (.ListComp elt [⟨tg,iter,ifs,0⟩] scope pos) 0 (.ref it) (.ref p) (compEnvC scope (nS X.env scope.names []) g3.objs.size X.env)) (RR (.ref p) g3.objs.size) {s2 with heap:=i5,toks:=s2.toks+([]:List (Str×Value)).length}:=by
  refine AQ (fun n s' =>∃i ys H',Inv Y [] (v7 k js σ) H' s'∧tn i s'.heap∧(∀b∈fp,H' b=none)∧W i n ys H') ?_ m0 ⟨0,[],_,J0,st4,fun b hb=>(f3 b hb).1,w0⟩
  rintro n s5 ⟨i,ys,H5,I5,Xq,WO,w5⟩
  obtain⟨hys,w5⟩:=turn i n ys H5 w5;rw[←yp,←yw,←yA,←ye];have T' :Turn Y.prog Y.w Y.K tg J fp it tn:=by rw[yp,yw,yK];exact T
  rcases w5 with⟨stop,q⟩|⟨go,hz,step⟩
  ·refine cm (T'.done Y rfl rfl rfl yc i [] s5 _ H5 _ I5 (EO WO) Xq stop) fun r s6 ⟨hr,I6⟩=> ?_;subst hr;exact alC I6 q
  ·refine cm (T'.item Y rfl rfl rfl yc i [] s5 _ H5 _ I5 (EO WO) Xq go) fun r s6 ⟨u,hr,h6⟩=> ?_;subst hr;refine cm h6 fun _ s7 ⟨x,H7,I7,r7,y7,st7,fr7⟩=> ?_;have I7' :=I7.pinned (EO fr7) (T.obj _ _ st7)
   have fin:∀{UY:St} {H8:Hp} {s8:Shared},gk (v7 k js σ) UY→Inv Y ([]++xx fp s7.heap) UY H8 s8→Inv Y [] (v7 k js σ) H8 s8∧tn (i+1) s8.heap∧∀b∈fp,H8 b=none:=fun{UY H8 s8} sb I8=>by
    refine⟨?_,T.keep _ _ _ st7 fun b hb o e=>(I8.pin (b,o) (List.mem_append_right _ (List.mem_append_right _ (pj hb e)))).1,fun b hb=> ?_⟩
    ·exact(I8.tE (pins:=[])).weak (by rw[I5.len,I8.len]) sb
    ·obtain⟨o,e,d⟩:=T.obj _ _ st7 b hb;exact(I8.pin (b,o) (List.mem_append_right _ (List.mem_append_right _ (pj hb e)))).2.1
   have wE:∀{α:Type} {t:Sem α} {P:α→Shared→Prop} {s' :Shared},wpAny (model Y.prog Y.w) Y.A t P Y.xe s'→wpAny (model Y.prog Y.w) Y.A t P (fun _ _=>False) s' :=fun{α t P s'} h=>by rw[yx] at h;exact h
   refine cm (wE (hG _ s7 _ H7 x u _ I7' r7 (step x H7 y7))) fun _ s8 ⟨UY,H8,I8,sb,q8⟩=> ?_;refine cm (wE (hT _ s8 UY H8 _ I8 q8)) fun b s9 ⟨H9,I9,q9⟩=> ?_
   cases b with
   |false=>
    have q9:∃m',m' <n∧W (i+1) m' ys H9:=q9;obtain⟨m',hm,w9⟩:=q9;obtain⟨a1,a2,a3⟩:=fin sb I9;exact⟨m',hm,i+1,ys,H9,a1,a2,a3,w9⟩
   |true=>
    refine cm (wE (hE _ s9 UY H9 _ I9 q9)) fun y Eu ⟨v,Fp,I10,r10,O9,m',hm,w10⟩=> ?_;refine cm (wE (eW _ Eu UY Fp (.ref p) [v] (.ref p) [y] (fun _ NT=>∃m',m' <n∧W (i+1) m' (ys++[v]) NT) I10 rfl (.cons r10 .nil) ⟨p,ys,v,rfl,rfl,O9,hz,m',hm,w10⟩)) fun z NX ⟨_,NT,I11,_,m2,hm2,w11⟩=> ?_;obtain⟨a1,a2,a3⟩:=fin sb I11;exact⟨m2,hm2,i+1,ys++[v],NT,a1,a2,a3,w11⟩
 refine codeAny_compStart_list loop ?_;exact T.self _ _ _ _ _ st4 loop
theorem dn(hc:X.calm=true)(S:sF X N scope k js)(hi:PI X tg iter wi)
 (hb:∀(cl:List (Str×Addr)) (C:Addr) (s:Shared) (H:Hp) (fp:aZ),PG (lg X N scope cl C s H fp) tg g∧LM (lg X N scope cl C s H fp) ifs tt∧PE (lg X N scope cl C s H fp) elt te)
 (hs:∀x,foldedSetIterable iter X.env x=pure x:=by intro _;rfl):PE X (.ListComp elt [⟨tg,iter,ifs,0⟩] scope pos) (RS wi k js g tt te):=by
 intro pins s σ H Q I h;rw[eval_ListComp];refine wpAny_comprehension_free (use:=none) rfl hs (yf (S.cells I.ok)) S.kind S.loc (cm (hi pins s σ H _ I h) fun v s1 h1=>cm h1 fun itv s2 h2=> ?_);obtain⟨it,fp,tn,J,H2,e,I2,T,Pe,f2,q⟩:=h2;subst e;refine An (RR:=fun acc C=>compPost (model X.prog X.w) X.A X.xe none (EP X pins σ Q) acc C) hc S hb I2 T Pe f2 q ?_;intro p C s' H' m IX q' hn hC hL h0 vk Nb;refine⟨m,hn,fun h' sb=>⟨.ref p,H',?_,rfl,q'⟩⟩;exact IX.turned (t' :=s'.toks) (fun b o hb e=>(sb.2 b hb).trans e) hC (Ne.symm hL).symm (.inr h0) vk Nb
theorem FQ{i:Nat}{x:Str}{pos' fL:Pos}(hN:X.N.Nodup)(ym :X.N[i]? =some x)(hx:Loc X.env.scope x)(hc:X.calm=true)(S:sF X N scope k js)(hi:PI X tg iter wi)
 (hb:∀(cl:List (Str×Addr)) (C:Addr) (s:Shared) (H:Hp) (fp:aZ),PG (lg X N scope cl C s H fp) tg g∧LM (lg X N scope cl C s H fp) ifs tt∧PE (lg X N scope cl C s H fp) elt te)
 (hsw:swapsWith (.ListComp elt [⟨tg,iter,ifs,0⟩] scope fL) (some (.Name x pos')) pos.line X.env=pure true:=by rfl)
 (hs:∀x,foldedSetIterable iter X.env x=pure x:=by intro _;rfl) (hf:X.fn x=true∨X.env.scope.names.lookup x=some .local:=by first|exact .inl rfl|exact .inr rfl|assumption):
 PS X (.Assign [.Name x pos'] (.ListComp elt [⟨tg,iter,ifs,0⟩] scope fL) pos) (V1 (RS wi k js g tt te) (JE i)):=by
 intro pins s σ H D I h;rw[exec_Assign_Name_used _ _ _ _ hsw];refine wpAny_bind (wpAny_standAt (wpAny_bind ?_));show wpAny _ X.A (do let _←comprehension (.ListComp elt [⟨tg,iter,ifs,0⟩] scope fL) scope X.env _ (newList []) false (eval iter X.env) (some (assign (.Name x pos') X.env))) _ _ s
 refine wpAny_bind (wpAny_mono (wpAny_comprehension_free (use:=some (assign (.Name x pos') X.env)) (Q:=fun _ s' =>SP X pins D .next s') rfl hs (yf (S.cells I.ok)) S.kind S.loc (cm (hi pins s σ H _ I h) fun v s1 h1=>cm h1 fun itv s2 h2=> ?_))
  (fun _ s' hq=>wpAny_pure (wpAny_pure hq)) fun _ _ e=>e)
 obtain⟨it,fp,tn,J,H2,e,I2,T,Pe,f2,q⟩:=h2;subst e;refine An (Q:=fun v H' =>D.nx (σ.set i (some v)) H') (RR:=fun acc C=>compPost (model X.prog X.w) X.A X.xe (some (assign (.Name x pos') X.env)) (fun _ s' =>SP X pins D .next s') acc C) hc S hb I2 T Pe f2 q ?_;intro p C s' H' m IX q' hn hC hL h0 vk Nb;show wpAny _ X.A (assign (.Name x pos') X.env (.ref p)) _ _ s';refine wpAny_assign_Name (zD (v:= .ref p) IX hN ym hx rfl (fun Kq I'' ⟨a,sb,ha⟩=> ?_) hf)
 have hCa:C≠a:=by
  rcases ha with z|z
  ·rw[z];exact hL
  ·exact fun e=>vk x a z e.symm
 refine⟨m,hn.sameBut sb hCa,fun h' sb' =>⟨σ.set i (some (.ref p)),H',?_,q'⟩⟩;exact I''.turned (t' :=Kq.toks) (fun b o hb e=>(sb'.2 b hb).trans e) hC hL (.inr h0) vk Nb
end
def cOk(osc:Scope)(ON N:aX)(scope:Scope)(k:Nat)(js:List Nat):Bool:=
 (scope.kind== .function)&&scope.names.all (fun y=> !(y.2== .cell))&&scope.names.all (fun y=> !(y.2== .local)||scope.names.lookup y.1==some .local)&&
 scope.names.all (fun y=> !(y.2== .free)||(osc.names.lookup y.1==some .cell||osc.names.lookup y.1==some .free))&&(N.length==k+js.length)&&
 (List.range js.length).all (fun i=>ON[js.getD i 0]? ==N[k+i]?)&&(N.drop k).all fun x=>scope.names.lookup x==some .free
theorem bQ{X:Cx}{N:aX}{scope:Scope}{k:Nat}{js:List Nat}(h:cOk X.env.scope X.N N scope k js=true):sF X N scope k js:=by
 unfold cOk at h;simp only[Bool.and_eq_true] at h;obtain⟨⟨⟨⟨⟨⟨h1,h2⟩,h3⟩,h4⟩,h5⟩,h6⟩,h7⟩:=h;have h5:=eq_of_beq h5;rw[List.all_eq_true] at h2 h3 h4 h6 h7;refine⟨eq_of_beq h1,fun y hy e=> ?_,fun y hy e=> ?_,fun y hy e=> ?_,h5,fun i j e=> ?_,fun i x e=> ?_⟩
 ·have q:=h2 y hy;rw[e] at q;exact absurd q (by decide)
 ·have q:=h3 y hy;rw[e] at q;exact eq_of_beq (by simpa using q)
 ·have q:=h4 y hy;rw[e] at q;have q:(X.env.scope.names.lookup y.1==some .cell||X.env.scope.names.lookup y.1==some .free)=true:=by simpa using q
  rw[Bool.or_eq_true] at q;rcases q with q|q
  ·exact .inl (eq_of_beq q)
  ·exact .inr (eq_of_beq q)
 ·have hi:i<js.length:=(List.getElem?_eq_some_iff.mp e).1;have q:=eq_of_beq (h6 i (List.mem_range.mpr hi));rw[List.getD_eq_getElem?_getD,e] at q;exact q
 ·refine eq_of_beq (h7 x ?_);rw[List.mem_iff_getElem?];exact⟨i,by rw[List.getElem?_drop];exact e⟩
section
variable{X:Cx}
theorem jn:gf X (.builtin "isinstance") (fun xs H Q=>∃x T t b,xs=[x,.ty T]∧sj X.K H x t∧kitOne X.K t (.type T)=some b∧Q (.bl b) H):=by
 intro pins s σ H xs us Q I r h;obtain⟨x,T,t,b,rfl,ty,e,q⟩:=h;obtain⟨u,c,rfl,ru,rc⟩:=XV r;cases rc;exact z_ I ru ty e fun tk=>⟨.bl b,H,I.tok tk,rfl,q⟩
end
section
variable{X:Cx}{tg:Expr}
end
section
variable{X:Cx}
def Fj:az→az→Bool
 |[],[]=>true
 |x::xs,y::ys=>HR x y&&Fj xs ys
 |_,_=>false
theorem xF:∀(xs ys:az),xs.length=ys.length→(List.range xs.length).all (fun j=>HR (xs.getD j .bJ) (ys.getD j .bJ))=Fj xs ys
 |[],[],_=>rfl
 |x::xs,y::ys,h=>by
  rw[List.length_cons,List.range_succ_eq_map,List.all_cons,List.all_map];have h' :xs.length=ys.length:=by simpa using h
  rw[←(show(HR x y&&Fj xs ys)=Fj (x::xs) (y::ys) from rfl),←xF xs ys h'];rfl
 |[],_::_,h=>by simp at h
 |_::_,[],h=>by simp at h
def anR(neg:Bool):R2:=fun x y H Q=>∃a b xs ys,x= .ref a∧y= .ref b∧H a=some (.lst xs)∧H b=some (.lst ys)∧
 ((xs.length≠ys.length∧Q (.bl neg) H)∨(xs.length=ys.length∧xs.all nc=true∧ys.all nc=true∧Q (.bl (if neg then !Fj xs ys else Fj xs ys)) H))
theorem Du{xs:az}{us:aA}{j:Nat}(r:Vals xs us)(f:xs.all nc=true)(hj:j<us.length):∃x,xs[j]? =some x∧RelV x us[j]∧nc x=true:=by
 have hl:=r.length;have hx:xs[j]? =some xs[j]:=by simp[hl,hj]
 obtain⟨u,hu,ru⟩:=r.get hx;have e:us[j]? =some us[j]:=by simp[hj]
 rw[e] at hu;cases hu;exact⟨_,hx,ru,List.all_eq_true.mp f _ (List.getElem_mem _)⟩
theorem xE(hu:X.A.units<cLine):qB X (compareOp .Eq) (anR false):=by
 intro pins s σ H x y v u Q I rx ry h;obtain⟨a,b,xs,ys,rfl,rfl,ha,hb,h⟩:=h;cases rx;cases ry;obtain⟨bz,r,pl,hz⟩:=I.list (bB.of ha);obtain⟨xU,r2,pl2,hz2⟩:=I.list (bB.of hb);have hl:=r.length;have m6:=r2.length;rcases h with⟨jw,q⟩|⟨he,f1,f2,q⟩
 ·exact SeqAt.eq_list_lengthsAt pl.isList pl2.isList (by simp;omega) hu ⟨.bl false,H,I,rfl,q⟩
 ·refine SeqAt.eq_listAt (e:=fun j=>HR (xs.getD j .bJ) (ys.getD j .bJ)) pl.isList pl2.isList (by simp;omega) hu (fun j h1 h2=> ?_) ⟨.bl (Fj xs ys),H,I,?_,q⟩
  ·have h1:j<bz.length:=by simpa using h1
   have h2:j<xU.length:=by simpa using h2
   obtain⟨x,e1,rx,fx⟩:=Du r f1 h1;obtain⟨y,e2,ry,fy⟩:=Du r2 f2 h2;have g1:xs.getD j .bJ=x:=by rw[List.getD_eq_getElem?_getD,e1];rfl
   have g2:ys.getD j .bJ=y:=by rw[List.getD_eq_getElem?_getD,e2];rfl
   show SeqAt.EqAt _ _ bz.toArray[j] xU.toArray[j] (HR (xs.getD j .bJ) (ys.getD j .bJ));rw[g1,g2];exact Ny rx ry fx fy
  ·show Value.bool _=Value.bool _;rw[←xF xs ys he,List.size_toArray,hl]
end
theorem au.upd{H:Hp}{p:Addr}{o:HO}(h:H p=none):au H (upd H p o):=fun b u e=>by
 rw[af (ag e h)];exact e
structure zX(J:It)(H:Hp)(xs:az):Prop where
 go:∀i H',au H H'→i<xs.length→J.go i H'
 wd:∀i H' x lC,au H H'→J.wd i H' x lC→lC =H'∧(i<xs.length→xs[i]? =some x)
 stop:∀i H',au H H'→xs.length≤i→J.stop i H'
theorem cV{K:Frag}{a:Addr}{xs:az}{H:Hp}(h:bB K H a xs):zX (W8 K a) H xs where
 go:=fun i H' s hi=>⟨xs,xs[i],s.seq h,by simp[hi]⟩
 wd:=fun i H' x lC s q=>⟨q.1,fun _=>q.2 xs (s.seq h)⟩
 stop:=fun i H' s hi=>⟨xs,s.seq h,hi⟩
theorem vD(lo:Int)(n:Nat)(H:Hp):zX (Q9 lo n) H ((List.range n).map fun(i:Nat)=>V.int (lo+(i:Int))) where
 go:=fun i H' _ h=>by
  show i<n;simpa using h
 wd:=fun i H' x lC _ q=>by
  obtain⟨e,rfl⟩:=q;refine⟨e,fun h=> ?_⟩;have h:i<n:=by simpa using h
  simp[List.getElem?_map,List.getElem?_range h]
 stop:=fun i H' _ h=>by
  show n≤i;simpa using h
theorem Ak{J:It}{xs:az}{k:Nat}{js:List Nat}{g:TG}{tt:TT}{te:TE}{σ:St}{H:Hp}{Q:VK}(pb:V→Bool)(fe:V→V)(F:zX J H xs)(hlen:xs.length≤sizeLine)
 (ll:∀(i:Nat) (x:V) (H' :Hp) (C1:V→Hp→Prop) (C0:Hp→Prop),xs[i]? =some x→au H H'→(pb x=true→C1 (fe x) H')→(pb x=false→C0 H')→
  g x (v7 k js σ) H' fun nT H2=>gk (v7 k js σ) nT∧tt nT H2 fun b H3=>if b=true then te nT H3 C1 else C0 H3)
 (hq:∀p,H p=none→Q (.ref p) (upd H p (.lst ((xs.filter pb).map fe)))):
 mY J k js g tt te σ H Q:=by
 intro p hp;refine⟨fun i m ys H' =>m=xs.length - i∧i≤xs.length∧ys=((xs.take i).filter pb).map fe∧H' =upd H p (.lst ys),⟨xs.length,rfl,Nat.zero_le _,rfl,rfl⟩,?_⟩
 rintro i m ys H' ⟨rfl,hi,rfl,rfl⟩
 refine⟨ae,?_⟩;have hs:au H (upd H p (.lst (((xs.take i).filter pb).map fe))):=au.upd hp;by_cases eQ:i<xs.length
 ·refine .inr ⟨F.go i _ hs eQ,?_,fun x lC hy=> ?_⟩
  ·rw[List.length_map];have h1:((xs.take i).filter pb).length≤(xs.take i).length:=List.length_filter_le _ _;rw[List.length_take] at h1;omega
  ·obtain⟨rfl,hx⟩:=F.wd i _ x lC hs hy;have hx:=hx eQ;have et:(xs.take (i+1)).filter pb=(xs.take i).filter pb++(if pb x=true then[x] else[]):=PySem.take_succ_filter pb xs i x hx;refine ll i x _ _ _ hx hs (fun hb=>⟨ae,xs.length - (i+1),by omega,rfl,eQ,?_,?_⟩) (fun hb=>⟨xs.length - (i+1),by omega,rfl,eQ,?_,rfl⟩)
   ·rw[et,if_pos hb,List.map_append];rfl
   ·rw[wx]
   ·rw[et,hb];simp
 ·have e:i=xs.length:=by omega
  subst e;refine .inl ⟨F.stop _ _ hs (Nat.le_refl _),?_⟩;rw[List.take_length];exact hq p hp
theorem qG{X:Cx}{Vz:List Stmt}{t:TS}(R:TS)(h:yW X Vz t)(hR:∀D σ H,R D σ H→t D σ H):yW X Vz R:=fun pins s σ H D I hq=>h pins s σ H D I (hR D σ H hq)
def Itv(K:Frag)(a:Addr)(n:Nat):It:=
 ⟨fun i H=>i<n∧∃xs,bB K H a xs∧xs.length=n,fun i H x H' =>H' =H∧∀xs,bB K H a xs→xs[n - 1 - i]? =some x,fun i _=>n≤i⟩
theorem NF{P:Program}{w:World}{K:Frag}{tg:Expr}(a it:Addr)(n:Nat):Turn P w K tg (Itv K a n) [it] it (fun i h=>i≤n∧h.IsRevIter it a ((n:Int) - 1 - (i:Int))) where
 mem:=by simp
 obj:=fun i h st b hb=>by
  have e:b=it:=by simpa using hb
  subst e;obtain⟨_,o,e,c,d⟩:=st;exact⟨o,e,fun v z=>by rw[d] at z;cases z⟩
 keep:=fun i h h' st k=>⟨st.1,st.2.at fun o e=>k it (by simp) o e⟩
 item:=by
  intro X hP hw hK hc i pins s σ H E I hf st hg;subst hP hw hK;obtain⟨hi,xs,hq,hlen⟩:=hg;obtain⟨bz,rv,p,hz⟩:=I.list hq;have hl:=rv.length;have hx:xs[n - 1 - i]? =some xs[n - 1 - i]:=by simp[show n - 1 - i<xs.length by omega]
  obtain⟨u,hu,ru⟩:=rv.get hx;obtain⟨f0,f1,f2,f3,f4,f5⟩:=hf it (by simp);have e:(n:Int) - 1 - (i:Int)=((n - 1 - i:Nat):Int):=by omega
  have hit:=st.2;rw[e] at hit;refine wpAny_pyNext_rev_item hit p.isList (x:=u) (by simpa using hu) fun h' Pa sb=> ?_;have I1:Inv X pins σ H {s with heap:=h'}:=I.turned (t' :=s.toks) (fun b o hb e=>(sb.2 b hb).trans e) f0 f1 f3 f4 f5;have e2:((n - 1 - i:Nat):Int) - 1=(n:Int) - 1 - ((i+1:Nat):Int):=by omega
  rw[e2] at Pa;obtain⟨o,eo,c,d⟩:=id Pa;exact⟨u,rfl,FG (s:={s with heap:=h'}) eo c d (by decide) ⟨_,H,I1,ru,⟨rfl,fun ys hy=>by rw[I.xB hy hq];exact hx⟩,⟨hi,Pa⟩,fun b hb=>(hf b hb).1⟩⟩
 done:=by
  intro X hP hw hK hc i pins s σ H E I hf st hg;subst hP hw hK;obtain⟨f0,f1,f2,f3,f4,f5⟩:=hf it (by simp);have ei:i=n:=Nat.le_antisymm st.1 hg;subst ei;have hit:=st.2;have e:(i:Int) - 1 - (i:Int)= -1:=by omega
  rw[e] at hit;exact wpAny_pyNext_rev_end (I.ok.hd hc) hit fun h' eb=>⟨rfl,I.turned (t' :=s.toks) (fun b o hb e=>eb b o hb e) f0 f1 f3 f4 f5⟩
 self:=fun _ _ _ _ _ st h=>wpAny_pyIter_revIter st.2 h
def Ite(K:Frag)(a:Addr):It:=
 ⟨fun i H=>∃xs x,bB K H a xs∧xs[i]? =some x,fun i H v H' =>∃T x,v= .ref T∧H T=none∧H' =upd H T (.tup [.int i,x])∧∀xs,bB K H a xs→xs[i]? =some x,fun i H=>∃xs,bB K H a xs∧xs.length≤i⟩
theorem Ig{P:Program}{w:World}{K:Frag}{elts:cR}{kt:Nat}{pt:Pos}(a e it:Addr)(hei:e≠it):Turn P w K (.Tuple elts kt pt) (Ite K a) [e,it] e (fun i h=>(∃old,IsEnum h e it i old)∧h.IsListIter it a i) where
 mem:=by simp
 obj:=fun i h st b hb=>by
  obtain⟨⟨old,he⟩,o,ho,c,d⟩:=st;have hb:b=e∨b=it:=by simpa using hb
  rcases hb with rfl|rfl
  ·exact⟨_,he,fun v z=>by cases z⟩
  ·exact⟨o,ho,fun v z=>by rw[d] at z;cases z⟩
 keep:=fun i h h' st k=>by
  obtain⟨⟨old,he⟩,hit⟩:=st;exact⟨⟨old,k e (by simp) _ he⟩,hit.at fun o x=>k it (by simp) o x⟩
 item:=by
  intro X hP hw hK hc i pins s σ H E I hf st hg;subst hP hw hK;obtain⟨xs,x,hq,hx⟩:=hg;obtain⟨bz,rv,p,hz⟩:=I.list hq;obtain⟨u,hu,ru⟩:=rv.get hx;obtain⟨⟨old,he⟩,hit⟩:=st;obtain⟨f0,f1,f2,f3,f4,f5⟩:=hf e (by simp);obtain⟨g0,g1,g2,g3,g4,g5⟩:=hf it (by simp);have akA:e<s.heap.objs.size:=Heap.lt_size he;have MP:it<s.heap.objs.size:=by obtain⟨_,x,_⟩:=hit;exact Heap.lt_size x
  refine wpAny_pyNext_enum_item he hit p.isList (x:=u) (by simpa using hu) hei fun h' ho Jo hT hsz hk=> ?_;refine⟨.ref s.heap.objs.size,rfl,?_⟩;refine wpAny_letOwnedTupleGo_enum ho fun FF Je AH => ?_;have zH:H s.heap.objs.size=none:=I.bD.fresh (Nat.le_refl _);have D0:s.heap.objs.size≠e:=Nat.ne_of_gt akA;have kk:∀b o,b≠e→b≠it→s.heap.get? b=some o→FF.get? b=some o:=fun b o yo hbi q=>(AH.2 b yo).trans (hk b o yo hbi q);have Ks :FF.get? s.heap.objs.size=some {cls:= .type "tuple",data:= .seq #[.int i s.toks,u]}:=(AH.2 _ D0).trans hT;have jw:∀b u,H b=some u→b≠e∧b≠it:=fun b u q=>⟨(fun z=>by rw[z,f0] at q;cases q),(fun z=>by rw[z,g0] at q;cases q)⟩
  have I2:Inv X pins σ (upd H s.heap.objs.size (.tup [.int i,x])) {s with heap:=FF,toks:=s.toks+1}:=by
   have new:bq X.prog X.w (upd H s.heap.objs.size (.tup [.int i,x])) FF s.heap.objs.size (.tup [.int i,x]):=⟨(show 2≤sizeLine by decide),[.int i s.toks,u],.cons ⟨_,rfl⟩ (.cons ru .nil),⟨_,Ks,rfl,_,rfl⟩⟩
   refine I.step (g' :=s.gens) (d' :=s.drawn) (ch:=[e,it]) (fun b hb=> ?_) (fun b o _ _ hc q _=>kk b o (fun z=>hc (by simp[z])) (fun z=>hc (by simp[z])) q) (fun b o _ _ hc q _=>⟨o.slots,kk b o (fun z=>hc (by simp[z])) (fun z=>hc (by simp[z])) q⟩)
    (fun b o _ q n=> ?_) (fun b o hc q=>⟨o,kk b o (fun z=>hc (by simp[z])) (fun z=>hc (by simp[z])) q⟩) (fun b ys q=> ?_) (fun b o ys q=> ?_) (fun b ps q=>⟨#[],?_⟩) (fun m hm=> ?_) (fun b u q=> ?_) I.bare
   ·have hb:b=e∨b=it:=by simpa using hb
    rcases hb with rfl|rfl
    ·exact⟨f3,f1,f4,f5⟩
    ·exact⟨g3,g1,g4,g5⟩
   ·rw[af (Nat.ne_of_lt (Heap.lt_size q))];exact n
   ·rw[af (ag q zH)];exact q
   ·rw[af (ag q zH)];exact q
   ·rw[af (ag q zH),q];simp
   ·obtain⟨o,es,ep,q,r⟩:=hm;exact⟨o,es,ep,kk _ o (Ne.symm f1) (Ne.symm g1) q,r⟩
   ·by_cases hb:b=s.heap.objs.size
    ·subst hb;rw[ae] at q;cases q;exact new
    ·rw[af hb] at q;refine(I.bD b u q).qR (fun c v hc q' =>kk c v ?_ ?_ q') (fun c q' => ?_) fun c ys q' => ?_
     ·rcases hc with z|z
      ·rw[z];exact(jw b u q).1
      ·exact(jw c _ z).1
     ·rcases hc with z|z
      ·rw[z];exact(jw b u q).2
      ·exact(jw c _ z).2
     ·rw[af (ag q' zH)];exact q'
     ·rw[af (ag q' zH)];exact q'
  refine⟨.ref s.heap.objs.size,_,I2,rfl,⟨_,x,rfl,zH,rfl,fun ys hy=>by rw[I.xB hy hq];exact hx⟩,⟨⟨_,by simpa using Je⟩,Jo.at fun o q=>(AH.2 it hei.symm).trans q⟩,fun b hb=> ?_⟩;have hb:b=e∨b=it:=by simpa using hb
  rcases hb with rfl|rfl
  ·rw[af (Ne.symm D0)];exact f0
  ·rw[af (Nat.ne_of_lt MP)];exact g0
 done:=by
  intro X hP hw hK hc i pins s σ H E I hf st hg;subst hP hw hK;obtain⟨xs,hq,hx⟩:=hg;obtain⟨bz,rv,p,hz⟩:=I.list hq;obtain⟨⟨old,he⟩,hit⟩:=st;obtain⟨g0,g1,g2,g3,g4,g5⟩:=hf it (by simp);have hl:=rv.length;exact wpAny_pyNext_enum_end (I.ok.hd hc) he hit p.isList (by simp;omega) fun h' eb=>⟨rfl,I.turned (t' :=s.toks) (fun b o hb e=>eb b o hb e) g0 g1 g3 g4 g5⟩
 self:=fun _ _ _ _ _ st h=>by
  obtain⟨⟨old,he⟩,_⟩:=st;exact wpAny_pyIter_enum he h
section
variable{X:Cx}{tg:Expr}
def aoe(K:Frag)(ta:TA):TI:=fun σ H R=>ta σ H fun vs H1=>∃a xs,vs=[.ref a]∧bB K H1 a xs∧R (Itv K a xs.length) H1
theorem C7{a:Expr}{ta:TA}{p pos:Pos}(hg:Gl X "reversed")(hm:X.mg "reversed"=none)(ha:PA X [a] ta)(hs:starEach [a] X.env=[(false,eval a X.env)]:=by rfl):PI X tg (.Call (.Name "reversed" p) [a] [] pos) (aoe X.K ta):=by
 intro pins s σ H R I h;refine Call_ (n9 I hg hm Boot.«reversed» (PyProof.Rows.callWith_type1 (cm (ha pos pins s σ H _ I h) fun us s1 ⟨vs,H1,I1,r1,q1⟩=> ?_) hs rfl));obtain⟨l,xs,e,hq,q⟩:=q1;subst e;obtain⟨u,rfl,ru⟩:=xL r1;cases ru;obtain⟨bz,rv,pl,hz⟩:=I1.list hq;have hl:=rv.length;refine call_reversed_list pl.isList ?_;have I2:Inv X pins σ H1 {s1 with heap:=s1.heap.push (revObj l ((bz.toArray.size:Int) - 1))}:=I1.kept (t' :=s1.toks) fun b o e=>Heap.get?_push_of_some _ e
 have hit:(s1.heap.push (revObj l ((bz.toArray.size:Int) - 1))).IsRevIter s1.heap.objs.size l ((xs.length:Int) - 1 - ((0:Nat):Int)):=by
  have e:((xs.length:Int) - 1 - ((0:Nat):Int))=((bz.toArray.size:Int) - 1):=by rw[List.size_toArray,hl];simp
  rw[e];exact⟨_,Heap.get?_push_size _ rfl,rfl,rfl⟩
 refine wpAny_pyIter_revIter (s:={s1 with heap:=s1.heap.push (revObj l ((bz.toArray.size:Int) - 1))}) hit ?_;refine⟨s1.heap.objs.size,[s1.heap.objs.size],_,_,H1,rfl,I2,NF l _ xs.length,⟨Nat.zero_le _,hit⟩,fun b hb=> ?_,q⟩;have e:b=s1.heap.objs.size:=by simpa using hb
 subst e;exact I1.Bh (Nat.le_refl _) (I1.bD.fresh (Nat.le_refl _))
def aa1(K:Frag)(ta:TA):TI:=fun σ H R=>ta σ H fun vs H1=>∃a xs,vs=[.ref a]∧H1 a=some (.lst xs)∧R (Ite K a) H1
theorem BD{a:Expr}{ta:TA}{p pos:Pos}{elts:cR}{kt:Nat}{pt:Pos}(hg:Gl X "enumerate")(hm:X.mg "enumerate"=none)(ha:PA X [a] ta)(hs:starEach [a] X.env=[(false,eval a X.env)]:=by rfl):
 PI X (.Tuple elts kt pt) (.Call (.Name "enumerate" p) [a] [] pos) (aa1 X.K ta):=by
 intro pins s σ H R I h;refine Call_ (n9 I hg hm Boot.«enumerate» (PyProof.Rows.callWith_type1 (cm (ha pos pins s σ H _ I h) fun us s1 ⟨vs,H1,I1,r1,q1⟩=> ?_) hs rfl));obtain⟨l,xs,e,hq,q⟩:=q1;subst e;obtain⟨u,rfl,ru⟩:=xL r1;cases ru;obtain⟨bz,n,rv,ho,hz⟩:=I1.lst hq;refine call_enumerate_1 ho fun h' he hit hsz hk=> ?_;have I2:Inv X pins σ H1 {s1 with heap:=h'}:=I1.kept (t' :=s1.toks) hk;refine wpAny_pyIter_enum (s:={s1 with heap:=h'}) he ?_;refine⟨s1.heap.objs.size+1,[s1.heap.objs.size+1,s1.heap.objs.size],_,_,H1,rfl,I2,Ig l _ _ (Nat.succ_ne_self _),⟨⟨_,he⟩,hit⟩,fun b hb=> ?_,q⟩;have hb:b=s1.heap.objs.size+1∨b=s1.heap.objs.size:=by simpa using hb
 rcases hb with rfl|rfl
 ·exact I1.Bh (Nat.le_succ _) (I1.bD.fresh (Nat.le_succ _))
 ·exact I1.Bh (Nat.le_refl _) (I1.bD.fresh (Nat.le_refl _))
end
structure pR(J:It)(H:Hp)(n:Nat)(Y:Nat→V→Hp→Prop):Prop where
 go:∀i H',au H H'→i<n→J.go i H'
 wd:∀i H' x lC,au H H'→i<n→J.wd i H' x lC→au H' lC∧Y i x lC
 stop:∀i H',au H H'→n≤i→J.stop i H'
theorem zX.g{J:It}{H:Hp}{xs:az}(F:zX J H xs):pR J H xs.length (fun i x _=>xs[i]? =some x) where
 go:=F.go
 wd:=fun i H' x lC s hi h=>by
  obtain⟨e,q⟩:=F.wd i H' x lC s h;exact⟨e▸au.refl H',q hi⟩
 stop:=F.stop
theorem HI{K:Frag}{a:Addr}{xs:az}{H:Hp}(h:bB K H a xs):zX (Itv K a xs.length) H xs.reverse where
 go:=fun i H' s hi=>⟨by simpa using hi,xs,s.seq h,rfl⟩
 wd:=fun i H' x lC s q=>⟨q.1,fun hi=>by
  have hi:i<xs.length:=by simpa using hi
  rw[List.getElem?_reverse hi];exact q.2 xs (s.seq h)⟩
 stop:=fun i H' s hi=>by
  show xs.length≤i;simpa using hi
theorem Ez{K:Frag}{a:Addr}{xs:az}{H:Hp}(h:bB K H a xs):pR (Ite K a) H xs.length (fun i x H' =>∃T y,x= .ref T∧H' T=some (.tup [.int i,y])∧xs[i]? =some y) where
 go:=fun i H' s hi=>⟨xs,xs[i],s.seq h,by simp[hi]⟩
 wd:=fun i H' x lC s hi q=>by
  obtain⟨T,y,rfl,hT,rfl,hy⟩:=q;exact⟨au.upd hT,T,y,rfl,ae,hy xs (s.seq h)⟩
 stop:=fun i H' s hi=>⟨xs,s.seq h,hi⟩
theorem eX{J:It}{n k:Nat}{js:List Nat}{Y:Nat→V→Hp→Prop}{g:TG}{tt:TT}{te:TE}{σ:St}{H:Hp}{Q:VK}(pb:Nat→Bool)(fe:Nat→V)(F:pR J H n Y)(hlen:n≤sizeLine)
 (ll:∀(i:Nat) (x:V) (H' :Hp) (C1:V→Hp→Prop) (C0:Hp→Prop),i<n→au H H'→Y i x H'→(pb i=true→∀lC,au H' lC→C1 (fe i) lC)→(pb i=false→∀lC,au H' lC→C0 lC)→
  g x (v7 k js σ) H' fun nT H2=>gk (v7 k js σ) nT∧tt nT H2 fun b H3=>if b=true then te nT H3 C1 else C0 H3)
 (hq:∀p H',H p=none→au H H'→H' p=some (.lst (((List.range n).filter pb).map fe))→Q (.ref p) H'):
 mY J k js g tt te σ H Q:=by
 intro p hp;refine⟨fun i m ys H' =>m=n - i∧i≤n∧ys=((List.range i).filter pb).map fe∧H' p=some (.lst ys)∧au H H',⟨n,rfl,Nat.zero_le _,rfl,ae,au.upd hp⟩,?_⟩
 rintro i m ys H' ⟨rfl,hi,rfl,hl,hs⟩
 refine⟨hl,?_⟩;by_cases eQ:i<n
 ·refine .inr ⟨F.go i _ hs eQ,?_,fun x lC hy=> ?_⟩
  ·rw[List.length_map];have h1:((List.range i).filter pb).length≤(List.range i).length:=List.length_filter_le _ _;rw[List.length_range] at h1;omega
  ·obtain⟨s1,y1⟩:=F.wd i _ x lC hs eQ hy
   have et:(List.range (i+1)).filter pb=(List.range i).filter pb++(if pb i=true then[i] else[]):=by
    rw[List.range_succ,List.filter_append];cases hb:pb i<;>simp[hb]
   refine ll i x lC _ _ eQ (hs.trans s1) y1 (fun hb H3 s3=>⟨s3 _ _ (s1 _ _ hl),n - (i+1),by omega,rfl,eQ,?_,ae,?_⟩) (fun hb H3 s3=>⟨n - (i+1),by omega,rfl,eQ,?_,s3 _ _ (s1 _ _ hl),(hs.trans s1).trans s3⟩)
   ·rw[et,if_pos hb,List.map_append];rfl
   ·intro c o e;rw[af (ag e hp)];exact s3 _ _ (s1 _ _ (hs _ _ e))
   ·rw[et,hb];simp
 ·have e:i=n:=by omega
  subst e;exact .inl ⟨F.stop _ _ hs (Nat.le_refl _),hq p H' hp hs hl⟩
mutual
inductive Dat (H:Hp):V→PyData→Prop
 |bJ:Dat H .bJ .none
 |bl (b:Bool):Dat H (.bl b) (.bool b)
 |int (i:Int):Dat H (.int i) (.int i)
 |str (x:Str):Dat H (.str x) (.str x)
 |lst {a:Addr} {xs:az} {ds:List PyData} (e:H a=some (.lst xs)) (h:DatAll H xs ds):Dat H (.ref a) (.list ds)
 |tup {a:Addr} {xs:az} {ds:List PyData} (e:H a=some (.tup xs)) (h:DatAll H xs ds):Dat H (.ref a) (.tuple ds)
inductive DatAll (H:Hp):az→List PyData→Prop
 |nil:DatAll H [] []
 |cons {x:V} {xs:az} {d:PyData} {ds:List PyData} (h:Dat H x d) (t:DatAll H xs ds):DatAll H (x::xs) (d::ds)
end
mutual
theorem Dat.reads{P:Program}{w:World}{H:Hp}{h:Heap}(ok:qE P w H h):∀{v:V} {d:PyData} {u:Value},Dat H v d→RelV v u→(∃as,Reads h u d as)∧d.hasDict=false
 |_,_,_,.bJ,r=>by cases r;exact⟨⟨_,.none⟩,by simp only[PyData.hasDict]⟩
 |_,_,_,.bl b,r=>by cases r;exact⟨⟨_,.bool b⟩,by simp only[PyData.hasDict]⟩
 |_,_,_,.int i,r=>by obtain⟨t,rfl⟩:=r;exact⟨⟨_,.int i t⟩,by simp only[PyData.hasDict]⟩
 |_,_,_,.str x,r=>by obtain⟨t,rfl⟩:=r;exact⟨⟨_,.str x t⟩,by simp only[PyData.hasDict]⟩
 |_,_,_,.lst e hd,r=>by
  cases r;obtain⟨z,bz,n,rv,ho⟩:=(show bq P w H h _ (.lst _) from ok _ _ e);obtain⟨⟨as,q⟩,hh⟩:=DatAll.reads ok hd rv;exact⟨⟨_,.list ho rfl rfl (by simpa using q)⟩,by simp only[PyData.hasDict];exact hh⟩
 |_,_,_,.tup e hd,r=>by
  cases r;obtain⟨z,bz,rv,o,ho,hc,n,hdt⟩:=(show bq P w H h _ (.tup _) from ok _ _ e);obtain⟨⟨as,q⟩,hh⟩:=DatAll.reads ok hd rv;exact⟨⟨_,.tuple ho hc hdt (by simpa using q)⟩,by simp only[PyData.hasDict];exact hh⟩
theorem DatAll.reads{P:Program}{w:World}{H:Hp}{h:Heap}(ok:qE P w H h):∀{xs:az} {ds:List PyData} {us:aA},DatAll H xs ds→Vals xs us→(∃as,ReadsAll h us ds as)∧PyData.hasDictAll ds=false
 |_,_,_,.nil,.nil=>⟨⟨_,.nil⟩,by simp only[PyData.hasDictAll]⟩
 |_,_,_,.cons hd t,.cons r rr=>by
  obtain⟨⟨as,q⟩,h1⟩:=Dat.reads ok hd r;obtain⟨⟨bs,q'⟩,h2⟩:=DatAll.reads ok t rr;exact⟨⟨_,.cons q q'⟩,by simp only[PyData.hasDictAll,h1,h2,Bool.or_self]⟩
end
mutual
theorem Dat.same{H H' :Hp}(s:au H H'):∀{v:V} {d:PyData},Dat H v d→Dat H' v d
 |_,_,.bJ=> .bJ
 |_,_,.bl b=> .bl b
 |_,_,.int i=> .int i
 |_,_,.str x=> .str x
 |_,_,.lst e h=> .lst (s _ _ e) (DatAll.same s h)
 |_,_,.tup e h=> .tup (s _ _ e) (DatAll.same s h)
theorem DatAll.same{H H' :Hp}(s:au H H'):∀{xs:az} {ds:List PyData},DatAll H xs ds→DatAll H' xs ds
 |_,_,.nil=> .nil
 |_,_,.cons h t=> .cons (Dat.same s h) (DatAll.same s t)
end
section
variable{X:Cx}
theorem cI(hg:X.A.guards=some [])(hu:X.A.units+100<cLine):gf X (.builtin "repr") (fun xs H Q=>∃v d,xs=[v]∧Dat H v d∧d.showable=true∧d.depth≤90∧d.shown.length≤sizeLine∧Q (.str d.shown) H):=by
 intro pins s σ H xs us Q I r h;obtain⟨v,d,rfl,hd,hs,hdp,hz,q⟩:=h;obtain⟨u,rfl,ru⟩:=xL r;have flat:∀{h' :Heap} {tk:Nat} (t:Tok),(∀b o,s.heap.get? b=some o→h'.get? b=some o)→EP X pins σ Q (.str d.shown t) {s with heap:=h',toks:=tk}:=fun{h' tk} t k=>⟨.str d.shown,H,I.kept k,⟨t,rfl⟩,q⟩;obtain⟨⟨as,rd⟩,nd⟩:=hd.reads I.bD ru
 cases hd with
 |bJ=>cases ru;exact PySem.P.repr_of_none (flat _ fun _ _ e=>e)
 |bl b=>cases ru;exact PySem.P.repr_of_bool (by have:=flat (h' :=s.heap) (tk:=s.toks+1) s.toks fun _ _ e=>e;simpa only[PyData.shown] using this)
 |int i=>
  obtain⟨t,rfl⟩:=ru;have IH :i.natAbs.log2<1920:=by simpa[PyData.showable] using hs
  exact PySem.P.repr_of_int IH (by have:=flat (h' :=s.heap) (tk:=s.toks+1) s.toks fun _ _ e=>e;simpa only[PyData.shown] using this)
 |str x=>
  obtain⟨t,rfl⟩:=ru;refine PySem.P.repr_of_str (by have:=flat (h' :=s.heap) (tk:=s.toks+1) s.toks fun _ _ e=>e;simpa only[PyData.shown] using this) (by simpa only[PyData.shown] using hz)
 |lst e hx=>
  cases ru;exact repr_of_reads' rd hs (PyData.noDict_hsm nd) hg (by omega) (fun _ _ e=>e) (fun h' t tk k=>flat t k) hz
 |tup e hx=>
  cases ru;exact repr_of_reads' rd hs (PyData.noDict_hsm nd) hg (by omega) (fun _ _ e=>e) (fun h' t tk k=>flat t k) hz
end
section
variable{X:Cx}{e ZX:Expr}{te ts:TE}{pos p2:Pos}
def Vh(K:Frag)(te ts:TE):TE:=fun σ H Q=>te σ H fun x H1=>QY ts σ H1 fun o H2=>∃a xs,x= .ref a∧o=some (-1)∧bB K H2 a xs∧∀p,H2 p=none→Q (.ref p) (upd H2 p (.lst xs.reverse))
theorem Mn(he:PE X e te)(fw:PE X ZX ts):PE X (.Subscript e (.Slice none none (some ZX) p2) pos) (Vh X.K te ts):=by
 intro pins s σ H Q I h;refine Subscript_ (cm (he pins s σ H _ I h) fun v s1 ⟨x,H1,I1,r1,q1⟩=> ?_);refine wpAny_Slice ?_;rw[evalPart_none];refine wpAny_pure ?_;refine wpAny_pure ?_;refine cm (Fl fw pins s1 σ H1 _ I1 q1) fun vs s2 ⟨o,H2,I2,ps,a,xs,hx,ho,hq,q⟩=> ?_;subst ho hx;cases r1;have I4:Inv X pins σ H2 {s2 with heap:=s2.heap.push {cls:= .type "slice",data:= .fields #[.none,.none,vs]}}:=I2.kept (t' :=s2.toks) fun b ob q=>Heap.get?_push_of_some _ q;obtain⟨bz,r,ht,hz⟩:=I4.list hq;have hlen:=r.length;show wpAny (model X.prog X.w) X.A (subscriptTail e (.Slice none none (some ZX) p2) (.ref a) (.ref s2.heap.objs.size)) (EP X pins σ Q) X.xe {s2 with heap:=s2.heap.push {cls:= .type "slice",data:= .fields #[.none,.none,vs]}};refine tail_any (ops:=[.ref a,.ref s2.heap.objs.size]) ht.isList.typeIs slot_list_getitem.lookup ?_ (by with_unfolding_all rfl);refine wpAny_getItem_list_slice ht.isList (Heap.IsSliceOf.new ..) .none .none ps (by simp) ?_ (by rw[List.size_toArray]<;>omega);rw[PySem.W.krv_pick];refine⟨.ref _,_,I4.laid (t' :=s2.toks) (o:= .lst xs.reverse) (fun b ob q=>Heap.get?_push_of_some _ q) (Nat.le_refl _) ?_,rfl,q _ ?_⟩
 ·exact⟨by rw[List.length_reverse];exact hz,_,0,(by simpa using r.reverse),Heap.get?_push_size _ rfl⟩
 ·exact I4.bD.fresh (Nat.le_refl _)
end
theorem Hy:typeLookup (.type "list_reverseiterator") "__len__"=pure none:=by rw[typeLookup_type,builtinLookup_eq_fast];kernel_rfl
theorem KP:typeLookup (.type "list_reverseiterator") "__length_hint__"=pure (some (.builtin "list_reverseiterator.__length_hint__")):=by rw[typeLookup_type,builtinLookup_eq_fast];kernel_rfl
section
variable{prog:Program}{w:World}{A:Around}{E:Value→Shared→Prop}{s:Shared}
theorem E5{R:Result→Shared→Prop}(hh:A.handled=none){l J S:Addr}{items:Array Value}(hlJ:l≠J)(hSJ:S≠J)(VR:S≠l)(res:Value)(c₀:Nat)(hS:s.heap.get? S=some {cls:= .type "list",data:= .seq #[] c₀})
 (hit:s.heap.IsRevIter J l ((items.size:Int) - 1)) (hl:s.heap.IsList l items)
 (hR:∀h' tk xv c',(∀b o,b≠S→b≠J→s.heap.get? b=some o→h'.get? b=some o)→h'.get? S=some {cls:= .type "list",dict:=none,data:= .seq xv c',slots:= #[]}→
  ItemsOf (fun i v=>items[items.size - 1 - i]? =some v) xv items.size→R (.ok (.ret res)) {s with heap:=h',toks:=tk}) (hn:items.size≤sizeLine):
 wpAny (model prog w) A.in1 (Builtin.List.listExtendWith (.ref S) (.ref J) res)
  (fun fin s' =>match fin with| .done f=>R (.ok f) s' | .again c' =>c'.quiet=true∧codeAny (model prog w) A c' R s') (fun e s' =>R (.error e) s') s:=by
 have W:=(Walks.listRev (prog:=prog) (w:=w) (A:=A.in1) hh J l hlJ items).toS;have fw:(0:Nat)≤items.size∧s.heap.IsRevIter J l ((items.size:Int) - 1 - ((0:Nat):Int))∧s.heap.IsList l items:=⟨Nat.zero_le _,by simpa using hit,hl⟩
 have hSf:S∉[J,l]:=fun hm=>by
  have hm:S=J∨S=l:=by simpa using hm
  rcases hm with h|h
  ·exact hSJ h
  ·exact VR h
 unfold Builtin.List.listExtendWith;refine wpAny_bind (wpAny_typeOf (T:="list_reverseiterator") hit.typeIs ?_);have h1:Builtin.List.listSameRef (.ref S) (.ref J)=false:=by simp[Builtin.List.listSameRef,hSJ]
 rw[if_neg (by rw[h1];decide)];refine wpAny_bind (wpAny_pyIter_revIter hit ?_);refine wpAny_bind (wpAny_holding ?_);unfold Builtin.List.listLengthHint;refine wpAny_bind (wpAny_specialOf hit.typeIs Hy ?_);show wpAny _ A.in1 (specialOf (Value.ref J) (Str.ofString "__length_hint__")>>= _) _ _ _;refine wpAny_bind (wpAny_specialOf hit.typeIs KP ?_)
 (generalize hid:("list_reverseiterator.__length_hint__" :String)=id0;(fail_if_success (clear hid id0));wp_delta;rw[show splitId id0=some ("list_reverseiterator","__length_hint__") from by subst hid;decide+kernel];subst hid)
 refine wpAny_bind (wpAny_isInstance (b:=true) hit.typeIs (by rw[isSubtype_type];kernel_rfl) ?_);refine wpAny_pure ?_;rw[if_neg (by decide)];refine wpAny_pure ⟨plainId_quiet F.plain_extend_loop _,codeAny_extend_loopS W hn _ hSf _ items.size 0 _ _ _ rfl (Nat.zero_le _) fw hS (ItemsOf.nil _) fun s' xv c' hm Of CM=> ?_⟩;rw[Moved.eq_with hm];refine hR s'.heap s'.toks xv c' (fun b ob hb hbJ e=>hm.heap b ob (fun LX=> ?_) e) Of CM;rcases List.mem_cons.mp LX with e' |LX
 ·exact hb e'
 ·exact hbJ (List.mem_singleton.mp LX)
theorem zg{Q:Value→Shared→Prop}(hh:A.handled=none){l J:Addr}{items:Array Value}(hlJ:l≠J)(hit:s.heap.IsRevIter J l ((items.size:Int) - 1))(hl:s.heap.IsList l items)
 (hQ:∀h' tk xv c',(∀b o,b≠J→s.heap.get? b=some o→h'.get? b=some o)→h'.get? s.heap.objs.size=some {cls:= .type "list",dict:=none,data:= .seq xv c',slots:= #[]}→
  ItemsOf (fun i v=>items[items.size - 1 - i]? =some v) xv items.size→Q (.ref s.heap.objs.size) {s with heap:=h',toks:=tk}) (hn:items.size≤sizeLine):
 wpAny (model prog w) A (call (.type "list") [.ref J]) Q E s:=by
 have hJ:J<s.heap.objs.size:=by obtain⟨o,e,_⟩:=hit;exact Heap.lt_size e
 have hL:l<s.heap.objs.size:=by obtain⟨o,e,_⟩:=hl;exact Heap.lt_size e
 refine callType_codes (Q₁:=fun obj bF=>obj= .ref s.heap.objs.size∧bF={s with heap:=s.heap.push {cls:= .type "list",data:= .seq #[]}}) F.called_list (F.typeCall_list_1 _) F.entry_list_init
  (code_list_new _ ⟨rfl,rfl⟩) fun obj bF i5=> ?_
 obtain⟨rfl,rfl⟩:=i5;have hS:(s.heap.push {cls:= .type "list",data:= .seq #[]}).get? s.heap.objs.size=some {cls:= .type "list",data:= .seq #[]}:=Heap.get?_push_size _ rfl;refine⟨⟨_,hS,rfl⟩,F.args_list_init_2 _ _,?_⟩;show wpAny _ _ (do let old←Builtin.List.listItems (.ref s.heap.objs.size);Builtin.List.listUpdate (.ref s.heap.objs.size) (fun _=> #[]);letGo old.toList.reverse;Builtin.List.listExtendWith (.ref s.heap.objs.size) (.ref J) .none) _ _ _;refine wpAny_bind ?_;unfold Builtin.List.listItems;refine wpAny_bind (wpAny_seqItems hS rfl (wpAny_pure ?_));show wpAny _ _ (updateSeq s.heap.objs.size (fun _=> #[])>>= fun _=>letGo (#[]:Array Value).toList.reverse>>= fun _=>Builtin.List.listExtendWith (.ref s.heap.objs.size) (.ref J) .none) _ _ _;refine wpAny_bind (wpAny_updateSeq hS rfl ?_);have X2:=Heap.get?_update_self (Obj.mapSeq (fun _=>(#[]:Array Value))) hS rfl
 have oth:∀b o,b≠s.heap.objs.size→s.heap.get? b=some o→((s.heap.push {cls:= .type "list",data:= .seq #[]}).update s.heap.objs.size (Obj.mapSeq (fun _=>(#[]:Array Value)))).get? b=some o:=
  fun b o hb e=>(Heap.get?_update_other _ _ (Ne.symm hb)).trans (Heap.get?_push_of_some _ e)
 refine wpAny_bind (wpAny_letGo ?_);refine E5 (A:=A.in1) hh hlJ (Nat.ne_of_gt hJ) (Nat.ne_of_gt hL) .none _ X2 (hit.at fun o e=>oth _ o (Nat.ne_of_lt hJ) e) (hl.at fun o e=>oth _ o (Nat.ne_of_lt hL) e) (fun h' tk xv c' hk Of CM=> ?_) hn;exact⟨rfl,hQ h' tk xv c' (fun b o hbJ e=>hk b o (Nat.ne_of_lt (Heap.lt_size e)) hbJ (oth b o (Nat.ne_of_lt (Heap.lt_size e)) e)) Of CM⟩
end
section
variable{X:Cx}{e:Expr}{ta:TA}{p p' pos pos' :Pos}
def Nq(K:Frag)(ta:TA):TE:=fun σ H Q=>ta σ H fun vs H1=>∃a xs,vs=[.ref a]∧bB K H1 a xs∧∀l,H1 l=none→Q (.ref l) (upd H1 l (.lst xs.reverse))
theorem Hr{items:aA}{acc:Array Value}(h:ItemsOf (fun i v=>items.toArray[items.toArray.size - 1 - i]? =some v) acc items.toArray.size):acc.toList=items.reverse:=by
 obtain⟨h1,h2⟩:=h;have hs:items.toArray.size=items.length:=List.size_toArray;apply List.ext_getElem?;intro i;by_cases hi:i<items.length
 ·rw[List.getElem?_reverse hi];have ym :i<acc.size:=by omega
  have e:acc[i]? =some acc[i]:=by simp[ym]
  have q:=h2 i acc[i] e;rw[hs] at q;rw[Array.getElem?_toList,e,←q];simp
 ·have e1:acc.toList[i]? =none:=List.getElem?_eq_none (by rw[Array.length_toList];omega);have e2:items.reverse[i]? =none:=List.getElem?_eq_none (by rw[List.length_reverse];omega);rw[e1,e2]
theorem E3(hc:X.calm=true)(hg:Gl X "list")(hm:X.mg "list"=none)(hg' :Gl X "reversed")(Iu :X.mg "reversed"=none)(ha:PA X [e] ta)(hs:starEach [e] X.env=[(false,eval e X.env)]:=by rfl)
 (IH :starEach [Expr.Call (.Name "reversed" p') [e] [] pos'] X.env=[(false,eval (.Call (.Name "reversed" p') [e] [] pos') X.env)]:=by rfl):
 PE X (.Call (.Name "list" p) [.Call (.Name "reversed" p') [e] [] pos'] [] pos) (Nq X.K ta):=by
 intro pins s σ H Q I h;refine wpAny_Call_Name_kw (n9 I hg hm Boot.«list» ?_);refine PyProof.Rows.callWith_type1 ?_ IH rfl;rw[IH];show wpAny _ _ (spliced ((false,eval (.Call (.Name "reversed" p') [e] [] pos') X.env)::backTo pos [])) _ _ s;refine Calls.spliced_cons (Call_ (n9 I hg' Iu Boot.«reversed» (PyProof.Rows.callWith_type1 (cm (ha pos' pins s σ H _ I h) fun us s1 ⟨vs,H1,I1,r1,q1⟩=> ?_) hs rfl)));obtain⟨l,xs,ev,hq,q⟩:=q1;subst ev;obtain⟨u,rfl,ru⟩:=xL r1;cases ru;obtain⟨bz,rv,pl,hz⟩:=I1.list hq;have hl:=rv.length;refine call_reversed_list pl.isList ?_;refine Calls.spliced_nil ?_;have hll:l<s1.heap.objs.size:=by obtain⟨o,e,_⟩:=pl.isList;exact Heap.lt_size e
 have I2:Inv X pins σ H1 {s1 with heap:=s1.heap.push (revObj l ((bz.toArray.size:Int) - 1))}:=I1.kept (t' :=s1.toks) fun b o e=>Heap.get?_push_of_some _ e;refine zg (s:={s1 with heap:=s1.heap.push (revObj l ((bz.toArray.size:Int) - 1))}) (I1.ok.hd hc) (l:=l) (J:=s1.heap.objs.size) (items:=bz.toArray) (Nat.ne_of_lt hll) ⟨_,Heap.get?_push_size _ rfl,rfl,rfl⟩ (pl.isList.push _) (fun h' tk xv c' hk Of CM=> ?_) (by rw[List.size_toArray];omega);have f1:=I1.Bh (H' :=H1) (Nat.le_refl s1.heap.objs.size) (I1.bD.fresh (Nat.le_refl _));have er:=Hr CM;have hsz:(s1.heap.push (revObj l ((bz.toArray.size:Int) - 1))).objs.size=s1.heap.objs.size+1:=Heap.size_push ..;have Xu:H1 (s1.heap.objs.size+1)=none:=I1.bD.fresh (Nat.le_succ _);have hS2:h'.get? (s1.heap.objs.size+1)=some {cls:= .type "list",dict:=none,data:= .seq xv c',slots:= #[]}:=by rw[←hsz];exact Of
 have jw:∀b u,H1 b=some u→b≠s1.heap.objs.size:=fun b u q z=>by rw[z,f1.1] at q;cases q
 have I3:Inv X pins σ (upd H1 (s1.heap.objs.size+1) (.lst xs.reverse)) {s1 with heap:=h',toks:=tk}:=by
  refine Inv.step (s:={s1 with heap:=s1.heap.push (revObj l ((bz.toArray.size:Int) - 1))}) I2 (g' :=s1.gens) (d' :=s1.drawn) (ch:=[s1.heap.objs.size]) (fun b hb=> ?_) (fun b o _ _ hc q _=>hk b o (fun z=>hc (by simp[z])) q) (fun b o _ _ hc q _=>⟨o.slots,hk b o (fun z=>hc (by simp[z])) q⟩)
   (fun b o _ q n=> ?_) (fun b o hc q=>⟨o,hk b o (fun z=>hc (by simp[z])) q⟩) (fun b ys q=> ?_) (fun b o ys q=> ?_) (fun b ps q=>⟨#[],?_⟩) (fun m hm=> ?_) (fun b u q=> ?_) I1.bare
  ·have hb:b=s1.heap.objs.size:=by simpa using hb
   subst hb;exact⟨f1.2.2.2.1,f1.2.1,f1.2.2.2.2.1,f1.2.2.2.2.2⟩
  ·have hb:=Heap.lt_size q;have hb:b<s1.heap.objs.size+1:=by rw[←hsz];exact hb
   rw[af (Nat.ne_of_lt hb)];exact n
  ·rw[af (ag q Xu)];exact q
  ·rw[af (ag q Xu)];exact q
  ·rw[af (ag q Xu),q];simp
  ·obtain⟨o,es,ep,q,r⟩:=hm;exact⟨o,es,ep,hk _ o (Ne.symm f1.2.1) q,r⟩
  ·by_cases hb:b=s1.heap.objs.size+1
   ·subst hb;rw[ae] at q;cases q;refine⟨by rw[List.length_reverse];exact hz,bz.reverse,c',rv.reverse,?_⟩;rw[hS2,←er]
   ·rw[af hb] at q;refine(I2.bD b u q).qR (fun c v hc q' =>hk c v ?_ q') (fun c q' => ?_) fun c ys q' => ?_
    ·rcases hc with z|z
     ·rw[z];exact jw b u q
     ·exact jw c _ z
    ·rw[af (ag q' Xu)];exact q'
    ·rw[af (ag q' Xu)];exact q'
 rw[hsz];exact⟨.ref (s1.heap.objs.size+1),_,I3,rfl,q _ Xu⟩
end
section
variable{X:Cx}{K:Frag}
theorem qp(hK:X.K=K):Pf X (OT K):=hK▸bp
theorem By(hK:X.K=K):Pf X (Zu K):=hK▸ie
theorem xt(hK:X.K=K):qB X (compareOp .In) (rIn K false):=hK▸G7
theorem rb(hK:X.K=K):gf X (.builtin "len") (fun xs H Q=>∃p ys,xs=[.ref p]∧(bB K H p ys∨qQ K H p ys)∧Q (.int ys.length) H):=hK▸aU
theorem PY{e:Expr}{f:Str}{pos:Pos}{ta:TE}(hK:X.K=K)(he:PE X e ta)(hb:attributeBase e f X.env (eval e X.env)=eval e X.env):PE X (.Attribute e f pos) (YB K ta f):=hK▸b9 he hb
theorem AM{es:cR}{k:Nat}{t:Sf}{n:Nat}{pos:Pos}(hK:X.K=K)(hc:X.calm=true)(h:PGs X es t)(hn:(assignEach es X.env).length=n)(fw:(assignEach es X.env).findIdx? (·.1)=none):PG X (.Tuple es k pos) (aad K n t):=hK▸J1 hc h hn fw
end
theorem u0:∀{ns:List Int} {us:aA},Vals (ns.map V.int) us→IntsAre us ns
 |[],_,.nil=> .nil
 |n::r,_,.cons ⟨t,e⟩ q=>by
  subst e;exact .cons n t (u0 q)
section
variable{X:Cx}{tg:Expr}
def alp:R2:=fun x y H Q=>∃(a b:Addr) (ns ms:List Int),x= .ref a∧y= .ref b∧H a=some (.lst (ns.map V.int))∧H b=some (.lst (ms.map V.int))∧Q (.bl (!decide (ns=ms))) H
theorem EI(hu:X.A.units+100<cLine):qB X (compareOp .NotEq) alp:=by
 intro pins s σ H x y v u Q I rx ry h;obtain⟨a,b,ns,ms,rfl,rfl,ha,hb,q⟩:=h;cases rx;cases ry;obtain⟨bz,r,pl,hz⟩:=I.list (bB.of ha);obtain⟨xU,r2,pl2,hz2⟩:=I.list (bB.of hb);exact PySem.W.ne_intsK pl.isList (u0 r) pl2.isList (u0 r2) (by omega) ⟨.bl _,H,I,rfl,q⟩
end
section
variable{X:Cx}{tg:Expr}
end
section
variable{X:Cx}{pins:aL}{σ:St}{H:Hp}{s:Shared}{h' :Heap}
end
section
variable{X:Cx}{tg:Expr}
end
structure xl(K:Frag)(C:Addr)(m:Str)(f:Addr):Prop where
 sp:PySem.W.specialIn K (.ref C) "__getattribute__"=some (some (.builtin "type.__getattribute__"))
 rd:PySem.W.readsIn K C (.type "type")=true
 at_:PySem.W.findCls K (.ref C) (.type "type") m=some (.val (.ref f))
 kp:PySem.W.keepIn K (.ref f)=true
section
variable{X:Cx}{CX:Bl}{k:Nat}{f C:Addr}{fd:FuncData}{ps:aX}{sp:Sp}{qX:az}{ds:aA}{E:XK}{x m:Str}{p pos apos:Pos}{e:Expr}{es:cR}{t:TA}
theorem p9{pl:Sem Bool}(c:xl X.K C m f)(hg:Gl X x)(hm:X.mg x=some (.ref C))(F:aV X.prog X.w X.K X.mg X.base CX k f fd ps sp)(hr:eT k X.A)(hb:Binds X.K fd ps ds)(hd:Vals qX ds)(hx:wT CX X E)(ha:PA X (e::es) t)
 (BX:(x==("__debug__" :Str))=false:=by decide) (fw:starEach (e::es) X.env=(false,eval e X.env)::starEach es X.env:=by rfl) (rK:(backTo pos (starEach es X.env)).any (·.1)=false:=by rfl)
 (ht:eval (.Call (.Attribute (.Name x p) m apos) (e::es) [] pos) X.env=(do
  let ov←eval (.Name x p) X.env
  standAt apos.atName
  let(f,first)←holding [ov] (getMethod ov m pl)
  callWith pos f first (backTo pos (starEach (e::es) X.env)) (backToKw pos (keywordEach [] X.env))):=by rfl):
 PE X (.Call (.Attribute (.Name x p) m apos) (e::es) [] pos) (Tc sp qX E t):=by
 intro pins s σ H Q I h;refine methodCall_KW (pl:=pl) (ou I hg hm ?_ BX) ht;refine PySem.W.method_cls I.lD c.sp (PySem.W.cls_value I.lD c.rd c.at_ rfl ?_);refine callWith_K (first:=[]) (h₀:=X.base) I.ok.mod.Oy c.kp (cm (ha pos pins _ σ H _ (I.tok _) h) fun us s2 ⟨vs,H2,I2,r,q2⟩=>⟨I2.lD,?_⟩) fw rK;exact AX F hr hb hd hx I2 r q2
end
section
variable{X:Cx}{o e f:Expr}{apos fL:Pos}{td ty tx:TE}
def VH(td ty tx:TE):TE:=fun σ H Q=>td σ H fun x H1=>∃a,x= .ref a∧IsD H1 a∧ty σ H1 fun y H2=>tx σ H2 fun z H3=>∃kvs k,H3 a=some (.dK kvs)∧y=kV k∧kvs.length<sizeLine∧
 (∀v,bA kvs k=some v→Q v H3)∧(bA kvs k=none→Q z (upd H3 a (.dK (v4 kvs k z))))
theorem BQ{pins:aL}{σ:St}{H:Hp}{s:Shared}{a:Addr}{kvs:bK}{k:wp}{z:V}{u r:Value}{A:Around}{E:Value→Shared→Prop}{Q:Value→Shared→Prop}(I:Inv X pins σ H s)(ea:H a=some (.dK kvs))(ry:RelV (kV k) u)(rz:RelV z r)(hl:kvs.length<sizeLine)
 (h1:∀v,bA kvs k=some v→∀w' s',Inv X pins σ H s'→RelV v w'→Q w' s') (h2:bA kvs k=none→∀s',Inv X pins σ (upd H a (.dK (v4 kvs k z))) s'→Q r s'):
 wpAny (model X.prog X.w) A (call (.builtin "dict.setdefault") [.ref a,u,r]) Q E s:=by
 obtain⟨hz,hd,vs,rel,dd⟩:=xf I.bD ea
 refine call_meetsIn slot_dict_setdefault dd.typeIs PySem.F.entry_dict_setdefault (PySem.F.args_dict_setdefault_3 _ _ _) (kt_meets_setdefault (bI X.prog X.w) a (vj ry) hd r)
  ⟨vs,dd,by rw[←rel.length];exact hz,fun v hv=> ?_,fun hn h' Ek hs=> ?_⟩
 ·have q:=rel.val k;rw[hv] at q
  cases e:bA kvs k with
  |none=>rw[e] at q;cases q
  |some v' =>
   rw[e] at q;exact h1 v' e v _ (I.tok _) q
 ·have q:=rel.val k;rw[hn] at q
  have e:bA kvs k=none:=by
   cases e:bA kvs k with
   |none=>rfl
   |some v' =>rw[e] at q;cases q
  have he:∃q,h'.get? a=some q:=let⟨q,_,_,hq,_⟩:=Ek;⟨q,hq⟩
  refine h2 e _ (wB I (by rw[ea];exact True.intro) hs he (xy (by have:=dF kvs k z;omega) hd (rel.put k rz) Ek))
theorem LG(ho:PE X o td)(he:PE X e ty)(hf:PE X f tx)(m:M2 X o "setdefault" apos e f fL):PE X (.Call (.Attribute o "setdefault" apos) [e,f] [] fL) (VH td ty tx):=by
 intro pins s σ H Q I h;refine wpAny_Call_method m.base m.few m.line plainAttrs_dict slot_dict_setdefault PySem.F.type_dict_setdefault (cm (ho pins s σ H _ I h) fun u s1 ⟨x,H1,I1,rx,a,ex,d,q1⟩=> ?_);subst ex;obtain rfl:u=Value.ref a:=rx;obtain⟨t1,t2,_⟩:=JW I1 d;refine⟨t1,t2,?_⟩;rw[m.trees]
 refine Calls.callWith_builtin rfl (Calls.evalArgs_plain (Calls.spliced_cons (cm (he pins s1 σ H1 _ I1 q1) fun iv s2 ⟨y,H2,I2,ry,q2⟩=>
  Calls.spliced_cons (cm (hf pins s2 σ H2 _ I2 q2) fun fv s3 ⟨z,H3,I3,rz,kvs,k,ea,ey,hl,q3,q4⟩=>Calls.spliced_nil ?_))))
 subst ey;exact BQ I3 ea ry rz hl (fun v hv w' s4 I4 D8 =>⟨v,H3,I4,D8,q3 v hv⟩) fun hn s4 I4=>⟨z,_,I4,rz,q4 hn⟩
end
section
variable{X:Cx}
theorem FC:∀(ns:List Int) (i:Nat),PySem.preSum (fun j=>ns.getD j 0) i=(ns.take i).sum
 |ns,0=>by simp[PySem.preSum]
 |ns,i+1=>by
  show PySem.preSum (fun j=>ns.getD j 0) i+ns.getD i 0=_;rw[FC ns i,List.take_add_one,List.sum_append]
  cases e:ns[i]? with
  |none=>simp[List.getD_eq_getElem?_getD,e]
  |some v=>simp[List.getD_eq_getElem?_getD,e]
theorem xo(hc:X.calm=true):gf X (.builtin "sum") (fun xs H Q=>∃(a:Addr) (ns:List Int),xs=[.ref a]∧H a=some (.lst (ns.map V.int))∧ns.length≤2000∧(∀n∈ns,0≤n∧n≤1000000)∧Q (.int ns.sum) H):=by
 intro pins s σ H xs us Q I r h;obtain⟨a,ns,rfl,ha,hl,hb,q⟩:=h;obtain⟨u,rfl,ru⟩:=xL r;cases ru;obtain⟨bz,r,pl,hz⟩:=I.list (bB.of ha);have hlen:=r.length;rw[List.length_map] at hlen;have eQ:=I.bD.lt ha;have I1:Inv X pins σ H {s with heap:=s.heap.push {cls:= .type "list_iterator",data:= .fields #[.ref a,.int 0 0]}}:=I.kept (t' :=s.toks) fun b u e=>Heap.get?_push_of_some _ e
 have aa5:∀j,0≤ns.getD j 0∧ns.getD j 0≤1000000:=fun j=>by
  rw[List.getD_eq_getElem?_getD]
  cases e:ns[j]? with
  |none=>simp
  |some v=>exact hb v (List.mem_of_getElem? e)
 have ake:∀j,0≤PySem.preSum (fun j=>ns.getD j 0) j∧PySem.preSum (fun j=>ns.getD j 0) j≤1000000*(j:Int):=by
  intro j
  induction j with
  |zero=>simp[PySem.preSum]
  |succ j ih=>
   have:=aa5 j;show 0≤PySem.preSum (fun j=>ns.getD j 0) j+ns.getD j 0∧PySem.preSum (fun j=>ns.getD j 0) j+ns.getD j 0≤_
   push_cast
   omega
 refine call_sum_walk (wpAny_pyIter_list pl.isList ⟨_,_,_,_,_,_,fun i=>ns.getD i 0,rfl,Walks.list (A:=X.A.in1) (I.ok.hd hc) _ a (Nat.ne_of_lt eQ) bz.toArray,⟨⟨_,Heap.get?_push_size _ rfl,rfl,rfl⟩,pl.isList.push _⟩,?_,?_,?_,fun h' tk t' k=> ?_⟩)
 ·intro b yn;have yn :b=s.heap.objs.size∨b=a:=by simpa using yn
  show b<(s.heap.push _).objs.size;rw[Heap.size_push];rcases yn with rfl|rfl
  ·exact Nat.lt_succ_self _
  ·exact Nat.lt_succ_of_lt eQ
 ·intro i v hv;have hv:bz[i]? =some v:=by simpa using hv
  have hi:i<bz.length:=(List.getElem?_eq_some_iff.mp hv).1;have hx:(ns.map V.int)[i]? =some (V.int ns[i]):=by simp[show i<ns.length by omega]
  obtain⟨u,hu,t,rfl⟩:=r.get hx;rw[hv] at hu;cases hu;refine⟨t,?_⟩;dsimp only;rw[List.getD_eq_getElem?_getD,List.getElem?_eq_getElem (by omega)];rfl
 ·intro j hj;have hj:j<bz.length:=by simpa using hj
  have h1:=aa5 j;have h2:=ake (j+1)
  push_cast at h2
  unfold PySem.InLong;dsimp only;refine⟨?_,?_⟩<;>(constructor<;>omega)
 ·refine⟨.int ns.sum,H,I1.turned (fun b o hb e=>k b o (by simpa using hb) e) (I.bD.fresh (Nat.le_refl _)) (fun z=> ?_) (.inr I.sz) (fun x c e z=> ?_) (fun p hp z=> ?_),⟨t',?_⟩,q⟩
  ·exact absurd (z▸I.lt) (Nat.lt_irrefl _)
  ·obtain⟨v,o,ho,_⟩:=I.cell x c e;exact absurd (z▸Heap.lt_size ho) (Nat.lt_irrefl _)
  ·obtain⟨ho,_⟩:=I.pin p hp;exact absurd (z▸Heap.lt_size ho) (Nat.lt_irrefl _)
  ·rw[FC,List.size_toArray,←hlen,List.take_length]
end
theorem tj{J:It}{n k:Nat}{js:List Nat}{Y:Nat→V→Hp→Prop}{g:TG}{te:TE}{σ:St}{H:Hp}{Q:VK}(E:Nat→V→Hp→Prop)(F:pR J H n Y)(hlen:n≤sizeLine)
 (fw:∀i v H1 H2,(∀c xs,H1 c=some (.tup xs)→H2 c=some (.tup xs))→E i v H1→E i v H2)
 (ll:∀(i:Nat) (x:V) (H' :Hp) (C1:V→Hp→Prop),i<n→au H H'→Y i x H'→(∀v lC,au H' lC→E i v lC→C1 v lC)→
  g x (v7 k js σ) H' fun nT H2=>gk (v7 k js σ) nT∧te nT H2 C1)
 (hq:∀p H' ys,H p=none→au H H'→H' p=some (.lst ys)→ys.length=n→(∀i v,ys[i]? =some v→E i v H')→Q (.ref p) H'):
 mY J k js g VW te σ H Q:=by
 intro p hp
 refine⟨fun i m ys H' =>m=n - i∧i≤n∧ys.length=i∧H' p=some (.lst ys)∧au H H'∧∀j v,ys[j]? =some v→E j v H',
  ⟨n,rfl,Nat.zero_le _,rfl,ae,au.upd hp,fun j v e=>by simp at e⟩,?_⟩
 rintro i m ys H' ⟨rfl,hi,rX,hl,hs,hE⟩
 refine⟨hl,?_⟩;by_cases eQ:i<n
 ·refine .inr ⟨F.go i _ hs eQ,by omega,fun x lC hy=> ?_⟩;obtain⟨s1,y1⟩:=F.wd i _ x lC hs eQ hy;have hb:=ll i x lC (fun v H4=>H4 p=some (.lst ys)∧∃m',m' <n - i∧(m' =n - (i+1)∧i+1≤n∧(ys++[v]).length=i+1∧upd H4 p (.lst (ys++[v])) p=some (.lst (ys++[v]))∧au H (upd H4 p (.lst (ys++[v])))∧∀j v',(ys++[v])[j]? =some v'→E j v' (upd H4 p (.lst (ys++[v]))))) eQ (hs.trans s1) y1 ?_
  ·exact hb
  ·intro v H4 s4 e4;have hp4:H4 p=some (.lst ys):=s4 _ _ (s1 _ _ hl)
   have tk:∀c xs,H4 c=some (.tup xs)→upd H4 p (.lst (ys++[v])) c=some (.tup xs):=fun c xs e=>by
    rw[af (aJ e hp4 (by intro z;cases z))];exact e
   refine⟨hp4,n - (i+1),by omega,rfl,eQ,by simp[rX],ae,fun c o e=> ?_,fun j v' e=> ?_⟩
   ·rw[af (ag e hp)];exact s4 _ _ (s1 _ _ (hs _ _ e))
   ·by_cases hj:j<ys.length
    ·rw[List.getElem?_append_left hj] at e;exact fw _ _ _ _ tk (fw _ _ _ _ (fun c xs q=>s4 _ _ (s1 _ _ q)) (hE j v' e))
    ·rw[List.getElem?_append_right (by omega)] at e
     have QA:j - ys.length=0:=by
      have:=(List.getElem?_eq_some_iff.mp e).1;simp at this;omega
     rw[QA] at e;cases e;have:j=i:=by omega
     subst this;exact fw _ _ _ _ tk e4
 ·have e:i=n:=by omega
  subst e;exact .inl ⟨F.stop _ _ hs (Nat.le_refl _),hq p H' ys hp hs hl rX hE⟩
section
variable{X:Cx}{e:Expr}{ta:TA}{p pos p' pos' :Pos}
end
section
variable{X:Cx}{e lo ZX:Expr}{te tl ts:TE}{pos p2:Pos}
end
def KA(X:Cx)(a:Addr):Prop:=∀o u,X.H₀ a≠some (.gz o u)
section
variable{X:Cx}{pins:aL}{σ:St}{H:Hp}{s:Shared}{d:Addr}{kvs:bK}
theorem Inv.nfz(I:Inv X pins σ H s)(e:H d=some (.dK kvs)):KA X d:=fun o u q=>by
 have:=I.base.pH d o u q;rw[e] at this;cases this
theorem Inv.swap{u:HO}{v:HO}(I:Inv X pins σ H s)(e:H d=some u)(nf:KA X d)(h1:∀xs,u≠.tup xs)(h2:∀y,u≠.own y)(h3:∀ps,u≠.Pc ps)(ok:bq X.prog X.w (upd H d v) s.heap d v):Inv X pins σ (upd H d v) s:=by
 have ne:∀b,H b=none→b≠d:=fun b q z=>by rw[z,e] at q;cases q
 refine⟨I.ok,I.os,I.bare,⟨I.base.keep,I.base.slot,fun b o q n hx=> ?_,I.base.there,fun b xs q=> ?_,fun b o w q=> ?_,fun b ps q=> ?_⟩,I.loc,I.cell,?_,fun x c q=> ?_,fun p hp=> ?_,fun b w q=> ?_,I.len⟩
 ·have:=I.base.free b o q n hx;rw[af (ne b this)];exact this
 ·have:=I.base.rS b xs q;rw[af (fun z=>by rw[z,e] at this;exact h1 xs (Option.some.inj this))];exact this
 ·have:=I.base.pH b o w q;rw[af (fun z=>nf o w (by rw[←z];exact q))];exact this
 ·obtain⟨more,this⟩:=I.base.rT b ps q;refine⟨more,?_⟩;rw[af (fun z=>by rw[z,e] at this;exact h3 _ (Option.some.inj this))];exact this
 ·rw[af (ne _ I.free)];exact I.free
 ·have:=I.jf x c q;rw[af (ne _ this)];exact this
 ·obtain⟨a1,a2,a3⟩:=I.pin p hp;refine⟨a1,?_,a3⟩;rw[af (ne _ a2)];exact a2
 ·by_cases hb:b=d
  ·subst hb;rw[ae] at q;cases q;exact ok
  ·rw[af hb] at q;refine(I.bD b w q).qR (fun c v hc q' =>q') (fun c q' => ?_) fun c ys q' => ?_
   ·rw[af (fun z=>by rw[z,e] at q';exact h2 _ (Option.some.inj q'))];exact q'
   ·rw[af (fun z=>by rw[z,e] at q';exact h1 _ (Option.some.inj q'))];exact q'
theorem Inv.freeze{o:Obj}(I:Inv X pins σ H s)(e:H d=some (.dK kvs))(ho:s.heap.get? d=some o):Inv X pins σ (upd H d (.gz o (.dK kvs))) s:=
 I.swap e (I.nfz e) (fun _ z=>nomatch z) (fun _ z=>nomatch z) (fun _ z=>nomatch z) ⟨ho,show bq X.prog X.w H s.heap d (.dK kvs) from I.bD d _ e⟩
theorem Inv.Yy{o:Obj}(I:Inv X pins σ H s)(e:H d=some (.gz o (.dK kvs)))(nf:KA X d):Inv X pins σ (upd H d (.dK kvs)) s:=by
 have bD:=(show bq X.prog X.w H s.heap d (.gz o (.dK kvs)) from I.bD d _ e).2;exact I.swap e nf (fun _ z=>nomatch z) (fun _ z=>nomatch z) (fun _ z=>nomatch z) bD
end
theorem Ri{P:Program}{w:World}{k:wp}{u:Value}(h:(bI P w).is k u=true):RelV (kV k) u:=by
 have h:pT k u=true:=h
 cases k with
 |inl i=>
  cases u with
  |int j t=>
   have:j=i:=by simpa[pT,Value.isInt] using h
   subst this;exact⟨t,rfl⟩
  |_=>simp[pT,Value.isInt] at h
 |inr x=>
  cases u with
  |str y t=>
   have:y=x:=by simpa[pT,Value.isStrOf] using h
   subst this;exact⟨t,rfl⟩
  |_=>simp[pT,Value.isStrOf] at h
theorem Kj{kvs:bK}{vs:List (wp×Value)}(r:KV kvs vs):∀{i:Nat} {p:wp×V} {k:wp} {x:Value},kvs[i]? =some p→vs[i]? =some (k,x)→p.1=k:=by
 unfold KV at r
 induction r with
 |nil=>intro i p k x h;simp at h
 | @cons a b as bs h t ih=>
  intro i p k x h1 h2
  cases i with
  |zero=>
   simp at h1 h2;subst h1 h2;exact h.1
  |succ i=>exact ih (by simpa using h1) (by simpa using h2)
def Itk(d:Addr)(o:Obj)(kvs:bK):It:=
 ⟨fun i H=>i<kvs.length∧H d=some (.gz o (.dK kvs)),fun i H x H' =>H' =H∧∃k v,kvs[i]? =some (k,v)∧x=kV k,fun i H=>kvs.length≤i∧H d=some (.gz o (.dK kvs))⟩
theorem GV{P:Program}{w:World}{K:Frag}{tg:Expr}(d it:Addr)(o:Obj)(kvs:bK)(ep:Nat)(es:Array DictEntry)(hd:o.data= .dict es ep):
 Turn P w K tg (Itk d o kvs) [it] it (fun i h=>h.IsKeyIter it d i kvs.length ep) where
 mem:=by simp
 obj:=fun i h st b hb=>by
  have e:b=it:=by simpa using hb
  subst e;obtain⟨ob,e,c,dd⟩:=st;exact⟨ob,e,fun v z=>by rw[dd] at z;cases z⟩
 keep:=fun i h h' st k=>st.at fun ob e=>k it (by simp) ob e
 item:=by
  intro X hP hw hK hc i pins s σ H E I hf st hg;subst hP hw hK;obtain⟨hi,hq⟩:=hg;obtain⟨ho,z,hs,vs,rel,o',Pk,Pq,g1,g2,g3,g4,g5,g6⟩:=(show bq X.prog X.w H s.heap d (.gz o (.dK kvs)) from I.bD d _ hq);rw[ho] at g1;cases g1;rw[hd] at g3;cases g3;have hl:=rel.length;obtain⟨⟨k,x⟩,hx⟩:∃p,vs[i]? =some p:=⟨vs[i],by simp[show i<vs.length by omega]⟩;obtain⟨f0,f1,f2,f3,f4,f5⟩:=hf it (by simp);rw[hl] at st;refine wpAny_pyNext_dict_item (knd:=bI X.prog X.w) st ⟨o,es,ho,g2,hd,g4,g5,g6⟩ hx fun key h' Bs Jo IH => ?_;have I1:Inv X pins σ H {s with heap:=h'}:=I.turned (t' :=s.toks) (fun b ob hb e=>(IH.2 b hb).trans e) f0 f1 f3 f4 f5;rw[←hl] at Jo;obtain⟨ob,e,c,dd⟩:=id Jo
  obtain⟨p,hp,GO,wX⟩:∃p:wp×V,kvs[i]? =some p∧p.1=k∧True:=by
   have:kvs[i]? =some kvs[i]:=by simp[hi]
   exact⟨_,this,Kj rel this hx,trivial⟩
  exact⟨key,rfl,FG (s:={s with heap:=h'}) e c dd (by decide) ⟨kV k,H,I1,Ri Bs,⟨rfl,p.1,p.2,hp,by rw[GO]⟩,Jo,fun b hb=>(hf b hb).1⟩⟩
 done:=by
  intro X hP hw hK hc i pins s σ H E I hf st hg;subst hP hw hK;obtain⟨hi,hq⟩:=hg;obtain⟨ho,z,hs,vs,rel,o',Pk,Pq,g1,g2,g3,g4,g5,g6⟩:=(show bq X.prog X.w H s.heap d (.gz o (.dK kvs)) from I.bD d _ hq);rw[ho] at g1;cases g1;rw[hd] at g3;cases g3;have hl:=rel.length;obtain⟨f0,f1,f2,f3,f4,f5⟩:=hf it (by simp);rw[hl] at st;exact wpAny_pyNext_dict_end (knd:=bI X.prog X.w) (I.ok.hd hc) st ⟨o,es,ho,g2,hd,g4,g5,g6⟩ (by simp;omega) fun h' eb=>⟨rfl,I.turned (t' :=s.toks) (fun b ob hb e=>eb b ob hb e) f0 f1 f3 f4 f5⟩
 self:=fun _ _ _ _ _ st h=>wpAny_pyIter_keyiter st h
section
variable{X:Cx}{tg e:Expr}{te:TE}
def aby(X:Cx)(te:TE):TI:=fun σ H R=>te σ H fun x H1=>∃a kvs,x= .ref a∧H1 a=some (.dK kvs)∧∀o,KA X a→R (Itk a o kvs) (upd H1 a (.gz o (.dK kvs)))
theorem Qr(he:PE X e te):PI X tg e (aby X te):=by
 intro pins s σ H R I h;refine cm (he pins s σ H _ I h) fun v s1 ⟨x,H1,I1,r1,a,kvs,ex,hq,q⟩=> ?_;subst ex;cases r1;obtain⟨z,hs,vs,rel,o,es,ep,g1,g2,g3,g4,g5,g6⟩:=xf I1.bD hq;have hl:=rel.length;refine wpAny_pyIter_dict (knd:=bI X.prog X.w) (kvs:=vs) (ep:=ep) hs ⟨o,es,g1,g2,g3,g4,g5,g6⟩ ?_;have I2:=I1.freeze hq g1;have hn:H1 s1.heap.objs.size=none:=I1.bD.fresh (Nat.le_refl _);have hf:u2 X pins (upd H1 a (.gz o (.dK kvs))) s1.heap.objs.size:=I1.Bh (Nat.le_refl _) (by rw[af (fun z=>by rw[z,hq] at hn;cases hn)];exact hn);refine⟨s1.heap.objs.size,[s1.heap.objs.size],_,_,_,rfl,I2.kept (t' :=s1.toks) fun b ob e=>Heap.get?_push_of_some _ e,GV a _ o kvs ep es g3,⟨_,Heap.get?_push_size _ rfl,rfl,by rw[hl];rfl⟩,fun b hb=> ?_,q o (I1.nfz hq)⟩;have e:b=s1.heap.objs.size:=by simpa using hb
 subst e;exact hf
def aaM(X:Cx)(t:TE):TE:=fun σ H Q=>t σ H fun v H' =>∃d o kvs,H' d=some (.gz o (.dK kvs))∧KA X d∧Q v (upd H' d (.dK kvs))
theorem Fz{t:TE}(he:PE X e t):PE X e (aaM X t):=by
 intro pins s σ H Q I h;refine cm (he pins s σ H _ I h) fun u s1 ⟨v,H1,I1,r1,d,o,kvs,ed,nf,q⟩=> ?_;exact⟨v,_,I1.Yy ed nf,r1,q⟩
end
theorem Ep{d:Addr}{o:Obj}{kvs:bK}{H:Hp}(h:H d=some (.gz o (.dK kvs))):pR (Itk d o kvs) H kvs.length (fun i x _=>∃k v,kvs[i]? =some (k,v)∧x=kV k) where
 go:=fun i H' s hi=>⟨hi,s _ _ h⟩
 wd:=fun i H' x lC s hi q=>⟨q.1▸au.refl H',q.2⟩
 stop:=fun i H' s hi=>⟨hi,s _ _ h⟩
structure IA(h:Heap)(e T:Addr)(oe:Obj):Prop where
 at_:h.get? e=some oe
 fs:∃vs,oe.data= .fields vs∧vs[1]? =some (.ref T)
 ne:T≠e
 tr:∃oT ts,h.get? T=some oT∧oT.data= .fields ts∧ts[3]? =some .none
section
variable{M:Model}{A:Around}{E:Value→Shared→Prop}{s:Shared}
theorem qF{base:Heap}{env:Env}{outer:List Env}{L e:Addr}{oe:Obj}{vs:Array Value}{head:Value}{OI:Bool}{Q:Unit→Shared→Prop}
 (qD:A.frames=some (env::outer)) (hl:s.heap.FunFrames base (env::outer)) (hf:env.frame=some L)
 (he:s.heap.get? e=some oe) (hd:oe.data= .fields vs) (hsz:1<vs.size)
 (h:∀h' T,s.heap.objs.size≤T→IA h' e T (oe.mapFields (·.setIfInBounds 1 (.ref T)))→(∀b o,b≠e→b∉(env::outer).filterMap (·.frame)→s.heap.get? b=some o→h'.get? b=some o)→
  (∀b o,b≠e→s.heap.get? b=some o→∃sl,h'.get? b=some {o with slots:=sl})→Q () {s with heap:=h'}):
 wpAny M A (do let a←frameOf env;let pl←entryPlaceOf L OI;let b←EntryCells.newEntry head a .none (rawInt L) .none pl;setField (.ref e) 1 b) (fun _ s' =>wpAny M A (setFlight (.ref e) none) Q E s') E s:=by
 have akT:e∉(env::outer).filterMap (·.frame):=fun hm=>by
  obtain⟨_,o,ho,Qj⟩:=hl.mem hm
  rw[he] at ho;injection ho with ho;subst ho;exact Qj vs hd
 refine wpAny_bind (wpAny_frameOf_fun qD hl hf fun i5 GC=> ?_);refine wpAny_bind (wpAny_entryPlaceOf fun pl rK=> ?_);unfold EntryCells.newEntry newFields;refine wpAny_bind (wpAny_newObj_type ?_ (rK.sizeOk5 _ _ _ _ _));have Sm:i5.get? e=some oe:=(GC.2.1 e akT).trans he;have T7:=Heap.get?_push_of_some (h:=i5) {cls:= .type "traceback",dict:=none,data:= .fields ([head,.ref L,.none,rawInt L,.none]++(if pl.isEmpty then List.replicate 6 Value.none else pl)).toArray} Sm;refine wpAny_setField T7 hd hsz ?_;have D0:i5.objs.size≠e:=Nat.ne_of_gt (Heap.lt_size Sm);have Nn:=Obj.data_mapFields hd (·.setIfInBounds 1 (Value.ref i5.objs.size));have Sv:=Heap.get?_update_self (Obj.mapFields (·.setIfInBounds 1 (Value.ref i5.objs.size))) T7 (Obj.isFreed_of_fields Nn)
 have SA:=(Heap.get?_update_other (i5.push {cls:= .type "traceback",dict:=none,data:= .fields ([head,.ref L,.none,rawInt L,.none]++(if pl.isEmpty then List.replicate 6 Value.none else pl)).toArray})
  (Obj.mapFields (·.setIfInBounds 1 (Value.ref i5.objs.size))) (Ne.symm D0)).trans (Heap.get?_push_size i5 rfl)
 unfold setFlight;refine wpAny_bind (wpAny_field Sv Nn (x:= .ref i5.objs.size) (by simp[hsz]) ?_);rw[if_pos (show(Value.ref i5.objs.size !=Value.none)=true from by simp)];refine wpAny_setField SA rfl (by simp only[List.size_toArray,List.length_append,List.length_cons,List.length_nil]<;>omega) (h _ i5.objs.size ?_ ?_ ?_ ?_)
 ·rw[GC.1];exact Nat.le_refl _
 ·refine⟨?_,⟨_,Nn,by simp[hsz]⟩,D0,_,_,Heap.get?_update_self _ SA (Obj.isFreed_of_fields (Obj.data_mapFields rfl _)),Obj.data_mapFields rfl _,by first|(simp;done)|(rcases rK with rfl|⟨_,_,_,_,_,_,_,rfl⟩<;>simp)⟩;rw[Heap.get?_update_other _ _ D0];exact Sv
 ·intro b o yo VN hb;have CB:=(GC.2.1 b VN).trans hb;have EY:i5.objs.size≠b:=Nat.ne_of_gt (Heap.lt_size CB);rw[Heap.get?_update_other _ _ EY,Heap.get?_update_other _ _ (Ne.symm yo)];exact Heap.get?_push_of_some _ CB
 ·intro b o yo hb;obtain⟨sl,CB⟩:=GC.2.2 b o hb;have EY:i5.objs.size≠b:=Nat.ne_of_gt (Heap.lt_size CB);refine⟨sl,?_⟩;rw[Heap.get?_update_other _ _ EY,Heap.get?_update_other _ _ (Ne.symm yo)];exact Heap.get?_push_of_some _ CB
theorem Cn{base:Heap}{env:Env}{outer:List Env}{L e:Addr}{oe:Obj}{vs:Array Value}{Q:Unit→Shared→Prop}
 (qD:A.frames=some (env::outer)) (hl:s.heap.FunFrames base (env::outer)) (hf:env.frame=some L)
 (he:s.heap.get? e=some oe) (hd:oe.data= .fields vs) (h1:vs[1]? =some .none)
 (h:∀h' T,s.heap.objs.size≤T→IA h' e T (oe.mapFields (·.setIfInBounds 1 (.ref T)))→(∀b o,b≠e→b∉(env::outer).filterMap (·.frame)→s.heap.get? b=some o→h'.get? b=some o)→
  (∀b o,b≠e→s.heap.get? b=some o→∃sl,h'.get? b=some {o with slots:=sl})→Q () {s with heap:=h'}):wpAny M A (leaving env (.ref e)) Q E s:=by
 unfold leaving noteFrame;simp only[hf];refine wpAny_bind (wpAny_bind (wpAny_field he hd h1 ?_));rw[if_neg (by decide)];exact qF qD hl hf he hd (Array.getElem?_eq_some_iff.mp h1).1 h
theorem E1{base:Heap}{env:Env}{outer:List Env}{L e T:Addr}{oe:Obj}{Q:Unit→Shared→Prop}
 (qD:A.frames=some (env::outer)) (hl:s.heap.FunFrames base (env::outer)) (hf:env.frame=some L) (ht:IA s.heap e T oe)
 (h:∀h' T',s.heap.objs.size≤T'→IA h' e T' (oe.mapFields (·.setIfInBounds 1 (.ref T')))→(∀b o,b≠e→b≠T→b∉(env::outer).filterMap (·.frame)→s.heap.get? b=some o→h'.get? b=some o)→
  (∀b o,b≠e→b≠T→s.heap.get? b=some o→∃sl,h'.get? b=some {o with slots:=sl})→Q () {s with heap:=h'}):wpAny M A (leaving env (.ref e)) Q E s:=by
 obtain⟨he,⟨vs,hd,h1⟩,D0,oT,ts,hT,ee,h3⟩:=ht;unfold leaving noteFrame;simp only[hf];refine wpAny_bind (wpAny_bind (wpAny_field he hd h1 ?_));rw[if_pos (show(Value.ref T !=Value.none)=true from by simp)];refine wpAny_bind (wpAny_field hT ee h3 ?_);rw[if_neg (show ¬((Value.none==rawInt L)=true) from by simp[rawInt])];refine wpAny_bind (wpAny_setField hT ee (Array.getElem?_eq_some_iff.mp h3).1 ?_);have other:∀b,b≠T→(s.heap.update T (Obj.mapFields (·.setIfInBounds 3 Value.none))).get? b=s.heap.get? b:=fun b hb=>Heap.get?_update_other _ _ (Ne.symm hb)
 have xJ:∀b o,s.heap.get? b=some o→(∀vs,o.data≠.fields vs)→b≠T:=fun b o hb Qj q=>by
  rw[q,hT] at hb;injection hb with hb;subst hb;exact Qj ts ee
 refine qF qD (hl.of_keeps fun b o hb Qj=>⟨o,(other b (xJ b o hb Qj)).trans hb,rfl⟩) hf ((other e (Ne.symm D0)).trans he) hd (Array.getElem?_eq_some_iff.mp h1).1
  fun h' T' hn fl k1 k2=>h h' T' ?_ fl (fun b o yo EY VN hb=>k1 b o yo VN ((other b EY).trans hb)) fun b o yo EY hb=>k2 b o yo ((other b EY).trans hb)
 have Ii :(s.heap.update T (Obj.mapFields (·.setIfInBounds 3 Value.none))).objs.size≤T' :=hn;rw[Heap.size_after_update] at Ii;exact Ii
end
structure gC(bm:aA):Prop where
 hasB:bm.contains (.type "ValueError")=true
 hasBase:bm.contains (.type "BaseException")=true
 noAttr:bm.contains (.type "AttributeError")=false
 noName:bm.contains (.type "NameError")=false
abbrev lx(C t:Addr):Obj:={cls:= .ref C,data:= .fields #[.ref t,.none,.none,.none,.bool false,.none]}
section
variable{prog:Program}{w:World}{A:Around}{E:Value→Shared→Prop}{h:Heap}{g:Array GenState}{d:Drawn}{t:Nat}{os:OsState}
variable{nm q:Str}{C N:Addr}{bs bm:aA}{lq:Bool}{sn:aX}{sub:aA}{ab:Bool}{col:Option Bool}{dd:Option Addr}{k0 k1 k2 k3 k5:aH}
theorem ze{M:Model}(T:gC bm){rest:aA}{Q:Unit→Shared→Prop}(hC:h.get? C=some (excClassObj nm q C N bs bm lq sn sub ab col dd k0 k1 k2 k3 k5 "ValueError.__new__"))
 (hq:Q () ⟨h,g,d,t,os⟩):wpAny M A (checkBuiltinCall "ValueError.__new__" ⟨.ref C::rest,[]⟩) Q E ⟨h,g,d,t,os⟩:=by
 have F:=excBase_ValueError;have XT:(Value.ref C::bm).contains (.type "ValueError")=true:=by rw[List.contains_cons,T.hasB,Bool.or_true]
 have ar8:=F.noStar;simp only[checkBuiltinCall,F.newKind,F.newSplit,F.newRow]
 repeat (first|refine wpAny_loadPart_at hC ?_|(refine wpAny_isSubtype_exc hC ?_;rw[XT])|refine wpAny_staticBase_exc hC ?_|refine wpAny_madeBy_exc hC ?_|simp only[bne_self_eq_false,Bool.false_eq_true,if_false]|wp_step)
 exact hq
theorem Bq(T:gC bm){R:Result→Shared→Prop}{rest:aA}(hC:h.get? C=some (excClassObj nm q C N bs bm lq sn sub ab col dd k0 k1 k2 k3 k5 "ValueError.__new__"))
 (hq:R (.ok (.ret (.ref (h.objs.size+1)))) ⟨(h.push {cls:= .type "tuple",data:= .seq rest.toArray}).push (lx C h.objs.size),g,d,t,os⟩) (hrest:rest.length≤sizeLine:=by size_fits):
 codeAny (model prog w) A (.builtin "ValueError.__new__" ⟨.ref C::rest,[]⟩) R ⟨h,g,d,t,os⟩:=by
 have F:=excBase_ValueError;have asz:=F.ends;have OX:(Value.ref C::bm).contains (.type "ValueError")=true:=by rw[List.contains_cons,T.hasB,Bool.or_true]
 have hcA:(Value.ref C::bm).contains (.type "AttributeError")=false:=by rw[List.contains_cons,T.noAttr];rfl
 have hcN:(Value.ref C::bm).contains (.type "NameError")=false:=by rw[List.contains_cons,T.noName];rfl
 refine codeAny_builtinAt F.entry ?_;unfold Builtin.«BaseException.__new__»;refine PySem.wpAt_bind ?_;show PySem.wpAt _ _ _ (stack>>= _) _ _ _;refine PySem.wpAt_bind (PySem.wpAt_stack fun p below=>PySem.wpAt_of_wpAny ?_)
 wp_walk
 refine PySem.wpAt_of_wpAny ?_;rw[F.owner]
 repeat (first|with_reducible refine wpAny_madeHere_exc F.canon hC ?_|with_reducible refine wpAny_loadPart_at hC ?_|(with_reducible refine wpAny_isSubtype_exc hC ?_;first|rw[OX]|rw[hcA]|rw[hcN])|wp_step)
 show R _ _;rw[Heap.size_push];exact hq
theorem yJ(T:gC bm){K:Frag}{rest:aA}{fI:Addr}{Q:Fin→Shared→Prop}
 (hC:h.get? C=some (excClassObj nm q C N bs bm lq sn sub ab col dd k0 k1 k2 k3 k5 "ValueError.__new__")) (X:K.In h) (hi:PySem.W.findIn K (.ref C) "__init__"=some (some (.ref fI))) (hf:PySem.W.typeIn K (.ref fI)=some (.type "function"))
 (hq:wpAny (model prog w) A (call (.ref fI) (.ref (h.objs.size+1)::rest)) (fun r s' =>r= .none∧Q (.done (.ret (.ref (h.objs.size+1)))) s') E ⟨(h.push {cls:= .type "tuple",data:= .seq rest.toArray}).push (lx C h.objs.size),g,d,t,os⟩) (hrest:rest.length≤sizeLine:=by size_fits):
 wpAny (model prog w) A (Builtin.«type.__call__» ⟨.ref C::rest,[]⟩) Q E ⟨h,g,d,t,os⟩:=by
 have F:=excBase_ValueError
 repeat (first|with_reducible refine wpAny_loadPart_at hC ?_|with_reducible refine wpAny_madeBy_exc hC ?_|wp_step)
 refine codeAny_call_builtin_code (Code.quiet_builtin _ F.quiet) (ze T hC ?_);refine Bq T hC ?_ hrest;show wpAny _ _ _ _ _ _;have hk:∀b o,h.get? b=some o→((h.push {cls:= .type "tuple",data:= .seq rest.toArray}).push (lx C h.objs.size)).get? b=some o:=fun b o e=>Heap.get?_push_of_some _ (Heap.get?_push_of_some _ e);have ab7:=hk _ _ hC;have ach:K.In ((h.push {cls:= .type "tuple",data:= .seq rest.toArray}).push (lx C h.objs.size)):=X.keeps hk;have UM:((h.push {cls:= .type "tuple",data:= .seq rest.toArray}).push (lx C h.objs.size)).get? (h.objs.size+1)=some (lx C h.objs.size):=by heap_get
 have hcC:(Value.ref C::bm).contains (.ref C)=true:=by simp
 unfold isInstance
 repeat (first|with_reducible refine wpAny_loadPart_at UM ?_|(with_reducible refine wpAny_isSubtype_exc ab7 ?_;rw[hcC])|wp_step)
 show wpAny _ _ (typeLookup (.ref C) _) _ _ _;refine(looks_findIn ach hi).here ?_;refine wpAny_holding (wpAny_bind ?_);refine(bind_fn ach (.ref (h.objs.size+1)) hf).here ?_;refine wpAny_bind (wpAny_mono hq (fun r s' hr=> ?_) fun _ _ x=>x);obtain⟨rfl,hQ⟩:=hr
 wp_walk
 exact hQ
theorem Mx(T:gC bm){K:Frag}{rest:aA}{fI:Addr}{Q:Value→Shared→Prop}
 (hC:h.get? C=some (excClassObj nm q C N bs bm lq sn sub ab col dd k0 k1 k2 k3 k5 "ValueError.__new__")) (X:K.In h) (hi:PySem.W.findIn K (.ref C) "__init__"=some (some (.ref fI))) (hf:PySem.W.typeIn K (.ref fI)=some (.type "function"))
 (hq:wpAny (model prog w) (A.under (.builtin "type.__call__" ⟨.ref C::rest,[]⟩)) (call (.ref fI) (.ref (h.objs.size+1)::rest)) (fun r s' =>r= .none∧Q (.ref (h.objs.size+1)) s') E ⟨(h.push {cls:= .type "tuple",data:= .seq rest.toArray}).push (lx C h.objs.size),g,d,t,os⟩) (hrest:rest.length≤sizeLine:=by size_fits):
 wpAny (model prog w) A (call (.ref C) rest) Q E ⟨h,g,d,t,os⟩:=by
 have f1:=tc_lookup;have f2:=tc_bind (.ref C);have hT:(⟨h,g,d,t,os⟩:Shared).TypeIs (.ref C) "type":=⟨_,hC,rfl⟩;refine wpAny_call (codeAny_of_tree ?_);show wpAny _ _ (callAny (.ref C) _) _ _ _
 repeat (any_goals (first|assumption|with_reducible refine wpAny_loadPart_at hC ?_|wp_step))
 refine⟨rfl,?_⟩;exact codeAny_call_builtin_at (Code.quiet_builtin _ (by decide+kernel)) entry_typeCall (wpAny_check_type_call_sub hC (yJ (hrest:=hrest) T hC X hi hf hq))
end
def cY(a C:Addr)(dd:Option Addr)(n:Bool)(h:Heap):Prop:=∃vs:Array Value,h.get? a=some {cls:= .ref C,dict:=dd,data:= .fields vs}∧vs.size=6∧(n=true→vs[1]? =some .none)
theorem u6{P:Program}{w:World}{H:Hp}{h:Heap}{a C:Addr}{dd:Option Addr}{n:Bool}(p:cY a C dd n h):bq P w H h a (.ext (cY a C dd n)):=by
 obtain⟨vs,e,r⟩:=p;exact⟨⟨vs,e,r⟩,⟨_,e⟩,fun h1 h2 ⟨ws,e1,r1⟩ k=>⟨ws,k _ e1,r1⟩⟩
theorem nE{P:Program}{w:World}{H:Hp}{h:Heap}{a C:Addr}{dd:Option Addr}{n:Bool}(ok:qE P w H h)(e:H a=some (.ext (cY a C dd n))):cY a C dd n h:=
 (show bq P w H h a (.ext (cY a C dd n)) from ok a _ e).1
theorem t9{H:Hp}{a:Addr}{o:HO}(h:H a=some o):upd H a o=H:=by
 funext b
 by_cases hb:b=a
 ·subst hb;rw[ae,h]
 ·rw[af hb]
structure CV(K:Frag)(C:Addr):Prop where
 obj:∃nm q N bs bm lq sn sub ab col dd k0 k1 k2 k3 k5,K.lookup C=some (excClassObj nm q C N bs bm lq sn sub ab col dd k0 k1 k2 k3 k5 "ValueError.__new__")∧gC bm
structure yl(K:Frag)(C f:Addr):Prop extends CV K C where
 init:PySem.W.findIn K (.ref C) "__init__"=some (some (.ref f))
 fn:PySem.W.typeIn K (.ref f)=some (.type "function")
 kp:PySem.W.keepIn K (.ref C)=true
section
variable{X:Cx}{CX:Bl}{k:Nat}{f C:Addr}{fd:FuncData}{ps:aX}{sp:Sp}{E:XK}{x m:Str}{p pos apos:Pos}{e o:Expr}{es:cR}{ta:TE}{t:TA}
def ET(C:Addr)(sp:Sp)(E:XK)(t:TA):TE:=fun σ H Q=>t σ H fun vs H1=>∀x,H1 x=none→sp (.ref x::vs) (upd H1 x (.ext (cY x C none true))) (fun v H2=>v= .bJ∧Q (.ref x) H2) E
theorem Ie{pins:aL}{σ:St}{H:Hp}{s:Shared}{Q:VK}{us:aA}{vs:az}(M:yl X.K C f)(F:aV X.prog X.w X.K X.mg X.base CX k f fd ps sp)(hr:eT (k+1) X.A)(hb:Binds X.K fd ps [])
 (hx:wT CX X E) (I:Inv X pins σ H s) (r:Vals vs us) (W3:us.length≤100)
 (h:∀x,H x=none→sp (.ref x::vs) (upd H x (.ext (cY x C none true))) (fun v H2=>v= .bJ∧Q (.ref x) H2) E):
 wpAny (model X.prog X.w) X.A (call (.ref C) us) (EP X pins σ Q) X.xe s:=by
 have hq:=h (s.heap.objs.size+1) (I.bD.fresh (Nat.le_succ _));obtain⟨nm,q,N,bs,bm,lq,sn,sub,ab,col,dd,k0,k1,k2,k3,k5,lk,T⟩:=M.obj;have hC:=I.lD _ _ lk;have hk:∀b u,s.heap.get? b=some u→((s.heap.push {cls:= .type "tuple",data:= .seq us.toArray}).push (lx C s.heap.objs.size)).get? b=some u:=fun b u e=>Heap.get?_push_of_some _ (Heap.get?_push_of_some _ e);have UM:((s.heap.push {cls:= .type "tuple",data:= .seq us.toArray}).push (lx C s.heap.objs.size)).get? (s.heap.objs.size+1)=some (lx C s.heap.objs.size):=by heap_get
 have I2:Inv X pins σ (upd H (s.heap.objs.size+1) (.ext (cY (s.heap.objs.size+1) C none true))) {s with heap:=(s.heap.push {cls:= .type "tuple",data:= .seq us.toArray}).push (lx C s.heap.objs.size)}:=
  I.laid (t' :=s.toks) hk (Nat.le_succ _) (u6 ⟨_,UM,rfl,fun _=>rfl⟩)
 have r2:Vals (V.ref (s.heap.objs.size+1)::vs) (Value.ref (s.heap.objs.size+1)::us):= .cons rfl r
 have hl:(Value.ref (s.heap.objs.size+1)::us++([]:aA)).length=ps.length:=by
  have e:=r2.length;rw[F.len _ _ _ _ hq] at e;rw[List.append_nil];exact e.symm
 obtain⟨hp,g,d,tk,os⟩:=s;refine Mx (hrest:=Nat.le_trans W3 (by decide)) T hC I.lD M.init M.fn (wpAny_call (codeAny_mono (F.run _ X.stack _ _ ⟨Value.ref (hp.objs.size+1)::us,[]⟩ (Value.ref (hp.objs.size+1)::us) _ _ E (hr.make C us []) (I2.Po.make C us []) ?_ r2 hq) fun r s' Nh => ?_))
 ·have:=hb _ (Value.ref (hp.objs.size+1)::us) I2.lD hl;rw[List.append_nil] at this;exact this
 ·cases r with
  |error e=>exact hx pins σ _ _ e s' I2 Nh
  |ok fl=>
   cases fl with
   |ret u=>
    obtain⟨v,H',I3,rv,ev,q3⟩:=I2.after Nh;subst ev;exact⟨rv,⟨V.ref (hp.objs.size+1),H',I3,rfl,q3⟩⟩
   |next=>exact False.elim Nh
   |brk=>exact False.elim Nh
   |cont=>exact False.elim Nh
theorem tu(M:yl X.K C f)(F:aV X.prog X.w X.K X.mg X.base CX k f fd ps sp)(hr:eT (k+1) X.A)(hg:Gl X x)(hm:X.mg x=some (.ref C))(hb:Binds X.K fd ps [])(hx:wT CX X E)
 (ha:PA X (e::es) t) (hlen:∀vs H Q E,sp vs H Q E→vs.length≤100) (BX:(x==("__debug__" :Str))=false:=by decide) (he:starEach (e::es) X.env=(false,eval e X.env)::starEach es X.env:=by rfl) (rK:(backTo pos (starEach es X.env)).any (·.1)=false:=by rfl):
 PE X (.Call (.Name x p) (e::es) [] pos) (ET C sp E t):=by
 intro pins s σ H Q I h;refine wpAny_Call_Name_kw (ou I hg hm ?_ BX);refine callWith_K (h₀:=X.base) I.ok.mod.Oy M.kp (cm (ha pos pins s σ H _ I h) fun us s1 ⟨vs,H1,I1,r,q⟩=>⟨I1.lD,?_⟩) he rK;refine Ie M F hr hb hx I1 r ?_ q;have h1:=hlen _ _ _ _ (q _ (I1.bD.fresh (Nat.le_refl _)));have h2:=r.length;rw[List.length_cons] at h1;rw[List.nil_append];omega
end
theorem D1(K:Frag):PySem.W.findCls K (.type "ValueError") (.type "type") "__init__"=some (.val (.builtin "ValueError.__init__")):=by kernel_rfl
section
variable{prog:Program}{w:World}{A:Around}{E:Value→Shared→Prop}{h:Heap}{g:Array GenState}{d:Drawn}{t:Nat}{os:OsState}
variable{nm q:Str}{C N:Addr}{bs bm:aA}{lq:Bool}{sn:aX}{sub:aA}{ab:Bool}{col:Option Bool}{dd:Option Addr}{k0 k1 k2 k3 k5:aH}
theorem yd{M:Model}(T:gC bm){e:Addr}{oe:Obj}{rest:aA}{Q:Unit→Shared→Prop}
 (hC:h.get? C=some (excClassObj nm q C N bs bm lq sn sub ab col dd k0 k1 k2 k3 k5 "ValueError.__new__")) (he:h.get? e=some oe) (A4:oe.cls= .ref C) (hq:Q () ⟨h,g,d,t,os⟩):
 wpAny M A (checkBuiltinCall "ValueError.__init__" ⟨.ref e::rest,[]⟩) Q E ⟨h,g,d,t,os⟩:=by
 have F:=excBase_ValueError;have OX:(Value.ref C::bm).contains (.type "ValueError")=true:=by rw[List.contains_cons,T.hasB,Bool.or_true]
 have aeD:=F.noStar;simp only[checkBuiltinCall,F.initKind,F.initSplit,F.initRow]
 repeat (first|(with_reducible refine wpAny_loadPart_at he ?_;rw[A4])|with_reducible refine wpAny_loadPart_at hC ?_|(with_reducible refine wpAny_isSubtype_exc hC ?_;rw[OX])|wp_step)
 refine wpAny_onRaise ?_
 rw[show ∀(a b:String) (n:Nat),Bind.check ⟨.positional,"*","ValueError",.self,[⟨"args",.varPos,false⟩]⟩ a b n (List.map (fun x=>x.fst) ({pos:=Value.ref e::rest}:Args).kw)=pure () from
  fun a b n=>check_star_args _ _ _ _ _ _]
 exact wpAny_pure hq
theorem Il(T:gC bm){e:Addr}{vs:Array Value}{de:Option Addr}{x:Value}{Q:Value→Shared→Prop}
 (hC:h.get? C=some (excClassObj nm q C N bs bm lq sn sub ab col dd k0 k1 k2 k3 k5 "ValueError.__new__")) (he:h.get? e=some {cls:= .ref C,dict:=de,data:= .fields vs}) (hv:vs.size=6)
 (hq:∀h' T',h.get? T' =none→(∀b o,b≠e→h.get? b=some o→h'.get? b=some o)→h'.get? e=some {cls:= .ref C,dict:=de,data:= .fields (vs.setIfInBounds 0 (.ref T'))}→Q .none ⟨h',g,d,t,os⟩):
 wpAny (model prog w) A (call (.builtin "ValueError.__init__") [.ref e,x]) Q E ⟨h,g,d,t,os⟩:=by
 have F:=excBase_ValueError;have hsz:0<vs.size:=by omega
 refine wpAny_call (codeAny_call_builtin F.init.plain F.initEntry (yd T hC he rfl ?_));unfold Builtin.«BaseException.__init__»
 wp_walk
 have h0:vs[0]? =some vs[0]:=Array.getElem?_eq_getElem hsz;rw[h0];have he2:=Heap.get?_push_of_some {cls:= .type "tuple",data:= .seq #[x]} he
 have fin:Q .none ⟨(h.push {cls:= .type "tuple",data:= .seq #[x]}).update e (Obj.mapFields (·.setIfInBounds 0 (.ref h.objs.size))),g,d,t,os⟩:=by
  refine hq _ h.objs.size (Heap.get?_none_of_le (Nat.le_refl _)) (fun b o hb e' => ?_) ?_
  ·rw[Heap.get?_update_other _ _ (Ne.symm hb)];exact Heap.get?_push_of_some _ e'
  ·exact Heap.get?_update_self _ he2 rfl
 generalize vs[0]=v0;refine wpAny_pure ?_;refine wpAny_bind (wpAny_setField he2 rfl hsz ?_)
 cases v0 with
 |ref a=>exact wpAny_letGo (wpAny_pure fin)
 |_=>exact wpAny_pure (wpAny_pure fin)
end
section
variable{X:Cx}{p pos apos:Pos}{e1 e2:Expr}{t:TA}
def U8(K:Frag)(t:TA):TE:=fun σ H Q=>t σ H fun vs H1=>∃a C dd n x,vs=[.ref a,x]∧H1 a=some (.ext (cY a C dd n))∧CV K C∧Q .bJ H1
theorem MS{pl:Sem Bool}(hg:Gl X "ValueError")(hm:X.mg "ValueError"=none)(ha:PA X [e1,e2] t)
 (fw:starEach [e1,e2] X.env=(false,eval e1 X.env)::starEach [e2] X.env:=by rfl) (rK:(backTo pos (starEach [e2] X.env)).any (·.1)=false:=by rfl)
 (ht:eval (.Call (.Attribute (.Name "ValueError" p) "__init__" apos) [e1,e2] [] pos) X.env=(do
  let ov←eval (.Name "ValueError" p) X.env
  standAt apos.atName
  let(f,first)←holding [ov] (getMethod ov "__init__" pl)
  callWith pos f first (backTo pos (starEach [e1,e2] X.env)) (backToKw pos (keywordEach [] X.env))):=by rfl):
 PE X (.Call (.Attribute (.Name "ValueError" p) "__init__" apos) [e1,e2] [] pos) (U8 X.K t):=by
 intro pins s σ H Q I h;refine methodCall_KW (pl:=pl) (n9 I hg hm Boot.«ValueError» ?_) ht;obtain⟨m,F⟩:=I.fr;refine PySem.W.method_type F I.mod.Oy (by kernel_rfl) (by decide+kernel) (D1 X.K) (by decide+kernel) ?_;refine PyProof.Rows.callWith_builtin1 (cm (ha pos pins _ σ H _ (I.tok _) h) fun us s1 ⟨vs,H1,I1,r1,q1⟩=> ?_) fw rK;obtain⟨a,C,dd,n,x,rfl,hx,hc,q⟩:=q1
 cases r1 with
 |cons r rr=>
  cases rr with
  |cons r' rr=>
   cases rr;cases r;obtain⟨nm,q',N,bs,bm,lq,sn,sub,ab,col,Ek,k0,k1,k2,k3,k5,lk,T⟩:=hc.obj;obtain⟨ws,he,hw,hn⟩:=nE I1.bD hx;obtain⟨hp,g,d,tk,os⟩:=s1;refine Il T (I1.lD _ _ lk) he hw fun h' T' hT k he' =>⟨.bJ,H1,?_,rfl,q⟩;have I2:=I1.write (h' :=h') (t' :=tk) (x:=a) (e:=a) (o:= .ext (cY a C dd n)) (by rw[hx];exact True.intro) (.inl rfl) k ⟨_,he'⟩ (u6 ⟨_,he',by simp[hw],fun z=>by rw[Array.getElem?_setIfInBounds_ne (by decide)];exact hn z⟩);rw[t9 hx] at I2;exact I2
end
end L2
namespace L2
open PySem PySem.Spec PyProof.Rows PySem.Builtin.ObjectAttr
theorem A8(self:Value):refuseLoop self "__setattr__" [.type "ValueError",.type "Exception",.type "BaseException",.type "object"]=pure ():=by kernel_rfl
section
variable{prog:Program}{w:World}{A:Around}{E:Value→Shared→Prop}{h:Heap}{g:Array GenState}{d:Drawn}{t:Nat}{os:OsState}
variable{nm q:Str}{C N x:Addr}{bs bm:aA}{sn:aX}{sub:aA}{ab:Bool}{col:Option Bool}{dd:Option Addr}{k0 k1 k2 k3 k5:aH}{newId:String}
 {mA:Str→aH} {name:Str} {v:Value} {K:Frag}
theorem A5{M:Model}{o:Obj}{Ud:Value}{Q:Unit→Shared→Prop}(XM:bm.contains (.type "object")=true)
 (hC:h.get? C=some (excClassObj nm q C N bs bm true sn sub ab col dd k0 k1 k2 k3 k5 newId)) (hx:h.get? x=some o) (hc:o.cls= .ref C) (hq:Q () ⟨h,g,d,t,os⟩):
 wpAny M A (checkBuiltinCall "object.__setattr__" ⟨[.ref x,Ud,v],[]⟩) Q E ⟨h,g,d,t,os⟩:=by
 have SF:=PySem.F.store_object;have OX:(Value.ref C::bm).contains (.type "object")=true:=by rw[List.contains_cons,XM,Bool.or_true]
 have ha:=SF.args (.ref x) Ud v;simp only[checkBuiltinCall,SF.kind,SF.split];refine wpAny_bind ?_
 ·unfold isInstance
  repeat (first|(with_reducible refine wpAny_loadPart_at hx ?_;rw[hc])|(with_reducible refine wpAny_isSubtype_exc hC ?_;rw[OX])|wp_step)
  exact hq
theorem vG{tk:Tok}{Q:Fin→Shared→Prop}{ns:aX}(Dd:∀self,refuseLoop self "__setattr__" bm=pure ())(X:K.In h)(hna:PySem.W.findIn K (.ref C) name=some none)
 (hC:h.get? C=some (excClassObj nm q C N bs bm true sn sub ab col dd k0 k1 k2 k3 k5 newId)) (I:h.Inst x C mA)
 (hq:∀h' DX,h'.Inst x C (fun y=>if y=name then some v else mA y)→
  (∀b o,b≠x→(∀kn dx,h.get? x=some kn→kn.dict=some dx→b≠dx)→h.get? b=some o→h'.get? b=some o)→
  (∀kn,h.get? x=some kn→∃uN,h'.get? x=some uN∧uN.cls=kn.cls∧uN.data=kn.data∧uN.slots=kn.slots∧(∀dx,kn.dict=some dx→uN.dict=some dx)∧(kn.dict=none→∃dx,uN.dict=some dx∧h.objs.size≤dx))→Q (.done (.ret .none)) ⟨h',g,d,DX,os⟩) (hw:Within mA ns) (hsz:ns.length≤1000):
 wpAny (model prog w) A (Builtin.«object.__setattr__» ⟨[.ref x,.str name tk,v],[]⟩) Q E ⟨h,g,d,t,os⟩:=by
 obtain⟨o,hx,hc,hnc,hd⟩:=I;have Dd:=Dd (.ref x);unfold Builtin.«object.__setattr__»
 repeat (first|rw[refuse_eq]|(rw[refuseLoop_ref,Dd])|(with_reducible refine wpAny_loadPart_at hx ?_;rw[hc])|with_reducible refine wpAny_mroOf_exc hC ?_|(with_reducible refine(looks_findIn X hna).here ?_)|wp_step)
 rcases hd with⟨hdn,hmA⟩|⟨dx,CY,jw,hns⟩
 ·
  rw[hdn,if_neg (by simp[typeHasDict])]
  split
  ·rename_i Ao;cases Ao
  split
  ·rename_i c Ao;exact absurd Ao (hnc c)
  ·have Tg:(h.push {cls:= .type "dict",data:= .dict #[]}).get? x=some o:=Heap.get?_push_of_some _ hx;have hxs:x≠h.objs.size:=Nat.ne_of_lt (Heap.lt_size hx);refine wpAny_bind (wpAny_alloc' ?_);refine wpAny_bind (wpAny_update' Tg ?_);refine wpAny_pure ?_
   have BY:((h.push {cls:= .type "dict",data:= .dict #[]}).update x fun o=>{cls:=o.cls,dict:=some h.objs.size,data:=o.data,slots:=o.slots}).get? h.objs.size
    =some {cls:= .type "dict",data:= .dict #[]}:=
    (Heap.get?_update_ne _ _ _ _ hxs.symm).trans (Heap.get?_push_at rfl rfl)
   have TC:((h.push {cls:= .type "dict",data:= .dict #[]}).update x fun o=>{cls:=o.cls,dict:=some h.objs.size,data:=o.data,slots:=o.slots}).Ns h.objs.size (fun _=>none):=
    ⟨_,#[],_,BY,rfl,fun e he=>absurd he (by simp),fun _=>rfl⟩
   show wpAny _ _ (storeInDict h.objs.size (.str name tk) name v) _ _ _;unfold storeInDict newKeyGuard;refine wpAny_bind (wpAny_pure (wpAny_bind (wpAny_nsSet1 (Heap.Ns1.of_empty TC) fun h' Ii hs=> ?_)));obtain⟨oD,esD,epD,hoD,hdD,hcD⟩:=Ii.count (Within.cons name v Within.nil);refine wpAny_bind (wpAny_lookBehind hoD (by rw[hdD];exact pastItsLine_dict (Nat.le_trans hcD (by rw[List.length_cons,List.length_nil,sizeLine_eq];omega))) ?_)
   wp_walk
   have Sd :h'.get? x=some {cls:=o.cls,dict:=some h.objs.size,data:=o.data,slots:=o.slots}:= ?_
   refine hq h' _ ⟨{cls:=o.cls,dict:=some h.objs.size,data:=o.data,slots:=o.slots},Sd,hc,hnc,.inr ⟨h.objs.size,rfl,hxs.symm,?_⟩⟩ (fun b ob UE _ hb=> ?_)
    (fun kn h₀=>by obtain rfl:o=kn:=Option.some.inj (hx.symm.trans h₀);exact⟨_,Sd,rfl,rfl,rfl,(fun dx e=>by rw[hdn] at e;cases e),fun _=>⟨_,rfl,Nat.le_refl _⟩⟩)
   ·obtain⟨o',es,ep,e1,e2,e3,eu,e4⟩:=Ii;exact⟨o',es,ep,e1,e2,e3,eu,fun y=>by rw[e4 y];by_cases hy:y=name<;>simp[hy,hmA]⟩
   ·exact(hs.2 b (Nat.ne_of_lt (Heap.lt_size hb))).trans ((Heap.get?_update_ne _ _ _ _ UE).trans (Heap.get?_push_of_some _ hb))
   ·refine(hs.2 x hxs).trans (Heap.get?_update_self _ Tg ?_);have qD:=(Heap.get?_some_iff.mp hx).2;obtain⟨oc,od,odt,IF⟩:=o;cases odt<;>first|rfl|exact qD
 ·
  rw[CY];refine wpAny_pure ?_;show wpAny _ _ (storeInDict dx (.str name tk) name v) _ _ _;unfold storeInDict newKeyGuard;refine wpAny_bind (wpAny_pure (wpAny_bind (wpAny_nsSet1 hns fun h' Ii hs=> ?_)));obtain⟨oD,esD,epD,hoD,hdD,hcD⟩:=Ii.count (Within.cons name v hw);refine wpAny_bind (wpAny_lookBehind hoD (by rw[hdD];exact pastItsLine_dict (Nat.le_trans hcD (by rw[List.length_cons,sizeLine_eq];omega))) ?_)
  wp_walk
  refine hq h' _ ⟨o,(hs.2 x jw.symm).trans hx,hc,hnc,.inr ⟨dx,CY,jw,Ii⟩⟩ (fun b ob _ hbd hb=> ?_)
   (fun kn h₀=>⟨kn,(hs.2 x jw.symm).trans h₀,rfl,rfl,rfl,(fun _ e=>e),fun e=>by obtain rfl:o=kn:=Option.some.inj (hx.symm.trans h₀);rw[CY] at e;cases e⟩)
  exact(hs.2 b (hbd o dx hx CY)).trans hb
theorem Au{Q:Unit→Shared→Prop}{ns:aX}(Dd:∀self,refuseLoop self "__setattr__" bm=pure ())(XM:bm.contains (.type "object")=true)(X:K.In h)
 (hs:PySem.W.findIn K (.ref C) "__setattr__"=some (some (.builtin "object.__setattr__"))) (hna:PySem.W.findIn K (.ref C) name=some none)
 (hC:h.get? C=some (excClassObj nm q C N bs bm true sn sub ab col dd k0 k1 k2 k3 k5 newId)) (I:h.Inst x C mA)
 (hq:∀h' DX,h'.Inst x C (fun y=>if y=name then some v else mA y)→
  (∀b o,b≠x→(∀kn dx,h.get? x=some kn→kn.dict=some dx→b≠dx)→h.get? b=some o→h'.get? b=some o)→
  (∀kn,h.get? x=some kn→∃uN,h'.get? x=some uN∧uN.cls=kn.cls∧uN.data=kn.data∧uN.slots=kn.slots∧(∀dx,kn.dict=some dx→uN.dict=some dx)∧(kn.dict=none→∃dx,uN.dict=some dx∧h.objs.size≤dx))→Q () ⟨h',g,d,DX,os⟩) (hw:Within mA ns) (hsz:ns.length≤1000):
 wpAny (model prog w) A (setAttr (.ref x) name v) Q E ⟨h,g,d,t,os⟩:=by
 obtain⟨o,hx,hc,hnc,hd⟩:=id I
 have J:∃od,PySem.W.InstAt h x o C od:=by
  rcases hd with⟨hdn,_⟩|⟨dx,CY,_,oD,es,ep,h1,_⟩
  ·exact⟨none,hx,hc,by cases e:o.data<;>simp_all[notCls],by rw[hdn];trivial⟩
  ·exact⟨some oD,hx,hc,by cases e:o.data<;>simp_all[notCls],by rw[CY];exact h1⟩
 obtain⟨od,J⟩:=J;refine set_plain (s:=⟨h,g,d,t,os⟩) X J hs ?_;exact codeAny_call_builtin PySem.F.store_object.slot.plain PySem.F.store_object.entry (A5 XM hC hx hc (vG Dd X hna hC I (fun h' DX a b c=>hq h' DX a b c) hw hsz))
end
structure DF(K:Frag)(C:Addr):Prop where
 obj:∃nm q N bs bm sn sub ab col dd k0 k1 k2 k3 k5,K.lookup C=some (excClassObj nm q C N bs bm true sn sub ab col dd k0 k1 k2 k3 k5 "ValueError.__new__")∧(∀self,refuseLoop self "__setattr__" bm=pure ())∧bm.contains (.type "object")=true
 sa:PySem.W.findIn K (.ref C) "__setattr__"=some (some (.builtin "object.__setattr__"))
section
variable{X:Cx}{pins:aL}{σ:St}{H:Hp}{s:Shared}{a C:Addr}{n:Bool}{f:Str}{y:V}{u:Value}{A:Around}{E:Value→Shared→Prop}
theorem Eh{fs:iN}{mA:Str→aH}(r:∀f,lE (fs.lookup f) (mA f)):PySem.Within mA (fs.map (·.1)):=by
 intro g hg;have:=r g
 cases e:fs.lookup g with
 |none=>rw[e] at this;cases q:mA g with
  |none=>rw[q] at hg;simp at hg
  |some v=>rw[q] at this;cases this
 |some v=>
  obtain⟨l1,l2,h1,_⟩:=List.lookup_eq_some_iff.mp e;rw[h1];simp
theorem Inv.two{h' :Heap}{t' :Nat}{dx:Addr}{o1 o2:HO}{φ:Heap→Prop}(I:Inv X pins σ H s)(e:H a=some (.ext φ))(IK:(∀xs,H dx≠some (.tup xs))∧(∀y,H dx≠some (.own y))∧(∀o u,H dx≠some (.gz o u))∧∀ps,H dx≠some (.Pc ps))(hd2:H dx=none→s.heap.objs.size≤dx)(jw:dx≠a)
 (k:∀b o,b≠a→b≠dx→s.heap.get? b=some o→h'.get? b=some o) (ha:∃o,h'.get? a=some o) (hx:∃o,h'.get? dx=some o)
 (n1:bq X.prog X.w (upd (upd H a o1) dx o2) h' a o1) (n2:bq X.prog X.w (upd (upd H a o1) dx o2) h' dx o2):Inv X pins σ (upd (upd H a o1) dx o2) {s with heap:=h',toks:=t'}:=by
 have na:∀b,H b=none→b≠a:=fun b q z=>by rw[z,e] at q;cases q
 have nd:∀b o,s.heap.get? b=some o→H b=none→b≠dx:=fun b o q q' z=>by
  subst z;exact absurd (Nat.lt_of_lt_of_le (Heap.lt_size q) (hd2 q')) (Nat.lt_irrefl _)
 have Xk:∀b,b≠a→b≠dx→upd (upd H a o1) dx o2 b=H b:=fun b h1 h2=>by rw[af h2,af h1]
 refine I.step (g' :=s.gens) (d' :=s.drawn) (ch:=[]) (fun _ z=>nomatch z) (fun b o _ _ _ q n=>k b o (na b n) (nd b o q n) q) (fun b o _ _ _ q n=>⟨o.slots,k b o (na b n) (nd b o q n) q⟩) (fun b o _ q n=>by rw[Xk b (na b n) (nd b o q n)];exact n)
  (fun b o _ q=> ?_) (fun b xs q=> ?_) (fun b o u q=> ?_) (fun b ps q=>⟨#[],?_⟩) (fun m hm=> ?_) (fun b u q=> ?_) I.bare
 ·by_cases h1:b=a
  ·rw[h1];exact ha
  ·by_cases h2:b=dx
   ·rw[h2];exact hx
   ·exact⟨o,k b o h1 h2 q⟩
 ·rw[Xk b (fun z=>by rw[z,e] at q;cases q) (fun z=>IK.1 xs (by rw[←z];exact q))];exact q
 ·rw[Xk b (fun z=>by rw[z,e] at q;cases q) (fun z=>IK.2.2.1 o u (by rw[←z];exact q))];exact q
 ·rw[Xk b (fun z=>by rw[z,e] at q;cases q) (fun z=>IK.2.2.2 ps (by rw[←z];exact q)),q];simp
 ·obtain⟨o,es,ep,q,r⟩:=hm;exact⟨o,es,ep,k _ o (na _ I.free) (nd _ o q I.free) q,r⟩
 ·by_cases h2:b=dx
  ·subst h2;rw[ae] at q;cases q;exact n2
  ·rw[af h2] at q;by_cases h1:b=a
   ·subst h1;rw[ae] at q;cases q;exact n1
   ·rw[af h1] at q;refine(I.bD b u q).qR (fun c v hc q' =>k c v ?_ ?_ q') (fun c q' => ?_) fun c ys q' => ?_
    ·rcases hc with z|z
     ·rw[z];exact h1
     ·exact fun z' =>by rw[z',e] at z;cases z
    ·rcases hc with z|z
     ·rw[z];exact h2
     ·exact fun z' =>IK.2.1 b (by rw[←z'];exact z)
    ·rw[Xk c (fun z=>by rw[z,e] at q';cases q') (fun z=>IK.2.1 b (by rw[←z];exact q'))];exact q'
    ·rw[Xk c (fun z=>by rw[z,e] at q';cases q') (fun z=>IK.1 ys (by rw[←z];exact q'))];exact q'
theorem GF{fs:iN}{mA:Str→aH}(r:∀f,lE (fs.lookup f) (mA f))(ry:RelV y u):∀g,lE ((cu f y fs).lookup g) (if g=f then some u else mA g):=fun g=>by
 rw[aK];by_cases h:g=f
 ·rw[if_pos h,if_pos h];exact ry
 ·rw[if_neg h,if_neg h];exact r g
theorem Et{Q:Unit→Shared→Prop}(I:Inv X pins σ H s)(e:H a=some (.ext (cY a C none n)))(c:DF X.K C)(na:cP X.K C f)(ry:RelV y u)
 (h:∀dx s',H dx=none→dx≠a→Inv X pins σ (upd (upd H a (.ext (cY a C (some dx) n))) dx (.xd [(f,y)])) s'→Q () s'):wpAny (model X.prog X.w) A (setAttr (.ref a) f u) Q E s:=by
 obtain⟨nm,q,N,bs,bm,sn,sub,ab,col,dd,k0,k1,k2,k3,k5,lk,hp,ho⟩:=c.obj;obtain⟨vs,he,hv,hn⟩:=nE I.bD e;have hC:=I.lD _ _ lk;have I0:=I;obtain⟨hh,g,d,tk,os⟩:=s;refine Au (mA:=fun _=>none) (ns:=[]) hp ho I.lD c.sa na hC ⟨_,he,rfl,(fun c z=>by cases z),.inl ⟨rfl,fun _=>rfl⟩⟩ (fun h' DX inst kk same=> ?_) (fun g hg=>by simp at hg) (by simp);obtain⟨o1,e1,ec,ed,es,_,aez⟩:=same _ he;obtain⟨dx,ex,CY⟩:=aez rfl;obtain⟨o2,e2,_,_,hd2⟩:=inst;rw[e1] at e2;cases e2;rcases hd2 with⟨z,_⟩|⟨d',zj,ne',ns'⟩
 ·rw[ex] at z;cases z
 rw[ex] at zj;cases zj;have NB:H dx=none:=I0.bD.fresh CY
 have eo:o1={cls:= .ref C,dict:=some dx,data:= .fields vs}:=by
  obtain⟨oc,od,odt,IF⟩:=o1;simp only at ec ed es ex;subst ec ed es ex;rfl
 rw[eo] at e1;refine h dx _ NB ne' (I0.two (t' :=DX) e ⟨(fun xs z=>by rw[NB] at z;cases z),(fun y z=>by rw[NB] at z;cases z),(fun o u z=>by rw[NB] at z;cases z),(fun ps z=>by rw[NB] at z;cases z)⟩ (fun _=>CY) ne' (fun b o hb _ q=>kk b o hb (fun o0 dx0 h0 h1=>by rw[he] at h0;cases h0;cases h1) q) ⟨_,e1⟩ (let⟨o,_,_,h1,_⟩:=ns';⟨o,h1⟩) (u6 ⟨vs,e1,hv,hn⟩) ⟨_,ns',?_⟩);exact GF (fs:=[]) (fun _=>trivial) ry
theorem E4{dx:Addr}{fs:iN}{Q:Unit→Shared→Prop}(I:Inv X pins σ H s)(e:H a=some (.ext (cY a C (some dx) n)))(ed:H dx=some (.xd fs))(jw:dx≠a)(hl:fs.length≤900)(c:DF X.K C)(na:cP X.K C f)(ry:RelV y u)
 (h:∀s',Inv X pins σ (upd H dx (.xd (cu f y fs))) s'→Q () s'):wpAny (model X.prog X.w) A (setAttr (.ref a) f u) Q E s:=by
 obtain⟨nm,q,N,bs,bm,sn,sub,ab,col,dd,k0,k1,k2,k3,k5,lk,hp,ho⟩:=c.obj;obtain⟨vs,he,hv,hn⟩:=nE I.bD e;obtain⟨mA,ns,r⟩:=(show bq X.prog X.w H s.heap dx (.xd fs) from I.bD dx _ ed);have hC:=I.lD _ _ lk;have I0:=I;obtain⟨hh,g,d,tk,os⟩:=s;refine Au (mA:=mA) (ns:=fs.map (·.1)) hp ho I.lD c.sa na hC ⟨_,he,rfl,(fun c z=>by cases z),.inr ⟨dx,rfl,jw,ns⟩⟩ (fun h' DX inst kk same=> ?_) (Eh r) (by rw[List.length_map];omega);obtain⟨o1,e1,ec,edt,es,afY,_⟩:=same _ he;have ex:=afY dx rfl;obtain⟨o2,e2,_,_,hd2⟩:=inst;rw[e1] at e2;cases e2;rcases hd2 with⟨z,_⟩|⟨d',zj,ne',ns'⟩
 ·rw[ex] at z;cases z
 rw[ex] at zj;cases zj
 have eo:o1={cls:= .ref C,dict:=some dx,data:= .fields vs}:=by
  obtain⟨oc,od,odt,IF⟩:=o1;simp only at ec edt es ex;subst ec edt es ex;rfl
 rw[eo] at e1;have I2:=I0.two (t' :=DX) (o1:= .ext (cY a C (some dx) n)) (o2:= .xd (cu f y fs)) e ⟨(fun xs z=>by rw[ed] at z;cases z),(fun y z=>by rw[ed] at z;cases z),(fun o u z=>by rw[ed] at z;cases z),(fun ps z=>by rw[ed] at z;cases z)⟩ (fun z=>by rw[ed] at z;cases z) jw (fun b o hb hb2 q=>kk b o hb (fun o0 dx0 h0 h1=>by rw[he] at h0;cases h0;cases h1;exact hb2) q) ⟨_,e1⟩ (let⟨o,_,_,h1,_⟩:=ns';⟨o,h1⟩) (u6 ⟨vs,e1,hv,hn⟩) ⟨_,ns',GF r ry⟩;rw[t9 e] at I2;exact h _ I2
end
section
variable{X:Cx}{o value:Expr}{f:Str}{pos pos' :Pos}{ta tv:TE}
def ZU(K:Frag)(ta tv:TE)(f:Str):TS:=fun D σ H=>tv σ H fun y H1=>ta σ H1 fun x H2=>∃a C n,x= .ref a∧DF K C∧cP K C f∧
 ((H2 a=some (.ext (cY a C none n))∧∀dx,H2 dx=none→dx≠a→D.nx σ (upd (upd H2 a (.ext (cY a C (some dx) n))) dx (.xd [(f,y)])))∨
  ∃dx fs,H2 a=some (.ext (cY a C (some dx) n))∧H2 dx=some (.xd fs)∧dx≠a∧fs.length≤900∧D.nx σ (upd H2 dx (.xd (cu f y fs))))
theorem uh(ha:PE X o ta)(hv:PE X value tv)(hs:swapsWith value (some (.Attribute o f pos')) pos.line X.env=pure false):PS X (.Assign [.Attribute o f pos'] value pos) (ZU X.K ta tv f):=by
 intro pins s σ H D I h;refine plainObj_wpAny_Assign_Attribute (cm (hv pins s σ H _ I h) fun u s1 ⟨y,H1,I1,ry,q⟩=>cm (ha pins s1 σ H1 _ I1 q) fun ov s2 ⟨x,H2,I2,rx,a,C,n,ex,c,na,q2⟩=> ?_) hs;subst ex;obtain rfl:ov=Value.ref a:=rx;rcases q2 with⟨e,q3⟩|⟨dx,fs,e,ed,ne,hl,q3⟩
 ·exact Et I2 e c na ry fun dx s3 hn ne I3=>⟨σ,_,I3,q3 dx hn ne⟩
 ·exact E4 I2 e ed ne hl c na ry fun s3 I3=>⟨σ,_,I3,q3⟩
end
end L2
namespace L2
open PySem PySem.Spec PyProof.Rows PySem.Builtin.ObjectAttr
section
variable{prog:Program}{w:World}{A:Around}{E:Value→Shared→Prop}{s:Shared}{K:Frag}{x C:Addr}{ox:Obj}{od:Option Obj}{name:Str}{expr:Bool}{Q:Value→Shared→Prop}{v:Value}
theorem Cp(X:K.In s.heap)(I:PySem.W.InstAt s.heap x ox C od)(hga:PySem.W.findIn K (.ref C) "__getattribute__"=some (some (.builtin "BaseException.__getattribute__")))(hhk:PySem.W.findIn K (.ref C) "__getattr__"=some none)
 (hm:PySem.W.mroIn K C (.type "BaseException")=some true) (hf:PySem.W.findObj K C od name=some (.value v)) (hh:handedIn v=true) (h:Q v {s with toks:=s.toks+1}):
 wpAny (model prog w) A (getAttr (.ref x) name expr) Q E s:=by
 have ht:=I.type (M:=model prog w);refine wpAny_bind (wpAny_mkText (wpAny_holding (wpAny_bind (ht _ _ _ _ (fun _ _ e=>e) (wpAny_bind (looks_findIn X hga _ _ _ _ (fun _ _ e=>e) ?_))))));dsimp only;rw[show(onTheHeap (Value.ref C)&&Value.builtin "BaseException.__getattribute__" ==Value.builtin "object.__getattribute__")=false from by rw[show(Value.builtin "BaseException.__getattribute__" ==Value.builtin "object.__getattribute__")=false from by decide+kernel,Bool.and_false],if_neg (by decide)];have hb:PySem.W.Looks (model prog w) s.heap (hookBefore (.ref C)) none:=PySem.W.looks_hook X (by show(if onTheHeap (Value.ref C)=true then _ else _)=_;exact hhk);refine wpAny_bind (hb _ _ _ _ (fun _ _ e=>e) (wpAny_bind (wpAny_attempt (wpAny_holding ?_))));unfold callGetattribute;rw[show(expr&&onTheHeap (Value.builtin "BaseException.__getattribute__"))=false from Bool.and_false _,if_neg (by decide)];unfold boundAndCalled;rw[PySem.F.attr_ValueError.ga.bind];refine wpAny_bind (wpAny_pure ?_);show wpAny _ _ (call (.builtin "BaseException.__getattribute__") [.ref x,.str name s.toks]) _ _ _;refine wpAny_call ?_;refine codeAny_call_builtin PySem.F.attr_ValueError.ga.plain PySem.F.entry_bexc_ga ?_;refine @PySem.W.check_slot (model prog w) _ _ {s with toks:=s.toks+1} "BaseException.__getattribute__" "BaseException" "__getattribute__" (.ref x) [.str name s.toks] [] _ (by decide+kernel) (by decide+kernel) (ht.andThen (PySem.W.looks_mroIn X hm)) (PySem.F.args_bexc_ga (.ref x) (.str name s.toks)) ?_;unfold Builtin.«object.__getattribute__»;refine wpAny_bind (wpAny_pure ?_);refine wpAny_bind (wpAny_pure ?_);refine wpAny_bind (ht _ _ _ _ (fun _ _ e=>e) ?_);refine wpAny_bind (PySem.W.looks_find X I hf _ _ _ _ (fun _ _ e=>e) ?_);refine wpAny_pure ?_;show wpAny _ _ (handedOut v) _ _ _;rw[PySem.W.handedOut_of hh];exact wpAny_pure h
end
structure EE(K:Frag)(C:Addr):Prop where
 ga:PySem.W.findIn K (.ref C) "__getattribute__"=some (some (.builtin "BaseException.__getattribute__"))
 hk:PySem.W.findIn K (.ref C) "__getattr__"=some none
 mro:PySem.W.mroIn K C (.type "BaseException")=some true
 hd:PySem.W.hasDictIn K C=true
section
variable{X:Cx}{e:Expr}{f:Str}{pos:Pos}{ta:TE}
theorem HG{pins:aL}{σ:St}{H:Hp}{s:Shared}{a C dx:Addr}{n b:Bool}{fs:iN}{v:V}{A:Around}{E:Value→Shared→Prop}{Q:Value→Shared→Prop}(I:Inv X pins σ H s)(e:H a=some (.ext (cY a C (some dx) n)))(ed:H dx=some (.xd fs))
 (c:EE X.K C) (na:cP X.K C f) (l:fs.lookup f=some v) (h:∀u s',Inv X pins σ H s'→RelV v u→Q u s'):wpAny (model X.prog X.w) A (getAttr (.ref a) f b) Q E s:=by
 obtain⟨vs,he,_,_⟩:=nE I.bD e;obtain⟨mA,ns,r⟩:=(show bq X.prog X.w H s.heap dx (.xd fs) from I.bD dx _ ed);obtain⟨od,ho,hl⟩:=zG ns;obtain⟨u,hu,ru⟩:=lE.some_of (v:=v) (o:=mA f) (by rw[←l];exact r f);exact Cp I.lD ⟨he,rfl,rfl,ho⟩ c.ga c.hk c.mro (findObj_own c.hd na rfl (by rw[hl,hu])) (zU ru) (h u _ (I.tok _) ru)
def TY(K:Frag)(ta:TE)(f:Str):TE:=fun σ H Q=>ta σ H fun x H1=>∃a C dx n fs v,x= .ref a∧H1 a=some (.ext (cY a C (some dx) n))∧H1 dx=some (.xd fs)∧EE K C∧cP K C f∧fs.lookup f=some v∧Q v H1
theorem Og(he:PE X e ta)(hb:attributeBase e f X.env (eval e X.env)=eval e X.env):PE X (.Attribute e f pos) (TY X.K ta f):=by
 intro pins s σ H Q I h;refine FJ hb (cm (he pins s σ H _ I h) fun u s1 ⟨x,H1,I1,rx,a,C,dx,n,fs,v,ex,ea,ed,c,na,l,q⟩=> ?_);subst ex;obtain rfl:u=Value.ref a:=rx;exact HG I1 ea ed c na l fun u' s2 I2 ru=>⟨v,H1,I2,ru,q⟩
end
def vI(P:Program)(w:World):Bl:=fun outer H s E e s' =>∃(a C:Addr) (dd:Option Addr) (T:Addr) (oe:Obj) (H' :Hp),e= .ref a∧s'.os=s.os∧AllBare s'.gens∧Un (wz outer) [] H H' s.heap s'.heap∧qE P w H' s'.heap∧
 H' a=some (.ext (cY a C dd false))∧IA s'.heap a T oe∧H' T=none∧s.heap.objs.size≤T∧E (.ref C) dd H'
def wI(X:Cx)(pins:aL)(H:Hp)(h:Heap)(a:Addr):Prop:=(∃oe vs,h.get? a=some oe∧oe.data= .fields vs∧vs[1]? =some .none)∨∃T oe,IA h a T oe∧H T=none∧X.fD.heap.objs.size≤T∧∀p∈X.pn++pins,p.1≠T
section
variable{X:Cx}{pins:aL}{σ:St}{H:Hp}{s:Shared}{a C:Addr}{dd:Option Addr}{n:Bool}{E:XK}
theorem Hz(I:Inv X pins σ H s)(fw:X.stack=X.env::X.outer)(qD:X.env.frame=some X.env.locals)(hex:X.ex=[])(e:H a=some (.ext (cY a C dd n)))(fl:wI X pins H s.heap a)(q:E (.ref C) dd (upd H a (.ext (cY a C dd false)))){Ex:Value→Shared→Prop}:
 wpAny (model X.prog X.w) X.A (leaving X.env (.ref a)) (fun _ Kq =>vI X.prog X.w X.outer X.H₀ X.fD E (.ref a) Kq) Ex s:=by
 obtain⟨vs,he,hv,hn⟩:=nE I.bD e;have hfs:X.A.frames=some (X.env::X.outer):=by rw[←fw];exact I.ok.frames
 have hl:s.heap.FunFrames X.base (X.env::X.outer):=by rw[←fw];exact I.stack
 have BK:∀b∈(X.env::X.outer).filterMap (·.frame),H b=none:=fun b hb=>I.wj b (by rw[fw];exact hb)
 have mem:∀b,b∈(X.env::X.outer).filterMap (·.frame)→b=X.env.locals∨b∈X.fs:=fun b hb=>by
  rw[List.filterMap_cons,qD] at hb;rcases List.mem_cons.mp hb with z|z
  ·exact .inl z
  ·exact .inr z
 have fin:∀(h' :Heap) (T T' :Addr),(X.fD.heap.objs.size≤T∨T=a)→(H T=none∨T=a)→s.heap.objs.size≤T'→IA h' a T' (({cls:= .ref C,dict:=dd,data:= .fields vs}:Obj).mapFields (·.setIfInBounds 1 (.ref T')))→
  (∀b o,b≠a→b≠T→b∉(X.env::X.outer).filterMap (·.frame)→s.heap.get? b=some o→h'.get? b=some o)→(∀b o,b≠a→b≠T→s.heap.get? b=some o→∃sl,h'.get? b=some {o with slots:=sl})→
  vI X.prog X.w X.outer X.H₀ X.fD E (.ref a) {s with heap:=h'}:=by
  intro h' T T' hT1 Zj NY f k1 k2;have XY:H T' =none:=I.bD.fresh NY;have DV :∀b,H b=none→b≠a:=fun b z z' =>by rw[z',e] at z;cases z
  have old:∀b o,X.fD.heap.get? b=some o→b≠T∨T=a:=fun b o z=>by
   rcases hT1 with y|y
   ·exact .inl fun z' =>absurd (Nat.lt_of_lt_of_le (Heap.lt_size z) (by rw[z'];exact y)) (Nat.lt_irrefl _)
   ·exact .inr y
  refine⟨a,C,dd,T',_,upd H a (.ext (cY a C dd false)),rfl,I.os,I.bare,⟨fun b o z z0 hb _=> ?_,fun b o z z0 hb _=> ?_,fun b o z z0 _=> ?_,fun b o z _=> ?_,fun b xs z=> ?_,fun b o u z=> ?_,fun b ps z=> ?_⟩,fun b u z=> ?_,ae,f,?_,Nat.le_trans I.sz NY,q⟩
  ·have hx:b∉X.ex:=by rw[hex];simp
   have g:=I.base.keep b o z z0 hb hx;have g0:=I.base.free b o z z0 hx;refine k1 b o (DV b g0) ?_ (fun hm=> ?_) g
   ·rcases old b o z with y|y
    ·exact y
    ·rw[y];exact DV b g0
   ·rcases mem b hm with y|y
    ·exact absurd (Nat.lt_of_lt_of_le (Heap.lt_size z) (by rw[y];exact I.ok.above)) (Nat.lt_irrefl _)
    ·exact hb y
  ·have hx:b∉X.ex:=by rw[hex];simp
   obtain⟨sl,g⟩:=I.base.slot b o z z0 hb hx;have g0:=I.base.free b o z z0 hx
   obtain⟨Yr,g'⟩:=k2 b _ (DV b g0) (by
    rcases old b o z with y|y
    ·exact y
    ·rw[y];exact DV b g0) g
   exact⟨Yr,g'⟩
  ·have hx:b∉X.ex:=by rw[hex];simp
   have g0:=I.base.free b o z z0 hx;rw[af (DV b g0)];exact g0
  ·have hx:b∉X.ex:=by rw[hex];simp
   obtain⟨o',g⟩:=I.base.there b o z hx;by_cases PX:b=a
   ·rw[PX];exact⟨_,f.at_⟩
   ·by_cases EY:b=T
    ·rcases old b o z with y|y
     ·exact absurd EY y
     ·exact absurd (EY.trans y) PX
    ·obtain⟨sl,g'⟩:=k2 b o' PX EY g;exact⟨_,g'⟩
  ·have g:=I.base.rS b xs z;rw[af (fun y=>by rw[y,e] at g;cases g)];exact g
  ·have g:=I.base.pH b o u z;rw[af (fun y=>by rw[y,e] at g;cases g)];exact g
  ·obtain⟨more,g⟩:=I.base.rT b ps z;refine⟨more,?_⟩;rw[af (fun y=>by rw[y,e] at g;cases g)];exact g
  ·by_cases hb:b=a
   ·subst hb;rw[ae] at z;cases z;exact u6 ⟨_,f.at_,by simp[hv],fun y=>nomatch y⟩
   ·rw[af hb] at z;have Ko:∀c u',H c=some u'→c∉(X.env::X.outer).filterMap (·.frame):=fun c u' y hm=>by rw[BK c hm] at y;cases y
    have Nc:∀c u',c≠a→H c=some u'→c≠T:=fun c u' ya y y' =>by
     rcases Zj with t|t
     ·rw[y',t] at y;cases y
     ·exact ya (y'.trans t)
    refine(I.bD b u z).qR (fun c v hc y=> ?_) (fun c y=> ?_) fun c ys y=> ?_
    ·rcases hc with y' |y'
     ·subst y';exact k1 c v hb (Nc c u hb z) (Ko c u z) y
     ·have PR:c≠a:=fun w' =>by rw[w',e] at y';cases y'
      exact k1 c v PR (Nc c _ PR y') (Ko c _ y') y
    ·rw[af (fun w' =>by rw[w',e] at y;cases y)];exact y
    ·rw[af (fun w' =>by rw[w',e] at y;cases y)];exact y
  ·rw[af (DV _ XY)];exact XY
 rcases fl with⟨oe,vs',h1,h2,h3⟩|⟨T,oe,f,hT0,hT,_⟩
 ·rw[he] at h1;cases h1;cases h2;refine Cn (base:=X.base) hfs hl qD he rfl h3 fun h' T' NY f k1 k2=>fin h' a T' (.inr rfl) (.inr rfl) NY f (fun b o hb _ hf g=>k1 b o hb hf g) (fun b o hb _ g=>k2 b o hb g)
 ·have hoe:oe={cls:= .ref C,dict:=dd,data:= .fields vs}:=by
   have:=f.at_;rw[he] at this;cases this;rfl
  subst hoe;refine E1 (base:=X.base) hfs hl qD f fun h' T' NY f' k1 k2=>fin h' T T' (.inl hT) (.inl hT0) NY f' k1 k2
theorem Am{e:Value}{s' :Shared}(I:Inv X pins σ H s)(h:vI X.prog X.w X.stack H s E e s'):∃(a C:Addr) (dd:Option Addr) (H' :Hp),e= .ref a∧Inv X pins σ H' s'∧H' a=some (.ext (cY a C dd false))∧wI X pins H' s'.heap a∧E (.ref C) dd H' :=by
 obtain⟨a,C,dd,T,oe,H',rfl,os,bare,un,bD,ea,f,hT,hTs,q⟩:=h;exact⟨a,C,dd,H',rfl,I.TV os un bD bare (fun b z=>absurd z (by simp)),ea,.inr ⟨T,oe,f,hT,Nat.le_trans I.sz hTs,fun p hp z=>absurd (Nat.lt_of_lt_of_le (Heap.lt_size (I.pin p hp).1) (by rw[z];exact hTs)) (Nat.lt_irrefl _)⟩,q⟩
end
section
variable{M:Model}{A:Around}{E:Value→Shared→Prop}{env:Env}
variable{nm q:Str}{C N:Addr}{bs bm:aA}{lq:Bool}{sn:aX}{sub:aA}{ab:Bool}{col:Option Bool}{dd:Option Addr}{k0 k1 k2 k3 k5:aH}{newId:String}
theorem mK{s:Shared}{x:Sem Value}{Q:Flow→Shared→Prop}(hh:A.handled=none)
 (h:wpAny M A x (fun v bF=>∃(e C N:Addr) (de:Option Addr) (vs:Array Value) (nm q:Str) (bs bm:aA) (lq:Bool) (sn:aX) (sub:aA) (ab:Bool) (col:Option Bool) (dd:Option Addr) (k0 k1 k2 k3 k5:aH),v= .ref e∧bF.heap.get? C=some (excClassObj nm q C N bs bm lq sn sub ab col dd k0 k1 k2 k3 k5 "ValueError.__new__")∧bm.contains (.type "BaseException")=true∧
  bF.heap.get? e=some {cls:= .ref C,dict:=de,data:= .fields vs}∧vs[1]? =some .none∧E (.ref e) bF) E s):
 wpAny M A (raiseStmt env (some x) none) Q E s:=by
 unfold raiseStmt;refine wpAny_bind (wpAny_mono h (fun v bF i5=> ?_) fun _ _ x=>x);obtain⟨e,C,N,de,vs,nm,q,bs,bm,lq,sn,sub,ab,col,dd,k0,k1,k2,k3,k5,rfl,hC,sU,he,h1,hE⟩:=i5;have OX:(Value.ref C::bm).contains (.type "BaseException")=true:=by rw[List.contains_cons,sU,Bool.or_true]
 obtain⟨hp,g,d,tk,os⟩:=bF
 repeat (first|with_reducible refine wpAny_loadPart_at he ?_|with_reducible refine wpAny_field he rfl h1 ?_|with_reducible refine wpAny_loadPart_at hC ?_|(with_reducible refine wpAny_isSubtype_exc hC ?_;rw[OX])|wp_step)
 exact wpAny_raiseNew_none hh hE
end
section
variable{X:Cx}{e:Expr}{pos:Pos}{t:TE}{E:XK}
def D7(K:Frag)(E:XK)(t:TE):TS:=fun _ σ H=>t σ H fun v H1=>∃a C dd,v= .ref a∧H1 a=some (.ext (cY a C dd true))∧CV K C∧E (.ref C) dd (upd H1 a (.ext (cY a C dd false)))
def DE(X:Cx)(E:XK):Prop:=∀(pins:aL) (σ:St) (H:Hp) (s:Shared) (a C:Addr) (dd:Option Addr) (n:Bool),Inv X pins σ H s→H a=some (.ext (cY a C dd n))→wI X pins H s.heap a→E (.ref C) dd (upd H a (.ext (cY a C dd false)))→X.xe (.ref a) s
theorem tI(hc:X.calm=true)(hw:DE X E)(he:PE X e t):PS X (.Raise (some e) none pos) (D7 X.K E t):=by
 intro pins s σ H D I h;rw[arm_exec_Raise]
 have key:wpAny (model X.prog X.w) X.A (do let v←eval e X.env;standAt pos;pure v) (fun v bF=>∃(e C N:Addr) (de:Option Addr) (vs:Array Value) (nm q:Str) (bs bm:aA) (lq:Bool) (sn:aX) (sub:aA) (ab:Bool) (col:Option Bool) (dd:Option Addr) (k0 k1 k2 k3 k5:aH),v= .ref e∧bF.heap.get? C=some (excClassObj nm q C N bs bm lq sn sub ab col dd k0 k1 k2 k3 k5 "ValueError.__new__")∧bm.contains (.type "BaseException")=true∧
  bF.heap.get? e=some {cls:= .ref C,dict:=de,data:= .fields vs}∧vs[1]? =some .none∧X.xe (.ref e) bF) X.xe s:=by
  refine wpAny_bind (cm (he pins s σ H _ I h) fun u s1 ⟨v,H1,I1,r1,a,C,dd,ev,ea,c,q⟩=> ?_);subst ev;obtain rfl:u=Value.ref a:=r1;refine wpAny_bind (wpAny_standAt (wpAny_pure ?_));obtain⟨nm,q',N,bs,bm,lq,sn,sub,ab,col,Ek,k0,k1,k2,k3,k5,lk,T⟩:=c.obj;obtain⟨vs,hea,hv,hn⟩:=nE I1.bD ea;exact⟨a,C,N,dd,vs,nm,q',bs,bm,lq,sn,sub,ab,col,Ek,k0,k1,k2,k3,k5,rfl,I1.lD _ _ lk,T.hasBase,hea,hn rfl,hw pins σ H1 s1 a C dd true I1 ea (.inl ⟨_,vs,hea,rfl,hn rfl⟩) q⟩
 first
  |exact wpAny_bind (wpAny_standAt (mK (I.ok.hd hc) key))
  |(simp only[evalOpt,Option.map];exact wpAny_bind (wpAny_standAt (mK (I.ok.hd hc) key)))
  |(show wpAny _ _ (do standAt pos;raiseStmt X.env (some (do let v←eval e X.env;standAt pos;pure v)) none) _ _ s;exact wpAny_bind (wpAny_standAt (mK (I.ok.hd hc) key)))
theorem kA(hw:DE X E)(fw:True):wT (vI X.prog X.w) X E:=by
 intro pins σ H s e s' I h;obtain⟨a,C,dd,H',rfl,I',ea,fl,q⟩:=Am I h;refine hw pins σ H' s' a C dd false I' ea fl ?_;rw[t9 ea];exact q
end
theorem g8{P:Program}{w:World}{K:Frag}{mg:Str→aH}{base:Heap}{N:aX}{qual:Str}{scope:Scope}{f:Addr}{cd:Value}{A:Around}{outer:List Env}{s:Shared}{H:Hp}{E:XK}
 (qD:(envOfC qual scope s.heap.objs.size f cd).frame=some s.heap.objs.size:=by rfl):DE (CA (vI P w) P w K mg base N qual scope f cd A outer s H E) E:=by
 intro pins σ H1 s1 a C dd n I ea fl q;exact Hz I rfl qD rfl ea fl q
section
variable{M:Model}{A:Around}{E:Value→Shared→Prop}{s:Shared}
theorem Ea{base:Heap}{env:Env}{outer:List Env}{L e:Addr}{oe:Obj}{vs:Array Value}{Q:Unit→Shared→Prop}
 (qD:A.frames=some (env::outer)) (hl:s.heap.FunFrames base (env::outer)) (hf:env.frame=some L)
 (he:s.heap.get? e=some oe) (hd:oe.data= .fields vs) (h1:vs[1]? =some .none)
 (h:∀h' T,s.heap.objs.size≤T→IA h' e T (oe.mapFields (·.setIfInBounds 1 (.ref T)))→(∀b o,b≠e→b∉(env::outer).filterMap (·.frame)→s.heap.get? b=some o→h'.get? b=some o)→
  (∀b o,b≠e→s.heap.get? b=some o→∃sl,h'.get? b=some {o with slots:=sl})→Q () {s with heap:=h'}):wpAny M A (noteFrame (.ref e) env) (fun _ s' =>wpAny M A (setFlight (.ref e) none) Q E s') E s:=by
 unfold noteFrame;simp only[hf];refine wpAny_bind (wpAny_field he hd h1 ?_);rw[if_neg (by decide)];exact qF qD hl hf he hd (Array.getElem?_eq_some_iff.mp h1).1 h
theorem H_{base:Heap}{env:Env}{outer:List Env}{L e T:Addr}{oe:Obj}{Q:Unit→Shared→Prop}
 (qD:A.frames=some (env::outer)) (hl:s.heap.FunFrames base (env::outer)) (hf:env.frame=some L) (ht:IA s.heap e T oe)
 (h:∀h' T',s.heap.objs.size≤T'→IA h' e T' (oe.mapFields (·.setIfInBounds 1 (.ref T')))→(∀b o,b≠e→b≠T→b∉(env::outer).filterMap (·.frame)→s.heap.get? b=some o→h'.get? b=some o)→
  (∀b o,b≠e→b≠T→s.heap.get? b=some o→∃sl,h'.get? b=some {o with slots:=sl})→Q () {s with heap:=h'}):wpAny M A (noteFrame (.ref e) env) (fun _ s' =>wpAny M A (setFlight (.ref e) none) Q E s') E s:=by
 obtain⟨he,⟨vs,hd,h1⟩,D0,oT,ts,hT,ee,h3⟩:=ht;unfold noteFrame;simp only[hf];refine wpAny_bind (wpAny_field he hd h1 ?_);rw[if_pos (show(Value.ref T !=Value.none)=true from by simp)];refine wpAny_bind (wpAny_field hT ee h3 ?_);rw[if_neg (show ¬((Value.none==rawInt L)=true) from by simp[rawInt])];refine wpAny_bind (wpAny_setField hT ee (Array.getElem?_eq_some_iff.mp h3).1 ?_);have other:∀b,b≠T→(s.heap.update T (Obj.mapFields (·.setIfInBounds 3 Value.none))).get? b=s.heap.get? b:=fun b hb=>Heap.get?_update_other _ _ (Ne.symm hb)
 have xJ:∀b o,s.heap.get? b=some o→(∀vs,o.data≠.fields vs)→b≠T:=fun b o hb Qj q=>by
  rw[q,hT] at hb;injection hb with hb;subst hb;exact Qj ts ee
 refine qF qD (hl.of_keeps fun b o hb Qj=>⟨o,(other b (xJ b o hb Qj)).trans hb,rfl⟩) hf ((other e (Ne.symm D0)).trans he) hd (Array.getElem?_eq_some_iff.mp h1).1
  fun h' T' hn fl k1 k2=>h h' T' ?_ fl (fun b o yo EY VN hb=>k1 b o yo VN ((other b EY).trans hb)) fun b o yo EY hb=>k2 b o yo ((other b EY).trans hb)
 have Ii :(s.heap.update T (Obj.mapFields (·.setIfInBounds 3 Value.none))).objs.size≤T' :=hn;rw[Heap.size_after_update] at Ii;exact Ii
end
structure O8(X:Cx)(pins:aL)(H:Hp)(h:Heap)(a T:Addr):Prop where
 fly:∃oe,IA h a T oe
 no:H T=none
 young:X.fD.heap.objs.size≤T
 pin:∀p∈X.pn++pins,p.1≠T
section
variable{X:Cx}{pins:aL}{σ:St}{H:Hp}{s:Shared}{a C:Addr}{dd:Option Addr}{n:Bool}
theorem Inv.SM{h' :Heap}{T T' :Addr}{vs:Array Value}(I:Inv X pins σ H s)(fw:X.stack=X.env::X.outer)(qD:X.env.frame=some X.env.locals)(e:H a=some (.ext (cY a C dd n)))(hv:vs.size=6)
 (hT:T=a∨(H T=none∧X.fD.heap.objs.size≤T∧(∀p∈X.pn++pins,p.1≠T)∧∃oT ts,s.heap.get? T=some oT∧oT.data= .fields ts)) (he:h'.get? a=some {cls:= .ref C,dict:=dd,data:= .fields vs})
 (k1:∀b o,b≠a→b≠T→b∉(X.env::X.outer).filterMap (·.frame)→s.heap.get? b=some o→h'.get? b=some o) (k2:∀b o,b≠a→b≠T→s.heap.get? b=some o→∃sl,h'.get? b=some {o with slots:=sl}):
 Inv X pins σ (upd H a (.ext (cY a C dd false))) {s with heap:=h'}:=by
 have BK:∀b∈(X.env::X.outer).filterMap (·.frame),H b=none:=fun b hb=>I.wj b (by rw[fw];exact hb)
 have mem:∀b,b∈(X.env::X.outer).filterMap (·.frame)→b=X.env.locals∨b∈X.fs:=fun b hb=>by
  rw[List.filterMap_cons,qD] at hb;rcases List.mem_cons.mp hb with z|z
  ·exact .inl z
  ·exact .inr z
 have DV :∀b,H b=none→b≠a:=fun b z z' =>by rw[z',e] at z;cases z
 obtain⟨m0,⟨oL,esL,epL,hL,hdL,rL⟩,_⟩:=id I.loc
 have LT:X.env.locals≠T:=fun z=>by
  rcases hT with y|⟨_,_,_,oT,ts,g1,g2⟩
  ·exact DV _ I.free (z.trans y)
  ·rw[z,g1] at hL;cases hL;rw[g2] at hdL;cases hdL
 have chT:∀b,b∉(if T=a then[] else[T]:aZ)→b≠a→b≠T:=fun b hb PX z=>by
  by_cases WW:T=a
  ·exact PX (z.trans WW)
  ·rw[if_neg WW] at hb;exact hb (by rw[z];simp)
 refine I.step (g' :=s.gens) (t' :=s.toks) (d' :=s.drawn) (ch:=if T=a then[] else[T]) (fun b hb=> ?_) (fun b o hbL VN hc q z=>k1 b o (DV b z) (chT b hc (DV b z)) (fun hm=>(mem b hm).elim hbL VN) q) (fun b o _ _ hc q z=>k2 b o (DV b z) (chT b hc (DV b z)) q)
  (fun b o _ q z=>by rw[af (DV b z)];exact z) (fun b o hc q=> ?_) (fun b xs z=> ?_) (fun b o u z=> ?_) (fun b ps z=>⟨#[],?_⟩) (fun m hm=> ?_) (fun b u z=> ?_) I.bare
 ·by_cases WW:T=a
  ·rw[if_pos WW] at hb;cases hb
  ·rw[if_neg WW] at hb;have hb:b=T:=by simpa using hb
   subst hb;rcases hT with y|⟨g0,g1,g2,oT,ts,g3,g4⟩
   ·exact absurd y WW
   ·refine⟨.inr g1,Ne.symm LT,fun x c q z=> ?_,g2⟩;obtain⟨v,o,ho,hd⟩:=I.cell x c q;rw[z,g3] at ho;cases ho;rw[g4] at hd;cases hd
 ·by_cases PX:b=a
  ·rw[PX];exact⟨_,he⟩
  ·obtain⟨sl,g⟩:=k2 b o PX (chT b hc PX) q;exact⟨_,g⟩
 ·rw[af (fun y=>by rw[y,e] at z;cases z)];exact z
 ·rw[af (fun y=>by rw[y,e] at z;cases z)];exact z
 ·rw[af (fun y=>by rw[y,e] at z;cases z),z];simp
 ·obtain⟨o,es,ep,q,hd,r⟩:=hm;obtain⟨sl,g⟩:=k2 _ o (DV _ I.free) LT q;exact⟨_,es,ep,g,hd,r⟩
 ·by_cases hb:b=a
  ·subst hb;rw[ae] at z;cases z;exact u6 ⟨vs,he,hv,fun y=>nomatch y⟩
  ·rw[af hb] at z;have Ko:∀c u',H c=some u'→c∉(X.env::X.outer).filterMap (·.frame):=fun c u' y hm=>by rw[BK c hm] at y;cases y
   have Nc:∀c u',c≠a→H c=some u'→c≠T:=fun c u' ya y y' =>by
    rcases hT with t|⟨t,_⟩
    ·exact ya (y'.trans t)
    ·rw[y',t] at y;cases y
   refine(I.bD b u z).qR (fun c v hc y=> ?_) (fun c y=> ?_) fun c ys y=> ?_
   ·rcases hc with y' |y'
    ·subst y';exact k1 c v hb (Nc c u hb z) (Ko c u z) y
    ·have PR:c≠a:=fun w' =>by rw[w',e] at y';cases y'
     exact k1 c v PR (Nc c _ PR y') (Ko c _ y') y
   ·rw[af (fun w' =>by rw[w',e] at y;cases y)];exact y
   ·rw[af (fun w' =>by rw[w',e] at y;cases y)];exact y
theorem zK{M:Model}{E:Value→Shared→Prop}{Q:Unit→Shared→Prop}(I:Inv X pins σ H s)(fw:X.stack=X.env::X.outer)(qD:X.env.frame=some X.env.locals)(e:H a=some (.ext (cY a C dd n)))(fl:wI X pins H s.heap a)
 (h:∀s' T,Inv X pins σ (upd H a (.ext (cY a C dd false))) s'→O8 X pins (upd H a (.ext (cY a C dd false))) s'.heap a T→Q () s'):
 wpAny M X.A (noteFrame (.ref a) X.env) (fun _ s' =>wpAny M X.A (setFlight (.ref a) none) Q E s') E s:=by
 obtain⟨vs,he,hv,hn⟩:=nE I.bD e;have hfs:X.A.frames=some (X.env::X.outer):=by rw[←fw];exact I.ok.frames
 have hl:s.heap.FunFrames X.base (X.env::X.outer):=by rw[←fw];exact I.stack
 have DV :∀b,H b=none→b≠a:=fun b z z' =>by rw[z',e] at z;cases z
 have hold:∀{h' :Heap} {T' :Addr} {oe:Obj},s.heap.objs.size≤T'→IA h' a T' oe→O8 X pins (upd H a (.ext (cY a C dd false))) h' a T' :=fun{h' T' oe} hT f=>
  ⟨⟨oe,f⟩,by rw[af (DV _ (I.bD.fresh hT))];exact I.bD.fresh hT,Nat.le_trans I.sz hT,fun p hp z=>absurd (Nat.lt_of_lt_of_le (Heap.lt_size (I.pin p hp).1) (by rw[z];exact hT)) (Nat.lt_irrefl _)⟩
 rcases fl with⟨oe,vs',h1,h2,h3⟩|⟨T,oe,f,hT0,hT,hTp⟩
 ·rw[he] at h1;cases h1;cases h2;exact Ea (base:=X.base) hfs hl qD he rfl h3 fun h' T' NY f k1 k2=>h _ T' (I.SM (vs:=vs.setIfInBounds 1 (.ref T')) (T:=a) (T' :=T') fw qD e (by simp[hv]) (.inl rfl) f.at_ (fun b o hb _ hf g=>k1 b o hb hf g) fun b o hb _ g=>k2 b o hb g) (hold NY f)
 ·have hoe:oe={cls:= .ref C,dict:=dd,data:= .fields vs}:=by
   have:=f.at_;rw[he] at this;cases this;rfl
  subst hoe;obtain⟨oT,ts,g1,g2,_⟩:=f.tr;exact H_ (base:=X.base) hfs hl qD f fun h' T' NY f' k1 k2=>h _ T' (I.SM (vs:=vs.setIfInBounds 1 (.ref T')) (T:=T) (T' :=T') fw qD e (by simp[hv]) (.inr ⟨hT0,hT,hTp,oT,ts,g1,g2⟩) f'.at_ k1 k2) (hold NY f')
end
section
variable{X:Cx}{pins:aL}{σ:St}{H:Hp}{s:Shared}{a T:Addr}
abbrev Cx.p4(X:Cx)(a:Addr)(E:Value→Shared→Prop):Cx:={X with A:=X.A.mark (some (.ref a)),calm:=false,xe:=E}
theorem Inv.p4(I:Inv X pins σ H s)(a:Addr)(E:Value→Shared→Prop):Inv (X.p4 a E) pins σ H s:=
 ⟨⟨I.ok.mod,I.ok.kind,I.ok.glob,I.ok.blt,I.ok.above,I.ok.inj,I.ok.has,I.ok.WD,(fun z=>nomatch z),I.ok.frames,I.ok.Xg,I.ok.exf,I.ok.bs,I.ok.Ih,I.ok.EF,I.ok.Ik,I.ok.sk,I.ok.NP⟩,I.os,I.bare,I.base,I.loc,I.cell,I.free,I.jf,I.pin,I.bD,I.len⟩
theorem Inv.pU{E:Value→Shared→Prop}(ok:X.Ok)(I:Inv (X.p4 a E) pins σ H s):Inv X pins σ H s:=⟨ok,I.os,I.bare,I.base,I.loc,I.cell,I.free,I.jf,I.pin,I.bD,I.len⟩
abbrev Cx.pinned(X:Cx)(pn:aL)(E:Value→Shared→Prop):Cx:={X with pn:=X.pn++pn,xe:=E}
theorem Inv.DC(I:Inv X pins σ H s)(E:Value→Shared→Prop):Inv (X.pinned pins E) [] σ H s:=
 ⟨⟨I.ok.mod,I.ok.kind,I.ok.glob,I.ok.blt,I.ok.above,I.ok.inj,I.ok.has,I.ok.WD,I.ok.hd,I.ok.frames,I.ok.Xg,I.ok.exf,I.ok.bs,I.ok.Ih,I.ok.EF,I.ok.Ik,I.ok.sk,I.ok.NP⟩,I.os,I.bare,I.base,I.loc,I.cell,I.free,I.jf,fun p hp=>I.pin p (by simpa using hp),I.bD,I.len⟩
theorem Inv.ofPinned{E:Value→Shared→Prop}{Ai :aL}(ok:X.Ok)(I:Inv (X.pinned pins E) Ai σ H s):Inv X pins σ H s:=
 ⟨ok,I.os,I.bare,I.base,I.loc,I.cell,I.free,I.jf,fun p hp=>I.pin p (List.mem_append_left _ hp),I.bD,I.len⟩
theorem Inv.Gn{h' :Heap}{t' i:Nat}{x:Str}{u:aH}{m:Str→aH}(I:Inv X pins σ H s)(hN:X.N.Nodup)(hi:X.N[i]? =some x)(hm:s.heap.Ns X.env.locals m)(hn:h'.Ns X.env.locals (fun y=>if y=x then u else m y))(sb:Heap.SameBut X.env.locals s.heap h'):
 Inv X pins (σ.set i none) H {s with heap:=h',toks:=t'}:=by
 have old:∀b o,X.fD.heap.get? b=some o→b≠X.env.locals:=fun b o q z=>absurd (Nat.lt_of_lt_of_le (Heap.lt_size q) (by rw[z];exact I.ok.above)) (Nat.lt_irrefl _);have ZI:=I.free;refine⟨I.ok,I.os,I.bare,⟨fun b o q z hb hx=> ?_,fun b o q z hb hx=> ?_,I.base.free,fun b o q hx=> ?_,I.base.rS,I.base.pH,I.base.rT⟩,⟨_,hn,fun j y v e1 e2 e3=> ?_⟩,fun y c q=> ?_,I.free,I.jf,fun p hp=> ?_,fun b o q=> ?_,?_⟩
 ·exact(sb.2 b (old b o q)).trans (I.base.keep b o q z hb hx)
 ·obtain⟨sl,g⟩:=I.base.slot b o q z hb hx;exact⟨sl,(sb.2 b (old b o q)).trans g⟩
 ·obtain⟨o',g⟩:=I.base.there b o q hx;exact⟨o',(sb.2 b (old b o q)).trans g⟩
 ·have hj:j≠i:=fun z=>by
   subst z;by_cases hl:j<σ.length
   ·rw[List.getElem?_set_self hl] at e2;cases e2
   ·rw[List.getElem?_eq_none (by rw[List.length_set];omega)] at e2;cases e2
  rw[List.getElem?_set_ne (Ne.symm hj)] at e2;obtain⟨m0,hm0,hl⟩:=I.loc;obtain⟨w',D8,lk⟩:=hl j y v e1 e2 e3
  have hyx:y≠x:=fun z=>by
   subst z;have h1:=(List.getElem?_eq_some_iff.mp e1).1;exact hj ((List.getElem?_inj h1 hN).mp (e1.trans hi.symm))
  refine⟨w',D8,?_⟩;rcases lk with⟨k1,k2⟩|⟨k1,c,k2,k3⟩
  ·refine .inl ⟨k1,?_⟩;dsimp only;rw[if_neg hyx,show m=m0 from(Heap.Ns.eq_nsMap hm).trans (Heap.Ns.eq_nsMap hm0).symm];exact k2
  ·refine .inr ⟨k1,c,k2,?_⟩;obtain⟨o,g1,g2⟩:=k3;exact⟨o,(sb.2 c (I.Qa y c k2)).trans g1,g2⟩
 ·obtain⟨v,o,g1,g2⟩:=I.cell y c q;exact⟨v,o,(sb.2 c (I.Qa y c q)).trans g1,g2⟩
 ·obtain⟨g1,g2,g3,g4⟩:=I.pin p hp;exact⟨(sb.2 p.1 g3).trans g1,g2,g3,g4⟩
 ·refine(I.bD b o q).qR (fun c v hc g=>(sb.2 c ?_).trans g) (fun _ g=>g) fun _ _ g=>g;rcases hc with z|z
  ·rw[z];exact fun z' =>by rw[z',ZI] at q;cases q
  ·exact fun z' =>by rw[z',ZI] at z;cases z
 ·rw[List.length_set];exact I.len
theorem zM{M:Model}{A:Around}{E:Value→Shared→Prop}{Q:Unit→Shared→Prop}(I:Inv X pins σ H s)(hd:O8 X pins H s.heap a T)(h:∀s',Inv X pins σ H s'→O8 X pins H s'.heap a T→Q () s'):
 wpAny M A (setFlight (.ref a) none) Q E s:=by
 obtain⟨⟨oe,he,⟨vs,hdv,h1⟩,ne,oT,ts,hT,ee,h3⟩,h0,hy,hp⟩:=hd;have hsz:3<ts.size:=(Array.getElem?_eq_some_iff.mp h3).1;refine wpAny_setFlight_none he hdv h1 hT ee hsz ?_;obtain⟨m0,⟨oL,esL,epL,hL,hdL,rL⟩,_⟩:=id I.loc;have LT:T≠X.env.locals:=fun z=>by rw[←z,hT] at hL;cases hL;rw[ee] at hdL;cases hdL
 have I1:Inv X pins σ H {s with heap:=s.heap.update T (Obj.mapFields (·.setIfInBounds 3 .none))}:=I.turned (t' :=s.toks) (fun b o hb q=>by rw[Heap.get?_update_other _ _ (Ne.symm hb)];exact q) h0 LT (.inr hy)
  (fun x c q z=>by obtain⟨v,o,ho,hd⟩:=I.cell x c q;rw[z,hT] at ho;cases ho;rw[ee] at hd;cases hd) hp
 refine h _ I1 ⟨⟨oe,by show(s.heap.update T _).get? a=_;rw[Heap.get?_update_other _ _ ne];exact he,⟨vs,hdv,h1⟩,ne,_,_,Heap.get?_update_self _ hT (Obj.isFreed_of_fields (Obj.data_mapFields ee _)),Obj.data_mapFields ee _,by simp[hsz]⟩,h0,hy,hp⟩
end
section
variable{M:Model}{A:Around}{E:Value→Shared→Prop}
theorem vz{h:Heap}{g:Array GenState}{d:Drawn}{t:Nat}{os:OsState}{e C D N N' :Addr}{oe:Obj}{nm q nm' q' :Str}{bs bm bs' S1 :aA}{lq Yd :Bool}{sn sn' :aX}{sub apZ :aA}{ab ab' :Bool}{col aiv :Option Bool}{dd Ek :Option Addr}{k0 k1 k2 k3 k5 j0 j1 j2 j3 j5:aH}{i j:String}{Q:Bool→Shared→Prop}
 (hC:h.get? C=some (excClassObj nm q C N bs bm lq sn sub ab col dd k0 k1 k2 k3 k5 i)) (hD:h.get? D=some (excClassObj nm' q' D N' bs' S1 Yd sn' apZ ab' aiv Ek j0 j1 j2 j3 j5 j)) (he:h.get? e=some oe) (A4:oe.cls= .ref C) (sU:S1.contains (.type "BaseException")=true)
 (HH:(Value.ref C::bm).contains (.ref D)=true) (hq:Q true ⟨h,g,d,t,os⟩):wpAny M A (excMatches (.ref e) (.ref D)) Q E ⟨h,g,d,t,os⟩:=by
 have OX:(Value.ref D::S1).contains (.type "BaseException")=true:=by rw[List.contains_cons,sU,Bool.or_true]
 have f:=tc_notTuple;unfold excMatches
 repeat (first|(with_reducible refine wpAny_loadPart_at he ?_;rw[A4])|with_reducible refine wpAny_loadPart_at hD ?_|(with_reducible refine wpAny_isSubtype_exc hD ?_;rw[OX])|(with_reducible refine wpAny_isSubtype_exc hC ?_;rw[HH])|wp_step)
 exact hq
end
structure Under(K:Frag)(C D:Addr):Prop where
 ex:∃nm q N bs bm lq sn sub ab col dd k0 k1 k2 k3 k5 i,K.lookup C=some (excClassObj nm q C N bs bm lq sn sub ab col dd k0 k1 k2 k3 k5 i)∧(Value.ref C::bm).contains (.ref D)=true
section
variable{X:Cx}{body xX:List Stmt}{b0:Stmt}{rest:List ExceptHandler}{c nm:Str}{cp AJ pos:Pos}{tb:XK→TS}{th:TS}{i:Nat}{D:Addr}
def AB(i:Nat)(D:Ends):Ends where
 nx:=fun σ H=>D.nx (σ.set i none) H
 rt:=D.rt
 bk:=fun σ H=>D.bk (σ.set i none) H
 ct:=fun σ H=>D.ct (σ.set i none) H
def Zp(K:Frag)(len:Nat)(D:Addr)(i:Nat)(th:TS)(Ds:Ends):XK:=fun Cv dd H=>∃C,Cv= .ref C∧Under K C D∧∀(a:Addr) (σ:St),H a=some (.ext (cY a C dd false))→σ.length=len→th (AB i Ds) (σ.set i (some (.ref a))) H
def aeZ(K:Frag)(len:Nat)(D:Addr)(i:Nat)(tb:XK→TS)(th:TS):TS:=fun Ds σ H=>tb (Zp K len D i th Ds) Ds σ H
theorem CP(fw:X.stack=X.env::X.outer)(qD:X.env.frame=some X.env.locals)(hN:X.N.Nodup)(hi:X.N[i]? =some nm)(D5:X.env.kindOf nm=some .local)(hg:Gl X c)(hm:X.mg c=some (.ref D))(hD:CV X.K D)
 (hb:∀(E:XK) (pn:aL) (W:Value→Shared→Prop),DE (X.pinned pn W) E→yW (X.pinned pn W) body (tb E)) (hs:∀a,yW (X.p4 a fun _ _=>False) (b0::xX) th) (BX:(c==("__debug__" :Str))=false:=by decide):
 PS X (.Try body (.ExceptHandler (some (.Name c cp)) (some nm) (b0::xX) AJ::rest) [] [] pos) (aeZ X.K X.N.length D i tb th):=by
 intro pins s σ H Ds I h;refine wpAny_Try_except ?_
 have hw:DE (X.pinned pins fun e bF=>wpAny (model X.prog X.w) X.A (noteFrame e X.env) (fun _ qk=>wpAny (model X.prog X.w) X.A (setFlight e none) (fun _ vV=>wpAny (model X.prog X.w) X.A (handleBy e X.env (.ExceptHandler (some (.Name c cp)) (some nm) (b0::xX) AJ::rest)) (SP X pins Ds) X.xe vV) X.xe qk) X.xe bF)
  (Zp X.K X.N.length D i th Ds):=by
  intro Ai cK H' s' a C dd n I' ea fl q;have J:Inv X pins cK H' s' :=I'.ofPinned I.ok
  have fl' :wI X pins H' s'.heap a:=by
   rcases fl with z|⟨T,oe,f,z1,z2,z3⟩
   ·exact .inl z
   ·exact .inr ⟨T,oe,f,z1,z2,fun p hp=>z3 p (List.mem_append_left _ hp)⟩
  obtain⟨C',eC,un,q⟩:=q;cases eC;refine zK J fw qD ea fl' fun s2 T I2 held=> ?_;have ea2:upd H' a (.ext (cY a C dd false)) a=some (.ext (cY a C dd false)):=ae;obtain⟨vs,he,hv,_⟩:=nE I2.bD ea2;refine wpAny_handleBy_cons (codeAny_handlers_test ?_) (by intro q;cases q);refine ou (I2.p4 a fun _ _=>False) hg hm ?_ BX;obtain⟨nm1,q1,N1,bs1,bm1,IK,sn1,al0,ab1,anU,dd1,k0,k1,k2,k3,k5,i1,lk,HH⟩:=un.ex;obtain⟨nm2,q2,N2,bs2,bm2,hd2,sn2,aqc,ab2,ahI,dd2,j0,j1,j2,j3,j5,lk2,T2⟩:=hD.obj;have hC:=I2.lD _ _ lk;have hDD:=I2.lD _ _ lk2;obtain⟨wX,g2,d2,t2,os2⟩:=s2;refine vz hC hDD he rfl T2.hasBase HH ?_;refine codeAny_handlers_suite_as ?_;refine zM I2 held fun s3 I3 Yl=> ?_;refine ub (X:=X.p4 a fun _ _=>False) (I3.p4 a fun _ _=>False) hN hi (.inl D5) (show RelV (.ref a) (.ref a) from rfl) (fun s4 I4=> ?_) (.inr D5);refine wpAny_mono (hs a pins s4 _ _ (AB i Ds) I4 (q a cK ea2 I3.len)) (fun f s5 z=> ?_) fun _ _ z=>z.elim;have A4:(X.env.scope.kind== .class||(X.env.scope.kind== .module&&X.env.locals !=X.env.globals))=false:=by rw[I.ok.kind];rfl
  have AW:∀{D6:St} {H5:Hp} {Q:Unit→Shared→Prop},Inv X pins D6 H5 s5→(∀s6,Inv X pins (D6.set i none) H5 s6→Q () s6)→wpAny (model X.prog X.w) X.A (do bindName X.env nm .none;unbindBehindTheSuite X.env nm AJ) Q X.xe s5:=fun{D6 H5 Q} J5 hQ=>by
   obtain⟨m,Yt,_⟩:=id J5.loc;exact wpAny_nameGoes_keeps D5 Yt A4 fun h' v hn sb=>hQ _ (J5.Gn (t' :=s5.toks+1) hN hi Yt hn sb)
  cases f with
  |next=>obtain⟨D6,H5,I5,q5⟩:=z;exact AW (I5.pU I.ok) fun s6 I6=>⟨_,_,I6,q5⟩
  |brk=>obtain⟨D6,H5,I5,q5⟩:=z;exact AW (I5.pU I.ok) fun s6 I6=>⟨_,_,I6,q5⟩
  |cont=>obtain⟨D6,H5,I5,q5⟩:=z;exact AW (I5.pU I.ok) fun s6 I6=>⟨_,_,I6,q5⟩
  |ret u=>obtain⟨v,D6,H5,I5,r5,q5⟩:=z;exact AW (I5.pU I.ok) fun s6 I6=>⟨v,_,_,I6,r5,q5⟩
 refine wpAny_mono (hb _ pins _ hw [] s σ H Ds (I.DC _) h) (fun f s1 z=> ?_) fun _ _ z=>z
 cases f with
 |next=>obtain⟨cK,H',I',q⟩:=z;exact wpAny_execs_nil ⟨cK,H',I'.ofPinned I.ok,q⟩
 |brk=>obtain⟨cK,H',I',q⟩:=z;exact⟨cK,H',I'.ofPinned I.ok,q⟩
 |cont=>obtain⟨cK,H',I',q⟩:=z;exact⟨cK,H',I'.ofPinned I.ok,q⟩
 |ret u=>obtain⟨v,cK,H',I',r,q⟩:=z;exact⟨v,cK,H',I'.ofPinned I.ok,r,q⟩
end
section
variable{P:Program}{w:World}{K:Frag}{mg:Str→aH}{base:Heap}
theorem fc.Rg{x qual:Str}{st:Stmt}{f:Addr}{fd:FuncData}{N ps:aX}{k:Nat}{sp:Sp}(F:fc K x qual st f fd)(S:aC N ps (av st))(len:∀vs H Q E,sp vs H Q E→vs.length=ps.length)
 (ll:∀(cG:Value) (A:Around) (outer:List Env) (s:Shared) (H:Hp) (vs:az) (Q:VK) (E:XK),eT k (A.deeper (envOfC qual (av st) s.heap.objs.size f cG))→sp vs H Q E→
  ∃t,yW (CA (vI P w) P w K mg base N qual (av st) f cG A outer s H E) (kq st) t∧t {nx:=fun _ H' =>Q .bJ H',rt:=Q} (zn N vs) H):aV P w K mg base (vI P w) (k+1) f fd ps sp:=by
 obtain⟨oc,od,kV,doc,pm,an,cG,ct,IF,rfl,lk,Ao⟩:=F.ex;exact QI lk Ao S len fun A outer s H vs Q E hr NN=>ll cG A outer s H vs Q E hr NN
end
section
variable{X:Cx}
end
end L2
namespace My
open PySem PySem.NumText PyProof.Rows L2
end My
namespace L2
open PySem PySem.Spec PySem.SeqAt PyProof.Rows
section
variable{X:Cx}
theorem u9(hu:X.A.units+100<cLine):qB X (compareOp .NotEq) (fun x y H Q=>∃d e,Dat H x d∧Dat H y e∧shaped d=true∧shaped e=true∧noMix d e=true∧Q (.bl (!PySem.Spec.same d e)) H):=by
 intro pins s σ H x y v u Q I rx ry h;obtain⟨d,e,hd,he,s1,s2,m,q⟩:=h;obtain⟨⟨as,rd⟩,_⟩:=hd.reads I.bD rx;obtain⟨⟨bs,re⟩,_⟩:=he.reads I.bD ry;exact ne_dataH_same rd re s1 s2 (by omega) m ⟨.bl _,H,I,rfl,q⟩
theorem zJ:∀{qs:aZ} {us:aA},Vals (qs.map V.ref) us→us=qs.map Value.ref
 |[],_,.nil=>rfl
 |a::r,_,.cons e q=>by
  cases e;rw[zJ q];rfl
end
section
variable{X:Cx}{e:Expr}{f:Str}{pos:Pos}{ta:TE}{K:Frag}
theorem sY(hK:X.K=K)(he:PE X e ta)(hb:attributeBase e f X.env (eval e X.env)=eval e X.env):PE X (.Attribute e f pos) (TY K ta f):=by
 subst hK;exact Og he hb
end
section
variable{X:Cx}{e:Expr}{es:cR}{st:Stmt}{Vz:List Stmt}{te:TE}{ta:TA}{t u:TS}
end
section
variable{P:Program}{w:World}{K:Frag}{mg:Str→aH}{base:Heap}
end
end L2
namespace L2
open PySem PySem.Spec PyProof.Rows PySem.Builtin.ObjectAttr
section
variable{K:Frag}{C:Addr}
variable{prog:Program}{w:World}{A:Around}{E:Value→Shared→Prop}{s:Shared}{x:Addr}{ox:Obj}{od:Option Obj}
end
section
variable{X:Cx}{K:Frag}
end
structure S4(k:Nat)(A:Around):Prop where
 dp:A.depth+3*k+5<recursionLimit
 un:A.units+16*k+200<cLine
 gd:A.guards=some []
theorem eT.mark{k:Nat}{A:Around}(r:eT k A)(v:aH):S4 k (A.mark v):=⟨r.dp,r.un,r.gd⟩
structure NA(P:Program)(w:World)(K:Frag)(mg:Str→aH)(base:Heap)(k:Nat)(f:Addr)(fd:FuncData)(ps:aX)(sp:Sp):Prop where
 len:∀vs H Q E,sp vs H Q E→vs.length=ps.length
 run:∀(A:Around) (outer:List Env) (s:Shared) (H:Hp) (args:Args) (us:aA) (vs:az) (Q:VK) (E:XK),S4 k A→wU P w K mg base A outer s H→BindsTo s fd args (ps.zip us)→Vals vs us→sp vs H Q E→
  codeAny (model P w) A (.call (.ref f) args) (CR eJ outer P w H s Q E) s
theorem NA.mono{P:Program}{w:World}{K:Frag}{mg:Str→aH}{base:Heap}{j k:Nat}{f:Addr}{fd:FuncData}{ps:aX}{sp:Sp}(F:NA P w K mg base j f fd ps sp)(h:j≤k):NA P w K mg base k f fd ps sp:=
 ⟨F.len,fun A outer s H args us vs Q E hr=>F.run A outer s H args us vs Q E ⟨by have:=hr.dp;omega,by have:=hr.un;omega,hr.gd⟩⟩
section
variable{X:Cx}{k:Nat}{f:Addr}{fd:FuncData}{ps:aX}{sp:Sp}{x:Str}{p pos:Pos}{e:Expr}{es:cR}{t:TA}{K:Frag}
end
section
variable{X:Cx}
end
def Bx(CX:Bl)(X:Cx)(E:St→XK):Prop:=∀(pins:aL) (σ:St) (H:Hp) (s:Shared) (e:Value) (s' :Shared),Inv X pins σ H s→CX X.stack H s (E σ) e s'→X.xe e s'
def EU(X:Cx)(E:St→XK):Prop:=∀(pins:aL) (σ:St) (H:Hp) (s:Shared) (a C:Addr) (dd:Option Addr) (n:Bool),Inv X pins σ H s→H a=some (.ext (cY a C dd n))→wI X pins H s.heap a→E σ (.ref C) dd (upd H a (.ext (cY a C dd false)))→X.xe (.ref a) s
theorem wJ{X:Cx}{E:St→XK}(hw:EU X E):Bx (vI X.prog X.w) X E:=by
 intro pins σ H s e s' I h;obtain⟨a,C,dd,H',rfl,I',ea,fl,q⟩:=Am I h;refine hw pins σ H' s' a C dd false I' ea fl ?_;rw[t9 ea];exact q
section
variable{X:Cx}{CX:Bl}{k:Nat}{f C:Addr}{fd:FuncData}{ps:aX}{sp:Sp}{qX:az}{ds:aA}{E:St→XK}{x m:Str}{p pos apos:Pos}{e o:Expr}{es:cR}{ta:TE}{t:TA}
theorem PL{pins:aL}{σ:St}{H:Hp}{s:Shared}{Q:VK}{us:aA}{vs:az}(F:aV X.prog X.w X.K X.mg X.base CX k f fd ps sp)(hr:eT k X.A)(hb:Binds X.K fd ps ds)(hd:Vals qX ds)(hx:Bx CX X E)
 (I:Inv X pins σ H s) (r:Vals vs us) (h:sp (vs++qX) H Q (E σ)):wpAny (model X.prog X.w) X.A (call (.ref f) us) (EP X pins σ Q) X.xe s:=by
 have r2:Vals (vs++qX) (us++ds):=r.append hd;have hl:(us++ds).length=ps.length:=by rw[←r2.length];exact F.len _ _ _ _ h
 refine wpAny_call (codeAny_mono (F.run X.A X.stack s H ⟨us,[]⟩ (us++ds) (vs++qX) Q (E σ) hr I.Po (hb s us I.lD hl) r2 h) fun r s' hq=> ?_)
 cases r with
 |error e=>exact hx pins σ H s e s' I hq
 |ok fl=>
  cases fl with
  |ret u=>exact I.after hq
  |next=>exact False.elim hq
  |brk=>exact False.elim hq
  |cont=>exact False.elim hq
def Vb(C:Addr)(m:Str)(sp:Sp)(qX:az)(E:St→XK)(ta:TE)(t:TA):TE:=fun σ H Q=>ta σ H fun x H1=>∃a dx fs,x= .ref a∧H1 a=some (.ins C dx fs)∧fs.lookup m=none∧
 t σ H1 fun vs H2=>sp (x::(vs++qX)) H2 Q (E σ)
theorem Ck{pl:Sem Bool}(he:PE X o ta)(c:Fh X.K C)(hm:Meth X.K C m f)(F:aV X.prog X.w X.K X.mg X.base CX k f fd ps sp)(hr:eT k X.A)(hb:Binds X.K fd ps ds)(hd:Vals qX ds)(hx:Bx CX X E)(ha:PA X (e::es) t)
 (fw:starEach (e::es) X.env=(false,eval e X.env)::starEach es X.env:=by rfl) (rK:(backTo pos (starEach es X.env)).any (·.1)=false:=by rfl)
 (ht:eval (.Call (.Attribute o m apos) (e::es) [] pos) X.env=(do
  let ov←eval o X.env
  standAt apos.atName
  let(f,first)←holding [ov] (getMethod ov m pl)
  callWith pos f first (backTo pos (starEach (e::es) X.env)) (backToKw pos (keywordEach [] X.env))):=by rfl):
 PE X (.Call (.Attribute o m apos) (e::es) [] pos) (Vb C m sp qX E ta t):=by
 intro pins s σ H Q I h;refine methodCall_KW (pl:=pl) (cm (he pins s σ H _ I h) fun u s1 ⟨x,H1,I1,rx,a,dx,fs,ex,ea,l,q⟩=> ?_) ht;subst ex;obtain rfl:u=Value.ref a:=rx;refine nH I1 ea c hm l ?_;refine callWith_K (first:=[.ref a]) (h₀:=X.base) I.ok.mod.Oy hm.kp (cm (ha pos pins s1 σ H1 _ I1 q) fun us s2 ⟨vs,H2,I2,r,q2⟩=>⟨I2.lD,?_⟩) fw rK;exact PL (us:= .ref a::us) (vs:= .ref a::vs) F hr hb hd hx I2 (.cons rfl r) q2
end
section
variable{X:Cx}{body xX:List Stmt}{b0:Stmt}{rest:List ExceptHandler}{c nm:Str}{cp AJ pos:Pos}{tb:(St→XK)→TS}{th:TS}{i:Nat}{D:Addr}
def SI(K:Frag)(D:Addr)(i:Nat)(th:TS)(Ds:Ends):St→XK:=fun σ Cv dd H=>∃C,Cv= .ref C∧Under K C D∧∀(a:Addr),H a=some (.ext (cY a C dd false))→th (AB i Ds) (σ.set i (some (.ref a))) H
def aaZ(K:Frag)(D:Addr)(i:Nat)(tb:(St→XK)→TS)(th:TS):TS:=fun Ds σ H=>tb (SI K D i th Ds) Ds σ H
theorem zC(fw:X.stack=X.env::X.outer)(qD:X.env.frame=some X.env.locals)(hN:X.N.Nodup)(hi:X.N[i]? =some nm)(D5:X.env.kindOf nm=some .local)(hg:Gl X c)(hm:X.mg c=some (.ref D))(hD:CV X.K D)
 (hb:∀(E:St→XK) (pn:aL) (W:Value→Shared→Prop),EU (X.pinned pn W) E→yW (X.pinned pn W) body (tb E)) (hs:∀a,yW (X.p4 a fun _ _=>False) (b0::xX) th) (BX:(c==("__debug__" :Str))=false:=by decide):
 PS X (.Try body (.ExceptHandler (some (.Name c cp)) (some nm) (b0::xX) AJ::rest) [] [] pos) (aaZ X.K D i tb th):=by
 intro pins s σ H Ds I h;refine wpAny_Try_except ?_
 have hw:EU (X.pinned pins fun e bF=>wpAny (model X.prog X.w) X.A (noteFrame e X.env) (fun _ qk=>wpAny (model X.prog X.w) X.A (setFlight e none) (fun _ vV=>wpAny (model X.prog X.w) X.A (handleBy e X.env (.ExceptHandler (some (.Name c cp)) (some nm) (b0::xX) AJ::rest)) (SP X pins Ds) X.xe vV) X.xe qk) X.xe bF)
  (SI X.K D i th Ds):=by
  intro Ai cK H' s' a C dd n I' ea fl q;have J:Inv X pins cK H' s' :=I'.ofPinned I.ok
  have fl' :wI X pins H' s'.heap a:=by
   rcases fl with z|⟨T,oe,f,z1,z2,z3⟩
   ·exact .inl z
   ·exact .inr ⟨T,oe,f,z1,z2,fun p hp=>z3 p (List.mem_append_left _ hp)⟩
  obtain⟨C',eC,un,q⟩:=q;cases eC;refine zK J fw qD ea fl' fun s2 T I2 held=> ?_;have ea2:upd H' a (.ext (cY a C dd false)) a=some (.ext (cY a C dd false)):=ae;obtain⟨vs,he,hv,_⟩:=nE I2.bD ea2;refine wpAny_handleBy_cons (codeAny_handlers_test ?_) (by intro q;cases q);refine ou (I2.p4 a fun _ _=>False) hg hm ?_ BX;obtain⟨nm1,q1,N1,bs1,bm1,IK,sn1,al0,ab1,anU,dd1,k0,k1,k2,k3,k5,i1,lk,HH⟩:=un.ex;obtain⟨nm2,q2,N2,bs2,bm2,hd2,sn2,aqc,ab2,ahI,dd2,j0,j1,j2,j3,j5,lk2,T2⟩:=hD.obj;have hC:=I2.lD _ _ lk;have hDD:=I2.lD _ _ lk2;obtain⟨wX,g2,d2,t2,os2⟩:=s2;refine vz hC hDD he rfl T2.hasBase HH ?_;refine codeAny_handlers_suite_as ?_;refine zM I2 held fun s3 I3 Yl=> ?_;refine ub (X:=X.p4 a fun _ _=>False) (I3.p4 a fun _ _=>False) hN hi (.inl D5) (show RelV (.ref a) (.ref a) from rfl) (fun s4 I4=> ?_) (.inr D5);refine wpAny_mono (hs a pins s4 _ _ (AB i Ds) I4 (q a ea2)) (fun f s5 z=> ?_) fun _ _ z=>z.elim;have A4:(X.env.scope.kind== .class||(X.env.scope.kind== .module&&X.env.locals !=X.env.globals))=false:=by rw[I.ok.kind];rfl
  have AW:∀{D6:St} {H5:Hp} {Q:Unit→Shared→Prop},Inv X pins D6 H5 s5→(∀s6,Inv X pins (D6.set i none) H5 s6→Q () s6)→wpAny (model X.prog X.w) X.A (do bindName X.env nm .none;unbindBehindTheSuite X.env nm AJ) Q X.xe s5:=fun{D6 H5 Q} J5 hQ=>by
   obtain⟨m,Yt,_⟩:=id J5.loc;exact wpAny_nameGoes_keeps D5 Yt A4 fun h' v hn sb=>hQ _ (J5.Gn (t' :=s5.toks+1) hN hi Yt hn sb)
  cases f with
  |next=>obtain⟨D6,H5,I5,q5⟩:=z;exact AW (I5.pU I.ok) fun s6 I6=>⟨_,_,I6,q5⟩
  |brk=>obtain⟨D6,H5,I5,q5⟩:=z;exact AW (I5.pU I.ok) fun s6 I6=>⟨_,_,I6,q5⟩
  |cont=>obtain⟨D6,H5,I5,q5⟩:=z;exact AW (I5.pU I.ok) fun s6 I6=>⟨_,_,I6,q5⟩
  |ret u=>obtain⟨v,D6,H5,I5,r5,q5⟩:=z;exact AW (I5.pU I.ok) fun s6 I6=>⟨v,_,_,I6,r5,q5⟩
 refine wpAny_mono (hb _ pins _ hw [] s σ H Ds (I.DC _) h) (fun f s1 z=> ?_) fun _ _ z=>z
 cases f with
 |next=>obtain⟨cK,H',I',q⟩:=z;exact wpAny_execs_nil ⟨cK,H',I'.ofPinned I.ok,q⟩
 |brk=>obtain⟨cK,H',I',q⟩:=z;exact⟨cK,H',I'.ofPinned I.ok,q⟩
 |cont=>obtain⟨cK,H',I',q⟩:=z;exact⟨cK,H',I'.ofPinned I.ok,q⟩
 |ret u=>obtain⟨v,cK,H',I',r,q⟩:=z;exact⟨v,cK,H',I'.ofPinned I.ok,r,q⟩
end
theorem HY:typeLookup (.type "list") "keys"=pure none:=by rw[typeLookup_type,builtinLookup_eq_fast];kernel_rfl
section
variable{prog:Program}{w:World}{A:Around}{E:Value→Shared→Prop}{s:Shared}
theorem uo{a:Addr}{o:Obj}{xs:Array Value}{k:Nat}{Q:aH→Shared→Prop}
 (hx:s.heap.get? a=some o) (hc:o.cls= .type "list") (XE:o.data= .seq xs k) (hd:o.dict=none) (hA:A.handled=none)
 (h:∀h' tk,(∀b q,s.heap.get? b=some q→h'.get? b=some q)→Q none {s with heap:=h',toks:=tk}):
 wpAny (model prog w) A (getAttr? (.ref a) "keys") Q E s:=by
 obtain⟨c,dct,dat,sl⟩:=o;simp only at hc XE hd;subst hc XE hd;obtain⟨hp,g,d,tk,os⟩:=s;have hT:∀DX,(⟨hp,g,d,DX,os⟩:Shared).TypeIs (.ref a) "list":=fun _=>⟨_,hx,rfl⟩;have f1:=sub_AttributeError;have f3:=F.slot_list_getattribute.lookup;have f4:=F.slot_list_getattribute.bind (.ref a);have f5:=am_list_getattr_none;unfold getAttr? getAttrBy? getAttrBy
 repeat (any_goals (first|assumption|exact hT _|((with_reducible show wpAny _ _ (call (Value.builtin "list.__getattribute__") _ _) _ _ _);refine call_meets F.slot_list_getattribute (hT _) am_entry_list_getattribute (F.args_list_getattribute_2 _ _) (meets_getattribute_miss_list a xs k sl "keys" _ HY (by decide+kernel) (by size_fits)) ⟨hx,hA,fun h' DX e Sd => ?_⟩)|wp_step))
 obtain⟨t',u',he⟩:=Sd.there;show wpAny _ _ (getattributeRaised _ _ _ _ _ _ _) _ _ _;unfold getattributeRaised
 repeat (any_goals (first|assumption|wp_step))
 exact h _ _ Sd.keeps
theorem gB:entryFor table "dict.update.loop"=some Builtin.«dict.update.loop» :=entryFor_of_tree (by kernel_rfl)
theorem cq:plainId "dict.update.loop"=true:=by decide+kernel
theorem W1{a:Addr}{x y:Value}{h:Value→Sem (aA)}{Q:aA→Shared→Prop}(ht:s.heap.IsTuple a #[x,y])(hq:Q [x,y] s):wpAny (model prog w) A ((Builtin.Dict.pairItems (.ref a)).tryCatch h) Q E s:=by
 obtain⟨o,ho,hc,n,hd⟩:=ht;have hT:s.TypeIs (.ref a) "tuple":=⟨_,ho,hc⟩;refine wpAny_tryCatch ?_;unfold Builtin.Dict.pairItems;refine wpAny_bind (wpAny_typeOf hT ?_);rw[if_pos (by decide)];refine wpAny_bind (wpAny_seqItems ho hd ?_);exact wpAny_pure hq
end
section
variable{prog:Program}{w:World}{A:Around}{R:Result→Shared→Prop}{I:Addr}{fp wr:aZ}{G:Array GenState→Array GenState→Prop}{n:Nat}{P:Nat→Value→Prop}{St:Nat→Shared→Prop}{κ:Type}[DecidableEq κ]{knd:KeyKind prog w κ}
theorem Hv(vs:List (κ×Value))(k:κ)(v:Value):(stored vs k v).length≤vs.length+1:=by
 unfold stored
 split
 ·rw[List.length_map];omega
 ·rw[List.length_append];simp
theorem Dg(vs ps:List (κ×Value))(p:κ×Value):merged vs (ps++[p])=stored (merged vs ps) p.1 p.2:=by
 unfold merged;rw[List.foldl_append];rfl
theorem Io(ps:List (κ×Value)):∀vs:List (κ×Value),(merged vs ps).length≤vs.length+ps.length:=by
 induction ps with
 |nil=>intro vs;exact Nat.le_refl _
 |cons p r ih=>
  intro vs;have h:=ih (stored vs p.1 p.2);have h2:=Hv vs p.1 p.2;show(merged (stored vs p.1 p.2) r).length≤_;rw[List.length_cons];omega
theorem HS(W:WalksS prog w A.in1 I fp wr G n P St)(D:Addr)(Qq:D∉fp)(ps:List (κ×Value))(hn:ps.length=n)(hb:n≤sizeLine):
 ∀(k i:Nat) (s:Shared),n - i=k→i≤n→St i s→s.heap.DictOf knd D (merged [] (ps.take i))→
  (∀i v,P i v→∃a key q x,v= .ref a∧ps[i]? =some (q,x)∧knd.is q key=true∧a∉D::wr∧s.heap.IsTuple a #[key,x])→
  (∀s',Moved (D::wr) G s s'→s'.heap.DictOf knd D (merged [] ps)→R (.ok (.ret .none)) s')→
  codeAny (model prog w) A (.builtin "dict.update.loop" ⟨[.ref D,.ref I,rawInt i,.none],[]⟩) R s:=by
 have hDw:D∉wr:=fun h=>Qq (W.sub _ h);have Cj:∀b∈wr,b∈D::wr:=fun b hb=>List.mem_cons_of_mem _ hb;intro k
 induction k with
 |zero=>
  intro i s hk hi fw hS hT hR;have HH:i=n:=by omega
  subst HH;refine codeAny_builtin gB ?_;rw[Around.under_plainId cq _];show wpAny _ A.in1 (pyNext (.ref I)>>= _) _ _ s;refine wpAny_bind (W.done s _ _ fw fun s' hm=> ?_);show wpAny _ A.in1 (Builtin.Dict.addKeywords D []>>= fun _=>ret Value.none) _ _ s';refine wpAny_bind (wpAny_pure (wpAny_pure (hR s' (hm.mono Cj) ?_)));obtain⟨o,es,ep,ho,rest⟩:=hS;rw[List.take_of_length_le (by omega)] at rest;exact⟨o,es,ep,hm.heap D _ hDw ho,rest⟩
 |succ k ih=>
  intro i s hk hi fw hS hT hR;have eQ:i<n:=by omega
  refine codeAny_builtin gB ?_;rw[Around.under_plainId cq _];show wpAny _ A.in1 (pyNext (.ref I)>>= _) _ _ s;refine wpAny_bind (W.item i s _ _ eQ fw fun v s' hP Wb hm=> ?_);obtain⟨a,key,q,x,rfl,hq,Bs,ha,ht⟩:=hT i v hP;have keep:∀{b:Addr} {o:Obj},b∉D::wr→s.heap.get? b=some o→s'.heap.get? b=some o:=fun{b o} hb e=>hm.heap b o (fun z=>hb (Cj b z)) e
  have ht' :s'.heap.IsTuple a #[key,x]:=by
   obtain⟨o,ho,rest⟩:=ht;exact⟨o,keep ha ho,rest⟩
  have Of :s'.heap.DictOf knd D (merged [] (ps.take i)):=by
   obtain⟨o,es,ep,ho,rest⟩:=hS;exact⟨o,es,ep,hm.heap D _ hDw ho,rest⟩
  have hle:=Io (ps.take i) [];rw[List.length_take] at hle;show wpAny _ A.in1 (holding [Value.ref a] _>>= _) _ _ s';refine wpAny_bind (wpAny_holding ?_);refine wpAny_bind (W1 ht' ?_);show wpAny _ A.in1 (holding [key,x] (dictSet D key x)) _ _ s';refine wpAny_holding ?_;refine wpAny_dictSet_pairs Bs Of (fun h' zj IH => ?_) (by simp at hle;omega)
  have e1:ps.take (i+1)=ps.take i++[(q,x)]:=by
   rw[List.take_add_one,hq];rfl
  refine wpAny_pure ⟨plainId_quiet cq _,?_⟩;have e2:rawInt ((i:Int)+1)=rawInt ((i+1:Nat):Int):=by rw[Int.natCast_add];rfl
  show codeAny _ _ (.builtin "dict.update.loop" ⟨[.ref D,.ref I,rawInt ((i:Int)+1),.none],[]⟩) _ _;rw[e2]
  have Ah:∀{b:Addr} {o:Obj},b∉D::wr→s'.heap.get? b=some o→h'.get? b=some o:=fun{b o} hb e=>by
   rw[IH.2 b (fun z=>hb (by rw[z];exact List.mem_cons_self))];exact e
  refine ih (i+1) _ (by omega) eQ (W.frame _ s' _ _ Wb (Nat.le_succ _) fun b hb o e=> ?_) ?_ (fun j u hu=> ?_) fun Kq Vr Vy => ?_
  ·rw[IH.2 b (fun z=>Qq (by rw[←z];exact hb))];exact e
  ·show h'.DictOf knd D (merged [] (ps.take (i+1)));rw[e1,Dg];exact zj
  ·obtain⟨a',amZ,q',x',h1,h2,h3,h4,o,ho,rest⟩:=hT j u hu;exact⟨a',amZ,q',x',h1,h2,h3,h4,o,Ah h4 (keep h4 ho),rest⟩
  ·refine hR Kq (Moved.trans W.gtrans ((hm.mono Cj).then_heap (Nat.le_succ _) fun b o hb e=> ?_) Vr) Vy;exact Ah hb e
end
section
variable{prog:Program}{w:World}{A:Around}{E:Value→Shared→Prop}{s:Shared}{κ:Type}[DecidableEq κ]{knd:KeyKind prog w κ}
theorem Fi{l:Addr}{items:Array Value}{ps:List (κ×Value)}{Q:Value→Shared→Prop}(hh:A.handled=none)(hl:s.heap.IsList l items)(hld:∀o,s.heap.get? l=some o→o.dict=none)(hn:ps.length=items.size)(hb:items.size≤sizeLine)
 (hT:∀(i:Nat) v,items[i]? =some v→∃a key q x,v= .ref a∧ps[i]? =some (q,x)∧knd.is q key=true∧s.heap.IsTuple a #[key,x])
 (h:∀(h' :Heap) (tk:Nat),h'.DictOf knd s.heap.objs.size (merged [] ps)→(∀b o,s.heap.get? b=some o→h'.get? b=some o)→Q (.ref s.heap.objs.size) {s with heap:=h',toks:=tk}):
 wpAny (model prog w) A (call (.type "dict") [.ref l]) Q E s:=by
 refine callType_codes (Q₁:=fun obj bF=>obj= .ref s.heap.objs.size∧bF={s with heap:=s.heap.push {cls:= .type "dict",data:= .dict #[]}}) F.kt_called_dict (F.kt_typeCall_dict_1 _) F.entry_dict_init (kt_code_dict_new _ ⟨rfl,rfl⟩) ?_
 rintro obj bF ⟨rfl,rfl⟩
 have DH:(s.heap.push {cls:= .type "dict",data:= .dict #[]}).DictOf knd s.heap.objs.size []:=Heap.DictOf.new s.heap;obtain⟨ol,NI,vk,nl,UO⟩:=id hl;have ER :(s.heap.push {cls:= .type "dict",data:= .dict #[]}).get? l=some ol:=Heap.get?_push_of_some _ NI;have hlS:l<s.heap.objs.size:=Heap.lt_size NI;refine⟨DH.typeIs,F.args_dict_init_2 _ _,?_⟩;unfold Builtin.«dict.__init__»;refine wpAny_bind ?_;unfold Builtin.Dict.selfAndRest;refine wpAny_bind (wpAny_notOrdered_dict DH.typeIs ?_);show wpAny _ _ (pure (s.heap.objs.size,[Value.ref l])) _ _ _;refine wpAny_pure ?_;show wpAny _ _ (Builtin.Dict.updateFrom "dict.__init__" s.heap.objs.size (.ref l) [] .none) _ _ _;unfold Builtin.Dict.updateFrom;have hTl:Shared.TypeIs {s with heap:=s.heap.push {cls:= .type "dict",data:= .dict #[]}} (.ref l) "list":=⟨_,ER,vk⟩;refine wpAny_bind (wpAny_typeOf hTl ?_);rw[if_pos (by decide)];refine wpAny_bind (uo ER vk UO (hld _ NI) (by simp[hh]) fun h2 tk2 k2=> ?_);rw[if_pos (show(none:aH).isNone=true from rfl)];refine wpAny_bind (wpAny_rule ?_);have m6:h2.IsList l items:=⟨ol,k2 _ _ ER,vk,nl,UO⟩;refine wpAny_bind (wpAny_pyIter_list (s:={s with heap:=h2,toks:=tk2}) m6 ?_);refine wpAny_pure ⟨plainId_quiet cq _,?_⟩;have hold:∀b o,s.heap.get? b=some o→(h2.push {cls:= .type "list_iterator",data:= .fields #[.ref l,.int 0 0]}).get? b=some o:=fun b o e=>Heap.get?_push_of_some _ (k2 _ _ (Heap.get?_push_of_some _ e));have hD2:h2.get? s.heap.objs.size=some {cls:= .type "dict",data:= .dict #[]}:=k2 _ _ (Heap.get?_push_size _ rfl);have yC:s.heap.objs.size<h2.objs.size:=Heap.lt_size hD2;have Wc:l≠h2.objs.size:=Nat.ne_of_lt (Nat.lt_trans hlS yC)
 have Qq:s.heap.objs.size∉[h2.objs.size,l]:=by
  simp only[List.mem_cons,List.not_mem_nil,or_false,not_or];exact⟨Nat.ne_of_lt yC,Nat.ne_of_gt hlS⟩
 refine HS (knd:=knd) ((Walks.list (by simp[hh]) _ l Wc items).toS) s.heap.objs.size Qq ps hn hb (items.size - 0) 0 _ (by omega) (Nat.zero_le _) ⟨⟨_,Heap.get?_push_size _ rfl,rfl,rfl⟩,(m6.push _)⟩ ?_ (fun i v hv=> ?_) fun s' hm zj => ?_
 ·obtain⟨o,es,ep,ho,rest⟩:=DH;exact⟨o,es,ep,Heap.get?_push_of_some _ (k2 _ _ ho),rest⟩
 ·obtain⟨a,key,q,x,h1,TR,h3,o,ho,rest⟩:=hT i v hv;have eQ:a<s.heap.objs.size:=Heap.lt_size ho;refine⟨a,key,q,x,h1,TR,h3,?_,o,hold _ _ ho,rest⟩;simp only[List.mem_cons,List.not_mem_nil,or_false,not_or];exact⟨Nat.ne_of_lt eQ,Nat.ne_of_lt (Nat.lt_trans eQ yC)⟩
 ·obtain⟨h',g',d',DX,os'⟩:=s';have eg:g' =s.gens:=hm.gens;have ed:d' =s.drawn:=hm.drawn;have eo:os' =s.os:=hm.os;subst eg;subst ed;subst eo
  refine⟨rfl,h h' DX zj fun b o e=> ?_⟩;have ZJ:b<s.heap.objs.size:=Heap.lt_size e;refine hm.heap b o ?_ (hold _ _ e);simp only[List.mem_cons,List.not_mem_nil,or_false,not_or];exact⟨Nat.ne_of_lt ZJ,Nat.ne_of_lt (Nat.lt_trans ZJ yC)⟩
end
section
variable{X:Cx}
def FR(H:Hp)(ys:az)(kvs:bK):Prop:=ys.length=kvs.length∧∀(i:Nat) k v,kvs[i]? =some (k,v)→∃a,ys[i]? =some (.ref a)∧H a=some (.tup [kV k,v])
theorem jaE{kvs:bK}:∀(R:Nat→wp→V→Value→Prop),(∀(i:Nat) k v,kvs[i]? =some (k,v)→∃x,RelV v x∧R i k v x)→∃ps:List (wp×Value),KV kvs ps∧∀(i:Nat) k v,kvs[i]? =some (k,v)→∃x,ps[i]? =some (k,x)∧R i k v x:=by
 induction kvs with
 |nil=>exact fun R _=>⟨[],.nil,fun i k v e=>by simp at e⟩
 |cons p r ih=>
  intro R h;obtain⟨k0,v0⟩:=p;obtain⟨x0,r0,h0⟩:=h 0 k0 v0 rfl;obtain⟨ps,JB,hi⟩:=ih (fun i=>R (i+1)) fun i k v e=>h (i+1) k v (by simpa using e);refine⟨(k0,x0)::ps,.cons ⟨rfl,r0⟩ JB,fun i k v e=> ?_⟩
  cases i with
  |zero=>
   simp at e;obtain⟨rfl,rfl⟩:=e;exact⟨x0,rfl,h0⟩
  |succ i=>
   obtain⟨x,e1,e2⟩:=hi i k v (by simpa using e);exact⟨x,by simpa using e1,e2⟩
theorem v5(hc:X.calm=true):gf X (.type "dict") (fun xs H Q=>∃p ys kvs,xs=[.ref p]∧H p=some (.lst ys)∧FR H ys kvs∧∀d,H d=none→Q (.ref d) (upd H d (.dK (mr [] kvs)))):=by
 intro pins s σ H xs us Q I r h;obtain⟨p,ys,kvs,rfl,hq,⟨hlen,hP⟩,q⟩:=h;obtain⟨u,rfl,rx⟩:=xL r;cases rx;obtain⟨hz,bz,n,r',e0⟩:=(show bq X.prog X.w H s.heap p (.lst ys) from I.bD p _ hq);have hl:=r'.length
 obtain⟨ps,JB,hi⟩:=jaE (kvs:=kvs) (fun i k v x=>∃a key,bz[i]? =some (.ref a)∧RelV (kV k) key∧s.heap.IsTuple a #[key,x]) fun i k v e=>by
  obtain⟨a,ea,eH⟩:=hP i k v e;obtain⟨u,hu,ru⟩:=r'.get ea;cases ru;obtain⟨_,us,rus,o,h1,h2,n,h3⟩:=(show bq X.prog X.w H s.heap a (.tup [kV k,v]) from I.bD a _ eH);obtain⟨key,x,rfl,r1,r2⟩:=XV rus;exact⟨x,r2,a,key,hu,r1,o,h1,h2,n,h3⟩
 have rK:=JB.length;refine Fi (knd:=bI X.prog X.w) (I.ok.hd hc) ⟨_,e0,rfl,n,rfl⟩ (fun o e=> ?_) (ps:=ps) (by simp;omega) (by simp;omega) (fun i v hv=> ?_) fun h' tk hd kp=> ?_
 ·rw[e0] at e;cases e;rfl
 ·have hv:bz[i]? =some v:=by simpa using hv
  have xO:i<kvs.length:=by
   have:=(List.getElem?_eq_some_iff.mp hv).1;omega
  obtain⟨x,e1,a,key,e2,r1,ht⟩:=hi i kvs[i].1 kvs[i].2 (by simp[xO]);rw[e2] at hv;cases hv;exact⟨a,key,kvs[i].1,x,rfl,e1,vj r1,ht⟩
 ·have hle:=lW kvs [];simp at hle;exact⟨.ref s.heap.objs.size,_,I.laid (t' :=tk) kp (Nat.le_refl _) (xy (by omega) (qt (P:=X.prog) (w:=X.w) (H:=H) s.heap I.big).2.1 (JB.merge .nil) hd),rfl,q _ (I.bD.fresh (Nat.le_refl _))⟩
theorem qx:gf X (.type "dict") (fun xs H Q=>∃p kvs,xs=[.ref p]∧H p=some (.dK kvs)∧∀d,H d=none→Q (.ref d) (upd H d (.dK kvs))):=by
 intro pins s σ H xs us Q I r h;obtain⟨p,kvs,rfl,hq,q⟩:=h;obtain⟨u,rfl,rx⟩:=xL r;cases rx;obtain⟨hz,hs,vs,rel,dd⟩:=xf I.bD hq;have hl:=rel.length;refine kt_call_dict (knd:=bI X.prog X.w) hs dd (by omega) fun h' hd hsb=> ?_
 have kp:∀b o,s.heap.get? b=some o→h'.get? b=some o:=fun b o e=>by
  rw[hsb.2 b (Nat.ne_of_lt (Heap.lt_size e))];exact Heap.get?_push_of_some _ e
 exact⟨.ref s.heap.objs.size,_,I.laid (t' :=s.toks) kp (Nat.le_refl _) (xy hz (qt (P:=X.prog) (w:=X.w) (H:=H) s.heap I.big).2.1 rel hd),rfl,q _ (I.bD.fresh (Nat.le_refl _))⟩
end
def lQ(v d:Addr):HO:= .ext fun h=>h.IsItemsView v d
def Vo(x:V)(vs:az)(H:Hp)(Q:VK):Prop:=∃d kvs,x= .ref d∧vs=[]∧H d=some (.dK kvs)∧∀v,H v=none→Q (.ref v) (upd H v (lQ v d))
theorem Cq{X:Cx}:P5 X "dict.items" Vo:=by
 intro pins s σ H x vs v us Q I rx rv h;obtain⟨d,kvs,rfl,rfl,hH,q⟩:=h;cases rx;have W3:=rv.zero;subst W3;obtain⟨hz,hs,vs,rel,dd⟩:=xf I.bD hH;refine call_meetsIn slot_dict_items dd.typeIs entry_dict_items (args_dict_items_1 _) (meets_dict_items (bI X.prog X.w) d hs) ⟨⟨vs,dd⟩,?_⟩;refine⟨.ref s.heap.objs.size,_,I.laid (a:=s.heap.objs.size) (o:=lQ s.heap.objs.size d) (t' :=s.toks) (fun _ _ q=>Heap.get?_push_of_some _ q) (Nat.le_refl _) ?_,rfl,q _ (I.bD.fresh (Nat.le_refl _))⟩;refine⟨⟨_,Heap.get?_push_size _ rfl,rfl,rfl⟩,⟨_,Heap.get?_push_size _ rfl⟩,fun h1 h2 ⟨o,e,r⟩ k=>⟨o,k _ e,r⟩⟩
def W4(d:Addr)(o:Obj)(kvs:bK):It:=
 ⟨fun i H=>i<kvs.length∧H d=some (.gz o (.dK kvs)),fun i H x H' =>∃T k v,x= .ref T∧H T=none∧H' =upd H T (.tup [kV k,v])∧kvs[i]? =some (k,v),fun i H=>kvs.length≤i∧H d=some (.gz o (.dK kvs))⟩
theorem Uv{kvs:bK}{vs:List (wp×Value)}(r:KV kvs vs):∀{i:Nat} {p:wp×V} {k:wp} {x:Value},kvs[i]? =some p→vs[i]? =some (k,x)→RelV p.2 x:=by
 unfold KV at r
 induction r with
 |nil=>intro i p k x h;simp at h
 | @cons a b as bs h t ih=>
  intro i p k x h1 h2
  cases i with
  |zero=>
   simp at h1 h2;subst h1 h2;exact h.2
  |succ i=>exact ih (by simpa using h1) (by simpa using h2)
theorem Fe{P:Program}{w:World}{K:Frag}{elts:cR}{kt:Nat}{pt:Pos}(d it:Addr)(o:Obj)(kvs:bK)(ep:Nat)(es:Array DictEntry)(hd:o.data= .dict es ep):
 Turn P w K (.Tuple elts kt pt) (W4 d o kvs) [it] it (fun i h=>∃ok ov,IsItemIter h it d i kvs.length ep ok ov) where
 mem:=by simp
 obj:=fun i h st b hb=>by
  have e:b=it:=by simpa using hb
  subst e;obtain⟨ok,ov,e⟩:=st;exact⟨_,e,fun v z=>by cases z⟩
 keep:=fun i h h' st k=>by
  obtain⟨ok,ov,e⟩:=st;exact⟨ok,ov,k it (by simp) _ e⟩
 item:=by
  intro X hP hw hK hc i pins s σ H E I hf st hg;subst hP hw hK;obtain⟨hi,hq⟩:=hg;obtain⟨ho,z,hs,vs,rel,o',Pk,Pq,g1,g2,g3,g4,g5,g6⟩:=(show bq X.prog X.w H s.heap d (.gz o (.dK kvs)) from I.bD d _ hq);rw[ho] at g1;cases g1;rw[hd] at g3;cases g3;have hl:=rel.length;obtain⟨⟨k,x⟩,hx⟩:∃p,vs[i]? =some p:=⟨vs[i],by simp[show i<vs.length by omega]⟩;obtain⟨f0,f1,f2,f3,f4,f5⟩:=hf it (by simp);obtain⟨ok,ov,st⟩:=st;rw[hl] at st;have MP:it<s.heap.objs.size:=Heap.lt_size st
  obtain⟨p,hp,GO,wX⟩:∃p:wp×V,kvs[i]? =some p∧p.1=k∧RelV p.2 x:=by
   have:kvs[i]? =some kvs[i]:=by simp[hi]
   exact⟨_,this,Kj rel this hx,Uv rel this hx⟩
  obtain⟨pk,pv⟩:=p;have GO:pk=k:=GO;subst GO;refine wpAny_pyNext_items_item (knd:=bI X.prog X.w) st ⟨o,es,ho,g2,hd,g4,g5,g6⟩ hx fun key h' Bs U_ hT hsz hk=> ?_;refine⟨.ref s.heap.objs.size,rfl,?_⟩;refine wpAny_letOwnedTupleGo_items U_ fun FF Je AH => ?_;have zH:H s.heap.objs.size=none:=I.bD.fresh (Nat.le_refl _);have D0:s.heap.objs.size≠it:=Nat.ne_of_gt MP;have kk:∀b o,b≠it→s.heap.get? b=some o→FF.get? b=some o:=fun b o hb q=>(AH.2 b hb).trans (hk b o hb q);have Ks :FF.get? s.heap.objs.size=some {cls:= .type "tuple",data:= .seq #[key,x]}:=(AH.2 _ D0).trans hT;have jw:∀b u,H b=some u→b≠it:=fun b u q z=>by rw[z,f0] at q;cases q
  have I2:Inv X pins σ (upd H s.heap.objs.size (.tup [kV pk,pv])) {s with heap:=FF}:=by
   have new:bq X.prog X.w (upd H s.heap.objs.size (.tup [kV pk,pv])) FF s.heap.objs.size (.tup [kV pk,pv]):=⟨(show 2≤sizeLine by decide),[key,x],.cons (Ri Bs) (.cons wX .nil),⟨_,Ks,rfl,_,rfl⟩⟩
   refine I.step (g' :=s.gens) (d' :=s.drawn) (ch:=[it]) (fun b hb=> ?_) (fun b o _ _ hc q _=>kk b o (fun z=>hc (by simp[z])) q) (fun b o _ _ hc q _=>⟨o.slots,kk b o (fun z=>hc (by simp[z])) q⟩)
    (fun b o _ q n=> ?_) (fun b o hc q=>⟨o,kk b o (fun z=>hc (by simp[z])) q⟩) (fun b ys q=> ?_) (fun b o ys q=> ?_) (fun b ps q=>⟨#[],?_⟩) (fun m hm=> ?_) (fun b u q=> ?_) I.bare
   ·have hb:b=it:=by simpa using hb
    subst hb;exact⟨f3,f1,f4,f5⟩
   ·rw[af (Nat.ne_of_lt (Heap.lt_size q))];exact n
   ·rw[af (ag q zH)];exact q
   ·rw[af (ag q zH)];exact q
   ·rw[af (ag q zH),q];simp
   ·obtain⟨o,es,ep,q,r⟩:=hm;exact⟨o,es,ep,kk _ o (Ne.symm f1) q,r⟩
   ·by_cases hb:b=s.heap.objs.size
    ·subst hb;rw[ae] at q;cases q;exact new
    ·rw[af hb] at q;refine(I.bD b u q).qR (fun c v hc q' =>kk c v ?_ q') (fun c q' => ?_) fun c ys q' => ?_
     ·rcases hc with z|z
      ·rw[z];exact jw b u q
      ·exact jw c _ z
     ·rw[af (ag q' zH)];exact q'
     ·rw[af (ag q' zH)];exact q'
  refine⟨.ref s.heap.objs.size,_,I2,rfl,⟨_,pk,pv,rfl,zH,rfl,hp⟩,⟨_,_,by rw[hl];exact Je⟩,fun b hb=> ?_⟩;have hb:b=it:=by simpa using hb
  subst hb;rw[af (Ne.symm D0)];exact f0
 done:=by
  intro X hP hw hK hc i pins s σ H E I hf st hg;subst hP hw hK;obtain⟨hi,hq⟩:=hg;obtain⟨ho,z,hs,vs,rel,o',Pk,Pq,g1,g2,g3,g4,g5,g6⟩:=(show bq X.prog X.w H s.heap d (.gz o (.dK kvs)) from I.bD d _ hq);rw[ho] at g1;cases g1;rw[hd] at g3;cases g3;have hl:=rel.length;obtain⟨f0,f1,f2,f3,f4,f5⟩:=hf it (by simp);obtain⟨ok,ov,st⟩:=st;rw[hl] at st;exact wpAny_pyNext_items_end (knd:=bI X.prog X.w) (I.ok.hd hc) st ⟨o,es,ho,g2,hd,g4,g5,g6⟩ (by simp;omega) fun h' eb=>⟨rfl,I.turned (t' :=s.toks) (fun b ob hb e=>eb b ob hb e) f0 f1 f3 f4 f5⟩
 self:=fun _ _ _ _ _ st h=>by
  obtain⟨ok,ov,st⟩:=st;exact kcp_self st h
section
variable{X:Cx}{e:Expr}{te:TE}{elts:cR}{kt:Nat}{pt:Pos}
def WK(X:Cx)(te:TE):TI:=fun σ H R=>te σ H fun x H1=>∃v d kvs,x= .ref v∧H1 v=some (lQ v d)∧H1 d=some (.dK kvs)∧∀o,KA X d→R (W4 d o kvs) (upd H1 d (.gz o (.dK kvs)))
theorem Ce(he:PE X e te):PI X (.Tuple elts kt pt) e (WK X te):=by
 intro pins s σ H R I h;refine cm (he pins s σ H _ I h) fun v s1 ⟨x,H1,I1,r1,v',a,kvs,ex,hv,hq,q⟩=> ?_;subst ex;cases r1;obtain⟨z,hs,vs,rel,o,es,ep,g1,g2,g3,g4,g5,g6⟩:=xf I1.bD hq;obtain⟨Nt,_⟩:=(show bq X.prog X.w H1 s1.heap v' (lQ v' a) from I1.bD v' _ hv);have hl:=rel.length;refine wpAny_pyIter_items (knd:=bI X.prog X.w) (kvs:=vs) (ep:=ep) Nt ⟨o,es,g1,g2,g3,g4,g5,g6⟩ ?_;have I2:=I1.freeze hq g1;have hn:H1 s1.heap.objs.size=none:=I1.bD.fresh (Nat.le_refl _);have hf:u2 X pins (upd H1 a (.gz o (.dK kvs))) s1.heap.objs.size:=I1.Bh (Nat.le_refl _) (by rw[af (fun z=>by rw[z,hq] at hn;cases hn)];exact hn);refine⟨s1.heap.objs.size,[s1.heap.objs.size],_,_,_,rfl,I2.kept (t' :=s1.toks) fun b ob e=>Heap.get?_push_of_some _ e,Fe a _ o kvs ep es g3,⟨_,_,by rw[hl];exact Heap.get?_push_size _ rfl⟩,fun b hb=> ?_,q o (I1.nfz hq)⟩;have e:b=s1.heap.objs.size:=by simpa using hb
 subst e;exact hf
def Vt(X:Cx)(t:TS):TS:=fun D σ H=>t {D with nx:=fun cK H' =>∃d o kvs,H' d=some (.gz o (.dK kvs))∧KA X d∧D.nx cK (upd H' d (.dK kvs))} σ H
theorem Ph{st:Stmt}{t:TS}(h:PS X st t):PS X st (Vt X t):=by
 intro pins s σ H D I q;refine cm (h pins s σ H _ I q) fun f s1 q1=> ?_
 cases f with
 |next=>
  obtain⟨cK,H',I',d,o,kvs,ed,nf,q'⟩:=q1;exact⟨cK,_,I'.Yy ed nf,q'⟩
 |brk=>exact q1
 |cont=>exact q1
 |ret u=>exact q1
end
theorem Cu{d:Addr}{o:Obj}{kvs:bK}{H:Hp}(h:H d=some (.gz o (.dK kvs))):pR (W4 d o kvs) H kvs.length (fun i x H' =>∃T k v,x= .ref T∧H' T=some (.tup [kV k,v])∧kvs[i]? =some (k,v)) where
 go:=fun i H' s hi=>⟨hi,s _ _ h⟩
 wd:=fun i H' x lC s hi q=>by
  obtain⟨T,k,v,rfl,hT,rfl,hy⟩:=q;exact⟨au.upd hT,T,k,v,rfl,ae,hy⟩
 stop:=fun i H' s hi=>⟨hi,s _ _ h⟩
section
variable{prog:Program}{w:World}{A:Around}{E:Value→Shared→Prop}{s:Shared}
end
section
variable{X:Cx}{pos:Pos}
theorem GX{d:Addr}{o:Obj}{kvs:bK}{g:TG}{tb:TS}{D:Ends}{σ:St}{H:Hp}(Pv:Nat→St→Hp→Prop)(h0:Pv 0 σ H)(hl:∀i σ H,Pv i σ H→H d=some (.gz o (.dK kvs)))
 (hs:∀i k v T σ H,kvs[i]? =some (k,v)→H T=none→Pv i σ H→g (.ref T) σ (upd H T (.tup [kV k,v])) fun nT H2=>tb {D with nx:=Pv (i+1),ct:=Pv (i+1),bk:=D.nx} nT H2) (hd:∀σ H,Pv kvs.length σ H→D.nx σ H):
 ∃W:Nat→Nat→St→Hp→Prop,(∃m,W 0 m σ H)∧∀i m σ H,W i m σ H→
  ((W4 d o kvs).stop i H∧D.nx σ H)∨((W4 d o kvs).go i H∧∃N:St→Hp→Prop,(∀cK H',N cK H'→∃m',m' <m∧W (i+1) m' cK H')∧∀x H',(W4 d o kvs).wd i H x H'→g x σ H' fun nT H2=>tb {D with nx:=N,ct:=N,bk:=D.nx} nT H2):=by
 refine⟨fun i m σ H=>m=kvs.length - i∧i≤kvs.length∧Pv i σ H,⟨kvs.length,by simp,Nat.zero_le _,h0⟩,?_⟩
 rintro i m σ H ⟨rfl,hi,p⟩
 have q:=hl i σ H p;by_cases eQ:i<kvs.length
 ·refine .inr ⟨⟨eQ,q⟩,Pv (i+1),fun cK H' p' =>⟨kvs.length - (i+1),by omega,rfl,eQ,p'⟩,fun x H' y=> ?_⟩;obtain⟨T,k,v,rfl,hT,rfl,e⟩:=y;exact hs i k v T σ _ e hT p
 ·have e:i=kvs.length:=by omega
  subst e;exact .inl ⟨⟨Nat.le_refl _,q⟩,hd σ H p⟩
theorem rq{K:Frag}(hK:X.K=K):gf X (.type "list") (fun xs H Q=>∃p ys,xs=[.ref p]∧(bB K H p ys∨qQ K H p ys)∧∀l,H l=none→Q (.ref l) (upd H l (.lst ys))):=by
 subst hK;exact iA
end
section
variable{X:Cx}{e hi ZX:Expr}{te th ts:TE}{pos p2:Pos}
end
section
variable{X:Cx}
theorem qi{K:Frag}(hK:X.K=K):gf X (.type "tuple") (fun xs H Q=>∃p ys,xs=[.ref p]∧((bB K H p ys∧∀l,H l=none→Q (.ref l) (upd H l (.tup ys)))∨(qQ K H p ys∧Q (.ref p) H))):=by
 subst hK;exact gj
variable{o e:Expr}{es:cR}{to:TE}{t:TA}{name:Str}{apos fL:Pos}{T id:String}{r:V→az→Hp→VK→Prop}
theorem J4{K:Frag}(hK:X.K=K)(pa:PlainAttrs T)(slot:Slot T name id)(XB:typeOf (.builtin id)=pure (.type "method_descriptor"))(hm:P5 X id r)(ho:PE X o to)(ha:PA X (e::es) t)
 (sU:attributeBase o name X.env (eval o X.env)=eval o X.env:=by rfl)
 (Vu:((backTo fL (starEach (e::es) X.env)).all (fun x=> !x.1)&&(backToKw fL (keywordEach [] X.env)).all (fun x=>x.1.isSome)
  &&decide ((e::es).length+([]:List Keyword).length+(if([]:List Keyword).isEmpty then 0 else 1)<30))=true:=by rfl)
 (Dx:(apos.endLine==fL.line)=true:=by rfl) (hs:starEach (e::es) X.env=(false,eval e X.env)::starEach es X.env:=by rfl) (D3:(backTo fL (starEach es X.env)).any (·.1)=false:=by rfl):
 PE X (.Call (.Attribute o name apos) (e::es) [] fL) (tBM K T r to t):=by
 subst hK;exact vC pa slot XB hm ho ha sU Vu Dx hs D3
end
end L2
namespace L2
open PySem PySem.Spec PySem.SeqAt PyProof.Rows
section
variable{X:Cx}
def VL(H:Hp)(i j:Int):Value→Bool
 | .ref a=>match H a with
  |some (.tup [.int x,.int y])=>x==i&&y==j
  |_=>false
 |_=>false
theorem EL{A:Around}{s:Shared}{a t:Addr}{x y i j:Int}{t1 t2 t3 t4:Tok}(ha:s.heap.IsTuple a #[.int x t1,.int y t2])(ht:s.heap.IsTuple t #[.int i t3,.int j t4])(hu:A.units<cLine)(jw:a≠t):EqAt A s (.ref a) (.ref t) (x==i&&y==j):=by
 have h:=EqAt.of_refs jw (RcAt.tuples (e:=fun k=>if k=0 then x==i else y==j) ha ht hu fun k h1 h2=> ?_)
 ·have e:((List.range (min (#[Value.int x t1,Value.int y t2]:Array Value).size (#[Value.int i t3,Value.int j t4]:Array Value).size)).all (fun k=>if k=0 then x==i else y==j)&&(#[Value.int x t1,Value.int y t2]:Array Value).size==(#[Value.int i t3,Value.int j t4]:Array Value).size)=(x==i&&y==j):=by
   show((List.range 2).all (fun k=>if k=0 then x==i else y==j)&&true)=_;rw[Bool.and_true];show((x==i)&&((y==j)&&true))=_;rw[Bool.and_true]
  rw[e] at h;exact h
 ·have hk:k<2:=h1
  match k,hk with
  |0,_=>exact EqAt.int_int x t1 i t3
  |1,_=>exact EqAt.int_int y t2 j t4
theorem Cs{x y:Int}{bz:aA}(r:Vals [V.int x,V.int y] bz):∃t1 t2,bz=[.int x t1,.int y t2]:=by
 cases r with
 |cons r1 r=>
  cases r with
  |cons r2 r=>
   cases r;obtain⟨t1,rfl⟩:=r1;obtain⟨t2,rfl⟩:=r2;exact⟨t1,t2,rfl⟩
theorem CG(hu:X.A.units+100<cLine):qB X (compareOp .NotIn) (fun x y H Q=>∃(t p:Addr) (i j:Int) (qs:aZ),x= .ref t∧y= .ref p∧H t=some (.tup [.int i,.int j])∧H p=some (.lst (qs.map V.ref))∧(∀a∈qs,∃i' j' :Int,H a=some (.tup [.int i',.int j']))∧Q (.bl (!qs.any fun a=>VL H i j (.ref a))) H):=by
 intro pins s σ H x y v u Q I rx ry h;obtain⟨t,p,i,j,qs,rfl,rfl,ht,hp,hq,q⟩:=h;cases rx;cases ry;obtain⟨bz,r,pl,hz⟩:=I.list (bB.of hp);obtain⟨itt,rt,pt,_⟩:=I.tuple (qQ.of ht);have e1:=zJ r;subst e1;obtain⟨t1,t2,rfl⟩:=Cs rt;refine SeqAt.notIn_listAt (VL H i j) pl.isList (fun w hw=> ?_) ⟨.bl _,H,I,rfl,?_⟩
 ·have hw:w∈qs.map Value.ref:=by simpa using hw
  obtain⟨a,ha,rfl⟩:=List.mem_map.mp hw;obtain⟨x,y,hx⟩:=hq a ha
  have hb:VL H i j (.ref a)=(x==i&&y==j):=by
   show(match H a with|some (.tup [.int x,.int y])=>x==i&&y==j|_=>false)=_;rw[hx]
  rw[hb]
  have sP:X.A.in1.units<cLine:=by
   show X.A.units+1<cLine;omega
  by_cases jw:a=t
  ·subst jw;rw[ht] at hx;cases hx;rw[beq_self_eq_true,beq_self_eq_true];exact EqAt.same _
  ·obtain⟨itx,rx,px,_⟩:=I.tuple (qQ.of hx);obtain⟨t3,t4,rfl⟩:=Cs rx;exact EL px pt sP jw
 ·have e:(qs.map Value.ref).toArray.any (VL H i j)=qs.any fun a=>VL H i j (.ref a):=by
   rw[List.any_toArray,List.any_map];rfl
  rw[e];exact q
end
section
variable{prog:Program}{w:World}{A:Around}{E:Value→Shared→Prop}{s:Shared}
structure UH(h:Heap)(d:Addr)(o:Obj)(es:Array DictEntry)(ep:Nat):Prop where
 at_:h.get? d=some o
 ex:o.ExactDict
 da:o.data= .dict es ep
theorem G9(d:Addr)(hd:(d==sysModules)=false):MeetsIn prog w (Builtin.«dict.items» ⟨[.ref d],[]⟩) (fun _ R s=>s.TypeIs (.ref d) "dict" ∧R (.ok (.ret (.ref s.heap.objs.size))) {s with heap:=s.heap.push {cls:= .type "dict_items",data:= .fields #[.ref d]}}):= .of_wp fun A R s ⟨ht,h⟩=>by
 have hn:¬((d==sysModules)=true):=by rw[hd];decide
 unfold Builtin.«dict.items»;refine wpAny_bind ?_
 unfold Builtin.Dict.noArgs;refine wpAny_bind (wpAny_notOrdered_dict ht ?_)
 refine wpAny_pure ?_;show wpAny _ _ (Builtin.Dict.showsAll d>>= _) _ _ s
 unfold Builtin.Dict.showsAll;rw[if_neg hn]
 refine wpAny_bind (wpAny_pure (wpAny_bind (wpAny_newObj_type (wpAny_pure ⟨_,rfl,h⟩))))
theorem Le{v d:Addr}{o:Obj}{es:Array DictEntry}{ep:Nat}{Q:Value→Shared→Prop}(hv:s.heap.IsItemsView v d)(hm:UH s.heap d o es ep)
 (hQ:Q (.ref s.heap.objs.size) {s with heap:=s.heap.push {cls:= .type "dict_itemiterator",data:= .fields #[.none,.bool false,.ref d,.int 0 0,.int es.size 0,.int ep 0,.none,.none]}}):
 wpAny (model prog w) A (pyIter (.ref v)) Q E s:=by
 obtain⟨ov,v1,v2,v3⟩:=id hv;refine wpAny_pyIter_slot hv.typeIs F.slot_dict_items_iter (wpAny_call_entry F.slot_dict_items_iter hv.typeIs F.entry_dict_items_iter ?_ (F.args_dict_items_iter_1 _));unfold Builtin.«dict_items.__iter__»;refine wpAny_bind (wpAny_pure (wpAny_bind ?_))
 unfold Builtin.Dict_items.dictOf;refine wpAny_bind (wpAny_field v1 v3 (x:= .ref d) rfl (wpAny_pure (wpAny_bind ?_)))
 unfold Builtin.Dict_items.newIterator;refine wpAny_bind (wpAny_dictEntries hm.at_ hm.da (wpAny_bind (wpAny_dictEpoch hm.at_ hm.da ?_)))
 simp only[show Builtin.Dict_items.ownsTuple "dict_itemiterator"=true by decide,if_true];refine wpAny_newObj_type (wpAny_pure ⟨_,rfl,"dict_itemiterator",_,⟨_,Heap.get?_push_size _ rfl,rfl⟩,F.slot_dict_itemiterator_next.lookup,by simpa[rawInt,Builtin.Dict_items.ownedTupleFields] using hQ⟩) ?_;simp only[sizeOk,Builtin.Dict_items.ownedTupleFields,List.size_toArray,List.length_append,List.length_cons,List.length_nil,sizeLine_eq];omega
theorem J9{it d:Addr}{i ep:Nat}{o:Obj}{es:Array DictEntry}{en:DictEntry}{ok ov:Value}{Q:aH→Shared→Prop}(hit:IsItemIter s.heap it d i es.size ep ok ov)(hm:UH s.heap d o es ep)(hx:es[i]? =some en)
 (hQ:∀h',IsItemIterOut h' it d (i+1) es.size ep en.key en.val s.heap.objs.size→h'.get? s.heap.objs.size=some {cls:= .type "tuple",data:= .seq #[en.key,en.val]}→h'.objs.size=s.heap.objs.size+1→(∀b o,b≠it→s.heap.get? b=some o→h'.get? b=some o)→Q (some (.ref s.heap.objs.size)) {s with heap:=h'}):
 wpAny (model prog w) A (pyNext (.ref it)) Q E s:=by
 obtain⟨hp,g,dr,tk,os⟩:=s;have hT:Shared.TypeIs ⟨hp,g,dr,tk,os⟩ (.ref it) "dict_itemiterator":=⟨_,hit,rfl⟩;have eQ:i<es.size:=(Array.getElem?_eq_some_iff.mp hx).1;have Vs:Builtin.Dict_items.ownsTuple "dict_itemiterator"=true:=by decide
 have jw:¬((Value.ref d==Value.none)=true):=Bool.false_ne_true;have HH:¬((i:Int)<0):=by omega
 unfold pyNext;refine wpAny_bind (wpAny_attempt (wpAny_callSpecial?_slot (name:=Str.ofString "__next__") hT F.slot_dict_itemiterator_next (wpAny_call_entry F.slot_dict_itemiterator_next hT F.entry_dict_itemiterator_next ?_ (F.args_dict_itemiterator_next_1 _))))
 refine wpAny_bind (wpAny_pure (wpAny_bind (wpAny_bind ?_)))
 first|refine wpAny_bind (wpAny_typeNameOfWhole_itemiter hT (wpAny_pure (wpAny_bind (wpAny_fieldsOf hit rfl ?_))))|refine wpAny_bind (wpAny_typeNameOf_itemiter hT (wpAny_pure (wpAny_bind (wpAny_fieldsOf hit rfl ?_))))
 simp only[Vs,if_true];show wpAny _ _ (if(Value.ref d==Value.none)=true then _ else _) _ _ _;rw[if_neg jw]
 refine wpAny_bind (wpAny_pure (wpAny_bind (wpAny_dictEntries hm.at_ hm.da ?_)));rw[if_neg (by simp)]
 refine wpAny_bind (wpAny_pure (wpAny_bind (wpAny_dictEpoch hm.at_ hm.da ?_)));rw[if_neg (by simp)]
 refine wpAny_pure ?_;simp only[HH,if_false,Int.toNat_natCast,hx]
 refine wpAny_bind ?_
 first|refine wpAny_bind (wpAny_typeNameOfWhole_itemiter hT (wpAny_pure (wpAny_bind (wpAny_isOneOf_itemiter hT ?_))))|refine wpAny_bind (wpAny_typeNameOf_itemiter hT (wpAny_pure (wpAny_bind (wpAny_isOneOf_itemiter hT ?_))))
 show wpAny _ _ (setField (.ref it) 3 (rawInt ((i:Int)+1))>>= _) _ _ ⟨hp,g,dr,tk,os⟩;refine wpAny_bind (wpAny_setField_rec hit (by simp) fun h1 e1 s1=> ?_);replace s1:Heap.SameBut it hp h1:=s1
 replace e1:IsItemIter h1 it d (i+1) es.size ep ok ov:=by
  have e:((i+1:Nat):Int)=(i:Int)+1:=by omega
  unfold IsItemIter;rw[e];simpa[rawInt] using e1
 have T1:Shared.TypeIs ⟨h1,g,dr,tk,os⟩ (.ref it) "dict_itemiterator":=⟨_,e1,rfl⟩;refine wpAny_bind (wpAny_holding (wpAny_bind (wpAny_isOneOf_itemiter T1 (wpAny_bind (wpAny_isOneOf_itemiter T1 ?_)))));show wpAny _ _ (Builtin.Dict_items.pairFromOwner (.ref it) 6 en.key en.val) _ _ ⟨h1,g,dr,tk,os⟩;unfold Builtin.Dict_items.pairFromOwner;refine wpAny_bind (wpAny_newTuple ?_)
 have z1:h1.objs.size=hp.objs.size:=s1.1;have e2:IsItemIter (h1.push {cls:= .type "tuple",data:= .seq #[en.key,en.val]}) it d (i+1) es.size ep ok ov:=Heap.get?_push_of_some _ e1;have t2:(h1.push {cls:= .type "tuple",data:= .seq #[en.key,en.val]}).get? hp.objs.size=some {cls:= .type "tuple",data:= .seq #[en.key,en.val]}:=by rw[←z1];exact Heap.get?_push_size _ rfl
 have z2:(h1.push {cls:= .type "tuple",data:= .seq #[en.key,en.val]}).objs.size=hp.objs.size+1:=by rw[Heap.size_push,z1]
 have k2:∀b o,b≠it→hp.get? b=some o→(h1.push {cls:= .type "tuple",data:= .seq #[en.key,en.val]}).get? b=some o:=fun b o hb e=>Heap.get?_push_of_some _ (s1.extBut b o hb e);show wpAny _ _ (Builtin.Dict_items.ownedTupleIsFree (.ref it)>>= _) _ _ ⟨h1.push {cls:= .type "tuple",data:= .seq #[en.key,en.val]},g,dr,tk,os⟩;rw[z1];generalize h1.push {cls:= .type "tuple",data:= .seq #[en.key,en.val]}=h2 at e2 t2 z2 k2 ⊢;have nit:hp.objs.size≠it:=Nat.ne_of_gt (Heap.lt_size hit);refine wpAny_bind ?_;unfold Builtin.Dict_items.ownedTupleIsFree;refine wpAny_bind (wpAny_field e2 rfl (x:= .none) rfl (wpAny_pure ?_))
 simp only[if_true];refine wpAny_bind (wpAny_field e2 rfl (x:=ok) rfl (wpAny_bind (wpAny_field e2 rfl (x:=ov) rfl ?_)));refine wpAny_bind (wpAny_setField_rec e2 (by simp) fun h3 e3 s3=> ?_);replace s3:Heap.SameBut it h2 h3:=s3;replace e3:IsItemIter h3 it d (i+1) es.size ep en.key ov:=e3;refine wpAny_bind (wpAny_setField_rec e3 (by simp) fun h4 e4 s4=> ?_);replace s4:Heap.SameBut it h3 h4:=s4;replace e4:IsItemIter h4 it d (i+1) es.size ep en.key en.val:=e4;refine wpAny_bind (wpAny_setField_rec e4 (by simp) fun h5 e5 s5=> ?_);replace s5:Heap.SameBut it h4 h5:=s5;replace e5:IsItemIterOut h5 it d (i+1) es.size ep en.key en.val hp.objs.size:=e5;refine wpAny_bind (wpAny_setField_rec e5 (by simp) fun h6 e6 s6=> ?_);replace s6:Heap.SameBut it h5 h6:=s6;replace e6:IsItemIterOut h6 it d (i+1) es.size ep en.key en.val hp.objs.size:=e6;have al:∀b o,b≠it→h2.get? b=some o→h6.get? b=some o:=fun b o hb e=>s6.extBut b o hb (s5.extBut b o hb (s4.extBut b o hb (s3.extBut b o hb e)));refine wpAny_bind (wpAny_letGo (wpAny_pure (wpAny_pure ⟨_,rfl,wpAny_pure (hQ h6 e6 (al _ _ nit t2) ?_ fun b o hb e=>al b o hb (k2 b o hb e))⟩)));show h6.objs.size=hp.objs.size+1;rw[s6.1,s5.1,s4.1,s3.1,z2]
theorem P8{it d:Addr}{i ep:Nat}{o:Obj}{es:Array DictEntry}{ok ov:Value}{Q:aH→Shared→Prop}(hh:A.handled=none)(hit:IsItemIter s.heap it d i es.size ep ok ov)(hm:UH s.heap d o es ep)(hx:es.size≤i)
 (hQ:∀h',Heap.ExtBut it s.heap h'→Q none {s with heap:=h'}):wpAny (model prog w) A (pyNext (.ref it)) Q E s:=by
 have hT:s.TypeIs (.ref it) "dict_itemiterator":=⟨_,hit,rfl⟩;have Vs:Builtin.Dict_items.ownsTuple "dict_itemiterator"=true:=by decide
 have jw:¬((Value.ref d==Value.none)=true):=Bool.false_ne_true;have HH:¬((i:Int)<0):=by omega
 unfold pyNext;refine wpAny_bind (wpAny_attempt (wpAny_callSpecial?_slot (name:=Str.ofString "__next__") hT F.slot_dict_itemiterator_next (wpAny_call_entry F.slot_dict_itemiterator_next hT F.entry_dict_itemiterator_next ?_ (F.args_dict_itemiterator_next_1 _))))
 refine wpAny_bind (wpAny_pure (wpAny_bind (wpAny_bind ?_)))
 first|refine wpAny_bind (wpAny_typeNameOfWhole_itemiter hT (wpAny_pure (wpAny_bind (wpAny_fieldsOf hit rfl ?_))))|refine wpAny_bind (wpAny_typeNameOf_itemiter hT (wpAny_pure (wpAny_bind (wpAny_fieldsOf hit rfl ?_))))
 simp only[Vs,if_true];show wpAny _ _ (if(Value.ref d==Value.none)=true then _ else _) _ _ s;rw[if_neg jw]
 refine wpAny_bind (wpAny_pure (wpAny_bind (wpAny_dictEntries hm.at_ hm.da ?_)));rw[if_neg (by simp)]
 refine wpAny_bind (wpAny_pure (wpAny_bind (wpAny_dictEpoch hm.at_ hm.da ?_)));rw[if_neg (by simp)]
 refine wpAny_pure ?_;simp only[HH,if_false,Int.toNat_natCast,Array.getElem?_eq_none hx]
 refine wpAny_bind ?_
 first|refine wpAny_bind (wpAny_typeNameOfWhole_itemiter hT (wpAny_pure ?_))|refine wpAny_bind (wpAny_typeNameOf_itemiter hT (wpAny_pure ?_))
 show wpAny _ _ (setField (.ref it) 2 .none>>= _) _ _ s;refine wpAny_bind (wpAny_setField hit rfl (by simp) ?_)
 show wpAny _ _ (newExc (.type "StopIteration") []>>= _) _ _ _;refine wpAny_bind ?_
 simp only[newExc,newTuple];refine wpAny_bind (wpAny_newObj_type ?_ (by size_fits))
 refine wpAny_bind (m:=firstArgMember _ _) (wpAny_of_eq (a:=Value.none) (by first|rfl|(simp only[firstArgMember];rfl)) (wpAny_newObj_type ?_ (by size_fits)));simp only[raiseNew];refine wpAny_bind (wpAny_handled ?_);rw[show A.in1.handled=none from hh]
 refine wpAny_bind (wpAny_pure (wpAny_throw ?_));refine wpAny_bind (wpAny_isInstance (T:="StopIteration") (b:=true) ⟨_,Heap.get?_push_size _ rfl,rfl⟩ isSubtype_stop ?_)
 exact wpAny_pure (hQ _ (((Heap.SameBut.update ..).extBut.push _).push _))
end
section
variable{X:Cx}{pins:aL}{σ:St}{H:Hp}{s:Shared}{d:Addr}{kvs:dM}
theorem Inv.abw(I:Inv X pins σ H s)(e:H d=some (.dT kvs)):KA X d:=fun o u q=>by
 have:=I.base.pH d o u q;rw[e] at this;cases this
theorem Inv.Pw{o:Obj}(I:Inv X pins σ H s)(e:H d=some (.dT kvs))(ho:s.heap.get? d=some o):Inv X pins σ (upd H d (.gz o (.dT kvs))) s:=
 I.swap e (I.abw e) (fun _ z=>nomatch z) (fun _ z=>nomatch z) (fun _ z=>nomatch z) ⟨ho,(show bq X.prog X.w H s.heap d (.dT kvs) from I.bD d _ e).qR (fun _ _ _ q=>q) (fun b q=>by rw[af (aJ q e (fun z=>nomatch z))];exact q) fun b ys q=>by rw[af (aJ q e (fun z=>nomatch z))];exact q⟩
theorem Inv.Zm{o:Obj}(I:Inv X pins σ H s)(e:H d=some (.gz o (.dT kvs)))(nf:KA X d):Inv X pins σ (upd H d (.dT kvs)) s:=by
 have bD:=(show bq X.prog X.w H s.heap d (.gz o (.dT kvs)) from I.bD d _ e).2;exact I.swap e nf (fun _ z=>nomatch z) (fun _ z=>nomatch z) (fun _ z=>nomatch z) (bD.qR (fun _ _ _ q=>q) (fun b q=>by rw[af (aJ q e (fun z=>nomatch z))];exact q) fun b ys q=>by rw[af (aJ q e (fun z=>nomatch z))];exact q)
end
def OS(x:V)(vs:az)(H:Hp)(Q:VK):Prop:=∃d kvs,x= .ref d∧vs=[]∧H d=some (.dT kvs)∧∀v,H v=none→Q (.ref v) (upd H v (lQ v d))
theorem Hf{X:Cx}:P5 X "dict.items" OS:=by
 intro pins s σ H x vs v us Q I rx rv h;obtain⟨d,kvs,rfl,rfl,hH,q⟩:=h;cases rx;have W3:=rv.zero;subst W3;obtain⟨hz,hs,xs,rel,o,es,ep,g1,g2,g3,g4,g5⟩:=(show bq X.prog X.w H s.heap d (.dT kvs) from I.bD d _ hH);have ht:s.TypeIs (.ref d) "dict":=⟨o,g1,g2.1⟩;refine call_meetsIn slot_dict_items ht entry_dict_items (args_dict_items_1 _) (G9 d hs) ⟨ht,?_⟩;refine⟨.ref s.heap.objs.size,_,I.laid (a:=s.heap.objs.size) (o:=lQ s.heap.objs.size d) (t' :=s.toks) (fun _ _ q=>Heap.get?_push_of_some _ q) (Nat.le_refl _) ?_,rfl,q _ (I.bD.fresh (Nat.le_refl _))⟩;refine⟨⟨_,Heap.get?_push_size _ rfl,rfl,rfl⟩,⟨_,Heap.get?_push_size _ rfl⟩,fun h1 h2 ⟨o,e,r⟩ k=>⟨o,k _ e,r⟩⟩
def Uy(d:Addr)(o:Obj)(kvs:dM)(bs:aZ):It:=
 ⟨fun i H=>i<kvs.length∧H d=some (.gz o (.dT kvs)),fun i H x H' =>∃T k b v,x= .ref T∧H T=none∧bs[i]? =some b∧H' =upd H T (.tup [.ref b,v])∧kvs[i]? =some (k,v),fun i H=>kvs.length≤i∧H d=some (.gz o (.dT kvs))⟩
theorem nR{α β:Type}{F:α→β→Prop}{B_:List α}{CC:List β}(r:Paired F B_ CC):B_.length=CC.length:=by
 induction r with
 |nil=>rfl
 |cons _ _ ih=>rw[List.length_cons,List.length_cons,ih]
theorem xD{α β:Type}{F:α→β→Prop}{B_:List α}{CC:List β}(r:Paired F B_ CC):∀{i:Nat} {p:α} {q:β},B_[i]? =some p→CC[i]? =some q→F p q:=by
 induction r with
 |nil=>intro i p q h;simp at h
 | @cons a b as bs h t ih=>
  intro i p q h1 h2
  cases i with
  |zero=>
   simp at h1 h2;subst h1 h2;exact h
  |succ i=>exact ih (by simpa using h1) (by simpa using h2)
theorem CZ{P:Program}{w:World}{K:Frag}{elts:cR}{kt:Nat}{pt:Pos}(d it:Addr)(o:Obj)(kvs:dM)(bs:aZ)(ep:Nat)(es:Array DictEntry)(hd:o.data= .dict es ep)(hbs:es.toList.map (·.key)=bs.map Value.ref):
 Turn P w K (.Tuple elts kt pt) (Uy d o kvs bs) [it] it (fun i h=>∃ok ov,IsItemIter h it d i kvs.length ep ok ov) where
 mem:=by simp
 obj:=fun i h st b hb=>by
  have e:b=it:=by simpa using hb
  subst e;obtain⟨ok,ov,e⟩:=st;exact⟨_,e,fun v z=>by cases z⟩
 keep:=fun i h h' st k=>by
  obtain⟨ok,ov,e⟩:=st;exact⟨ok,ov,k it (by simp) _ e⟩
 item:=by
  intro X hP hw hK hc i pins s σ H E I hf st hg;subst hP hw hK;obtain⟨hi,hq⟩:=hg;obtain⟨ho,z,hs,xs,rel,o',Pk,Pq,g1,g2,g3,g4,g5⟩:=(show bq X.prog X.w H s.heap d (.gz o (.dT kvs)) from I.bD d _ hq);rw[ho] at g1;cases g1;rw[hd] at g3;cases g3;have hl:=nR rel;have Xi:es.size=xs.length:=size_of_entries g4;obtain⟨⟨k,b,x⟩,hx⟩:∃p,xs[i]? =some p:=⟨xs[i],by simp[show i<xs.length by omega]⟩;obtain⟨f0,f1,f2,f3,f4,f5⟩:=hf it (by simp);obtain⟨ok,ov,st⟩:=st;rw[hl,←Xi] at st;have MP:it<s.heap.objs.size:=Heap.lt_size st;have hp:kvs[i]? =some kvs[i]:=by simp[hi]
  have hF:=xD rel hp hx
  have hen:es[i]? =some ⟨(tupleKind (bI X.prog X.w)).hash k,.ref b,x⟩:=by
   rw[entry_at g4 i,hx];rfl
  have hbi:bs[i]? =some b:=by
   have e1:(es.toList.map (·.key))[i]? =some (.ref b):=by rw[List.getElem?_map,Array.getElem?_toList,hen];rfl
   rw[hbs,List.getElem?_map] at e1
   cases e2:bs[i]? with
   |none=>rw[e2] at e1;cases e1
   |some b' =>rw[e2] at e1;cases e1;rfl
  generalize kvs[i]=p at hp hF;obtain⟨pk,pv⟩:=p;obtain⟨GO,hb,wX⟩:=hF;refine J9 st ⟨ho,g2,hd⟩ hen fun h' U_ hT hsz hk=> ?_;refine⟨.ref s.heap.objs.size,rfl,?_⟩;refine wpAny_letOwnedTupleGo_items U_ fun FF Je AH => ?_;have zH:H s.heap.objs.size=none:=I.bD.fresh (Nat.le_refl _);have D0:s.heap.objs.size≠it:=Nat.ne_of_gt MP;have kk:∀b o,b≠it→s.heap.get? b=some o→FF.get? b=some o:=fun b o hb q=>(AH.2 b hb).trans (hk b o hb q);have Ks :FF.get? s.heap.objs.size=some {cls:= .type "tuple",data:= .seq #[.ref b,x]}:=(AH.2 _ D0).trans hT;have jw:∀b u,H b=some u→b≠it:=fun b u q z=>by rw[z,f0] at q;cases q
  have I2:Inv X pins σ (upd H s.heap.objs.size (.tup [.ref b,pv])) {s with heap:=FF}:=by
   have new:bq X.prog X.w (upd H s.heap.objs.size (.tup [.ref b,pv])) FF s.heap.objs.size (.tup [.ref b,pv]):=⟨(show 2≤sizeLine by decide),[.ref b,x],.cons rfl (.cons wX .nil),⟨_,Ks,rfl,_,rfl⟩⟩
   refine I.step (g' :=s.gens) (d' :=s.drawn) (ch:=[it]) (fun b hb=> ?_) (fun b o _ _ hc q _=>kk b o (fun z=>hc (by simp[z])) q) (fun b o _ _ hc q _=>⟨o.slots,kk b o (fun z=>hc (by simp[z])) q⟩)
    (fun b o _ q n=> ?_) (fun b o hc q=>⟨o,kk b o (fun z=>hc (by simp[z])) q⟩) (fun b ys q=> ?_) (fun b o ys q=> ?_) (fun b ps q=>⟨#[],?_⟩) (fun m hm=> ?_) (fun b u q=> ?_) I.bare
   ·have hb:b=it:=by simpa using hb
    subst hb;exact⟨f3,f1,f4,f5⟩
   ·rw[af (Nat.ne_of_lt (Heap.lt_size q))];exact n
   ·rw[af (ag q zH)];exact q
   ·rw[af (ag q zH)];exact q
   ·rw[af (ag q zH),q];simp
   ·obtain⟨o,es,ep,q,r⟩:=hm;exact⟨o,es,ep,kk _ o (Ne.symm f1) q,r⟩
   ·by_cases hb:b=s.heap.objs.size
    ·subst hb;rw[ae] at q;cases q;exact new
    ·rw[af hb] at q;refine(I.bD b u q).qR (fun c v hc q' =>kk c v ?_ q') (fun c q' => ?_) fun c ys q' => ?_
     ·rcases hc with z|z
      ·rw[z];exact jw b u q
      ·exact jw c _ z
     ·rw[af (ag q' zH)];exact q'
     ·rw[af (ag q' zH)];exact q'
  refine⟨.ref s.heap.objs.size,_,I2,rfl,⟨_,pk,b,pv,rfl,zH,hbi,rfl,hp⟩,⟨_,_,by rw[hl,←Xi];exact Je⟩,fun b hb=> ?_⟩;have hb:b=it:=by simpa using hb
  subst hb;rw[af (Ne.symm D0)];exact f0
 done:=by
  intro X hP hw hK hc i pins s σ H E I hf st hg;subst hP hw hK;obtain⟨hi,hq⟩:=hg;obtain⟨ho,z,hs,xs,rel,o',Pk,Pq,g1,g2,g3,g4,g5⟩:=(show bq X.prog X.w H s.heap d (.gz o (.dT kvs)) from I.bD d _ hq);rw[ho] at g1;cases g1;rw[hd] at g3;cases g3;have hl:=nR rel;have Xi:es.size=xs.length:=size_of_entries g4;obtain⟨f0,f1,f2,f3,f4,f5⟩:=hf it (by simp);obtain⟨ok,ov,st⟩:=st;rw[hl,←Xi] at st;exact P8 (I.ok.hd hc) st ⟨ho,g2,hd⟩ (by omega) fun h' eb=>⟨rfl,I.turned (t' :=s.toks) (fun b ob hb e=>eb b ob hb e) f0 f1 f3 f4 f5⟩
 self:=fun _ _ _ _ _ st h=>by
  obtain⟨ok,ov,st⟩:=st;exact kcp_self st h
theorem CF{H:Hp}{kvs:dM}{xs:List (List wp×Addr×Value)}(r:KT H kvs xs):kvs.map (·.1)=xs.map (·.1):=by
 unfold KT at r
 induction r with
 |nil=>rfl
 |cons h _ ih=>rw[List.map_cons,List.map_cons,ih,h.1]
section
variable{X:Cx}{e:Expr}{te:TE}{elts:cR}{kt:Nat}{pt:Pos}
def Od(X:Cx)(te:TE):TI:=fun σ H R=>te σ H fun x H1=>∃v d kvs,x= .ref v∧H1 v=some (lQ v d)∧H1 d=some (.dT kvs)∧∀o bs,KA X d→(kvs.map (·.1)).Nodup→bs.length=kvs.length→(∀(i:Nat) k v b,kvs[i]? =some (k,v)→bs[i]? =some b→H1 b=some (.tup (k.map kV)))→R (Uy d o kvs bs) (upd H1 d (.gz o (.dT kvs)))
theorem G2(he:PE X e te):PI X (.Tuple elts kt pt) e (Od X te):=by
 intro pins s σ H R I h;refine cm (he pins s σ H _ I h) fun v s1 ⟨x,H1,I1,r1,v',a,kvs,ex,hv,hq,q⟩=> ?_;subst ex;cases r1;obtain⟨hz,hs,xs,rel,o,es,ep,g1,g2,g3,g4,g5⟩:=(show bq X.prog X.w H1 s1.heap a (.dT kvs) from I1.bD a _ hq);obtain⟨Nt,_⟩:=(show bq X.prog X.w H1 s1.heap v' (lQ v' a) from I1.bD v' _ hv);have hl:=nR rel;have Xi:es.size=xs.length:=size_of_entries g4;have TC:(kvs.map (·.1)).Nodup:=by rw[CF rel];exact g5
 refine Le Nt ⟨g1,g2,g3⟩ ?_;have I2:=I1.Pw hq g1;have hn:H1 s1.heap.objs.size=none:=I1.bD.fresh (Nat.le_refl _);have hf:u2 X pins (upd H1 a (.gz o (.dT kvs))) s1.heap.objs.size:=I1.Bh (Nat.le_refl _) (by rw[af (fun z=>by rw[z,hq] at hn;cases hn)];exact hn);refine⟨s1.heap.objs.size,[s1.heap.objs.size],_,_,_,rfl,I2.kept (t' :=s1.toks) fun b ob e=>Heap.get?_push_of_some _ e,CZ a _ o kvs (xs.map fun x=>x.2.1) ep es g3 (by rw[g4,List.map_map,List.map_map];rfl),⟨_,_,by rw[hl,←Xi];exact Heap.get?_push_size _ rfl⟩,fun b hb=> ?_,q o _ (I1.abw hq) TC (by rw[List.length_map];exact hl.symm) fun i k v b e1 e2=> ?_⟩
 rotate_left
 ·rw[List.getElem?_map] at e2
  cases e3:xs[i]? with
  |none=>rw[e3] at e2;cases e2
  |some x=>
   rw[e3] at e2;cases e2;exact(xD rel e1 e3).2.1
 have e:b=s1.heap.objs.size:=by simpa using hb
 subst e;exact hf
def VY(X:Cx)(t:TE):TE:=fun σ H Q=>t σ H fun v H' =>∃d o kvs,H' d=some (.gz o (.dT kvs))∧KA X d∧Q v (upd H' d (.dT kvs))
theorem Na{t:TE}(he:PE X e t):PE X e (VY X t):=by
 intro pins s σ H Q I h;refine cm (he pins s σ H _ I h) fun u s1 ⟨v,H1,I1,r1,d,o,kvs,ed,nf,q⟩=> ?_;exact⟨v,_,I1.Zm ed nf,r1,q⟩
end
theorem AF{d:Addr}{o:Obj}{kvs:dM}{bs:aZ}{H:Hp}(h:H d=some (.gz o (.dT kvs))):pR (Uy d o kvs bs) H kvs.length (fun i x H' =>∃T k b v,x= .ref T∧bs[i]? =some b∧H' T=some (.tup [.ref b,v])∧kvs[i]? =some (k,v)) where
 go:=fun i H' s hi=>⟨hi,s _ _ h⟩
 wd:=fun i H' x lC s hi q=>by
  obtain⟨T,k,b,v,rfl,hT,hb,rfl,hy⟩:=q;exact⟨au.upd hT,T,k,b,v,rfl,hb,ae,hy⟩
 stop:=fun i H' s hi=>⟨hi,s _ _ h⟩
section
variable{prog:Program}{w:World}{A:Around}{R:Result→Shared→Prop}{I:Addr}{fp wr:aZ}{G:Array GenState→Array GenState→Prop}{n:Nat}{P:Nat→Value→Prop}{St:Nat→Shared→Prop}{κ:Type}[DecidableEq κ]{knd:HeapKind prog w κ}
def gA(xs ps:List (κ×Addr×Value)):List (κ×Addr×Value):=ps.foldl (fun m p=>storedH m p.1 p.2.1 p.2.2) xs
theorem Fd(xs:List (κ×Addr×Value))(k:κ)(a:Addr)(v:Value):(storedH xs k a v).length≤xs.length+1:=by
 unfold storedH
 split
 ·rw[List.length_map];omega
 ·rw[List.length_append];simp
theorem EJ(ps:List (κ×Addr×Value)):∀xs:List (κ×Addr×Value),(gA xs ps).length≤xs.length+ps.length:=by
 induction ps with
 |nil=>intro xs;exact Nat.le_refl _
 |cons p r ih=>
  intro xs;have h:=ih (storedH xs p.1 p.2.1 p.2.2);have h2:=Fd xs p.1 p.2.1 p.2.2;show(gA (storedH xs p.1 p.2.1 p.2.2) r).length≤_;rw[List.length_cons];omega
theorem tQ(xs ps:List (κ×Addr×Value))(p:κ×Addr×Value):gA xs (ps++[p])=storedH (gA xs ps) p.1 p.2.1 p.2.2:=by
 unfold gA;rw[List.foldl_append];rfl
theorem Ec(hu:knd.room A.in1)(xr:∀{h h' :Heap} {k:κ} {a:Addr},knd.is h k a→(∀o,h.get? a=some o→h'.get? a=some o)→knd.is h' k a)(W:WalksS prog w A.in1 I fp wr G n P St)(D:Addr)(Qq:D∉fp)(ps:List (κ×Addr×Value))(hn:ps.length=n)(hb:n≤sizeLine):
 ∀(k i:Nat) (s:Shared),n - i=k→i≤n→St i s→s.heap.DictOfH knd D (gA [] (ps.take i))→
  (∀x∈gA [] (ps.take i),x.2.1∉D::wr)→
  (∀i v,P i v→∃a q b x,v= .ref a∧ps[i]? =some (q,b,x)∧knd.is s.heap q b∧b∉D::wr∧a∉D::wr∧s.heap.IsTuple a #[.ref b,x])→
  (∀s',Moved (D::wr) G s s'→s'.heap.DictOfH knd D (gA [] ps)→R (.ok (.ret .none)) s')→
  codeAny (model prog w) A (.builtin "dict.update.loop" ⟨[.ref D,.ref I,rawInt i,.none],[]⟩) R s:=by
 have hDw:D∉wr:=fun h=>Qq (W.sub _ h);have Cj:∀b∈wr,b∈D::wr:=fun b hb=>List.mem_cons_of_mem _ hb;intro k
 induction k with
 |zero=>
  intro i s hk hi fw hS hO hT hR;have HH:i=n:=by omega
  subst HH;refine codeAny_builtin gB ?_;rw[Around.under_plainId cq _];show wpAny _ A.in1 (pyNext (.ref I)>>= _) _ _ s;refine wpAny_bind (W.done s _ _ fw fun s' hm=> ?_);show wpAny _ A.in1 (Builtin.Dict.addKeywords D []>>= fun _=>ret Value.none) _ _ s';refine wpAny_bind (wpAny_pure (wpAny_pure (hR s' (hm.mono Cj) ?_)));rw[List.take_of_length_le (by omega)] at hS hO;obtain⟨o,es,ep,ho,r1,r2,r3,r4,r5⟩:=hS;exact⟨o,es,ep,hm.heap D _ hDw ho,r1,r2,r3,fun x hx=>xr (r4 x hx) fun o e=>hm.heap _ _ (fun z=>hO x hx (Cj _ z)) e,r5⟩
 |succ k ih=>
  intro i s hk hi fw hS hO hT hR;have eQ:i<n:=by omega
  refine codeAny_builtin gB ?_;rw[Around.under_plainId cq _];show wpAny _ A.in1 (pyNext (.ref I)>>= _) _ _ s;refine wpAny_bind (W.item i s _ _ eQ fw fun v s' hP Wb hm=> ?_);obtain⟨a,q,b,x,rfl,hq,Bs,hbD,ha,ht⟩:=hT i v hP;have keep:∀{b:Addr} {o:Obj},b∉D::wr→s.heap.get? b=some o→s'.heap.get? b=some o:=fun{b o} hb e=>hm.heap b o (fun z=>hb (Cj b z)) e
  have ht' :s'.heap.IsTuple a #[.ref b,x]:=by
   obtain⟨o,ho,rest⟩:=ht;exact⟨o,keep ha ho,rest⟩
  have Of :s'.heap.DictOfH knd D (gA [] (ps.take i)):=by
   obtain⟨o,es,ep,ho,r1,r2,r3,r4,r5⟩:=hS;exact⟨o,es,ep,hm.heap D _ hDw ho,r1,r2,r3,fun x hx=>xr (r4 x hx) fun o e=>keep (hO x hx) e,r5⟩
  have hle:=EJ (ps.take i) [];rw[List.length_take] at hle;show wpAny _ A.in1 (holding [Value.ref a] _>>= _) _ _ s';refine wpAny_bind (wpAny_holding ?_);refine wpAny_bind (W1 ht' ?_);show wpAny _ A.in1 (holding [Value.ref b,x] (dictSet D (.ref b) x)) _ _ s';refine wpAny_holding ?_;refine wpAny_dictSet_heap (knd:=knd) hu (xr Bs fun o e=>keep hbD e) Of (fun h' zj IH => ?_) (by simp at hle;omega)
  have e1:ps.take (i+1)=ps.take i++[(q,b,x)]:=by
   rw[List.take_add_one,hq];rfl
  refine wpAny_pure ⟨plainId_quiet cq _,?_⟩;have e2:rawInt ((i:Int)+1)=rawInt ((i+1:Nat):Int):=by rw[Int.natCast_add];rfl
  show codeAny _ _ (.builtin "dict.update.loop" ⟨[.ref D,.ref I,rawInt ((i:Int)+1),.none],[]⟩) _ _;rw[e2]
  have Ah:∀{b:Addr} {o:Obj},b∉D::wr→s'.heap.get? b=some o→h'.get? b=some o:=fun{b o} hb e=>by
   rw[IH.2 b (fun z=>hb (by rw[z];exact List.mem_cons_self))];exact e
  refine ih (i+1) _ (by omega) eQ (W.frame _ s' _ _ Wb (Nat.le_add_right _ _) fun b hb o e=> ?_) ?_ (fun y hy=> ?_) (fun j u hu=> ?_) fun Kq Vr Vy => ?_
  ·rw[IH.2 b (fun z=>Qq (by rw[←z];exact hb))];exact e
  ·show h'.DictOfH knd D (gA [] (ps.take (i+1)));rw[e1,tQ];exact zj
  ·rw[e1,tQ] at hy;unfold storedH at hy
   split at hy
   ·obtain⟨y0,hy0,rfl⟩:=List.mem_map.mp hy;unfold putAt
    split<;>exact hO y0 hy0
   ·rcases List.mem_append.mp hy with hy|hy
    ·exact hO y hy
    ·have hy:y=(q,b,x):=by simpa using hy
     subst hy;exact hbD
  ·obtain⟨a',q',b',x',h1,h2,h3,h4,h5,o,ho,rest⟩:=hT j u hu;exact⟨a',q',b',x',h1,h2,xr h3 (fun o e=>Ah h4 (keep h4 e)),h4,h5,o,Ah h5 (keep h5 ho),rest⟩
  ·refine hR Kq (Moved.trans W.gtrans ((hm.mono Cj).then_heap (Nat.le_add_right _ _) fun b o hb e=> ?_) Vr) Vy;exact Ah hb e
end
section
variable{prog:Program}{w:World}{A:Around}{E:Value→Shared→Prop}{s:Shared}{κ:Type}[DecidableEq κ]{knd:HeapKind prog w κ}
theorem Cc{l:Addr}{items:Array Value}{ps:List (κ×Addr×Value)}{Q:Value→Shared→Prop}(hu:knd.room A.in1.in1)(xr:∀{h h' :Heap} {k:κ} {a:Addr},knd.is h k a→(∀o,h.get? a=some o→h'.get? a=some o)→knd.is h' k a)(eQ:∀{h:Heap} {k:κ} {a:Addr},knd.is h k a→a<h.objs.size)(hh:A.handled=none)(hl:s.heap.IsList l items)(hld:∀o,s.heap.get? l=some o→o.dict=none)(hn:ps.length=items.size)(hb:items.size≤sizeLine)
 (hT:∀(i:Nat) v,items[i]? =some v→∃a q b x,v= .ref a∧ps[i]? =some (q,b,x)∧knd.is s.heap q b∧s.heap.IsTuple a #[.ref b,x])
 (h:∀(h' :Heap) (tk:Nat),h'.DictOfH knd s.heap.objs.size (gA [] ps)→(∀b o,s.heap.get? b=some o→h'.get? b=some o)→Q (.ref s.heap.objs.size) {s with heap:=h',toks:=tk}):
 wpAny (model prog w) A (call (.type "dict") [.ref l]) Q E s:=by
 refine callType_codes (Q₁:=fun obj bF=>obj= .ref s.heap.objs.size∧bF={s with heap:=s.heap.push {cls:= .type "dict",data:= .dict #[]}}) F.kt_called_dict (F.kt_typeCall_dict_1 _) F.entry_dict_init (kt_code_dict_new _ ⟨rfl,rfl⟩) ?_
 rintro obj bF ⟨rfl,rfl⟩
 have DH:(s.heap.push {cls:= .type "dict",data:= .dict #[]}).DictOfH knd s.heap.objs.size []:=Heap.DictOfH.new s.heap;have hnt:Shared.TypeIs {s with heap:=s.heap.push {cls:= .type "dict",data:= .dict #[]}} (.ref s.heap.objs.size) "dict":=DH.typeIs;obtain⟨ol,NI,vk,nl,UO⟩:=id hl;have ER :(s.heap.push {cls:= .type "dict",data:= .dict #[]}).get? l=some ol:=Heap.get?_push_of_some _ NI;have hlS:l<s.heap.objs.size:=Heap.lt_size NI;refine⟨hnt,F.args_dict_init_2 _ _,?_⟩;unfold Builtin.«dict.__init__»;refine wpAny_bind ?_;unfold Builtin.Dict.selfAndRest;refine wpAny_bind (wpAny_notOrdered_dict hnt ?_);show wpAny _ _ (pure (s.heap.objs.size,[Value.ref l])) _ _ _;refine wpAny_pure ?_;show wpAny _ _ (Builtin.Dict.updateFrom "dict.__init__" s.heap.objs.size (.ref l) [] .none) _ _ _;unfold Builtin.Dict.updateFrom;have hTl:Shared.TypeIs {s with heap:=s.heap.push {cls:= .type "dict",data:= .dict #[]}} (.ref l) "list":=⟨_,ER,vk⟩;refine wpAny_bind (wpAny_typeOf hTl ?_);rw[if_pos (by decide)];refine wpAny_bind (uo ER vk UO (hld _ NI) (by simp[hh]) fun h2 tk2 k2=> ?_);rw[if_pos (show(none:aH).isNone=true from rfl)];refine wpAny_bind (wpAny_rule ?_);have m6:h2.IsList l items:=⟨ol,k2 _ _ ER,vk,nl,UO⟩;refine wpAny_bind (wpAny_pyIter_list (s:={s with heap:=h2,toks:=tk2}) m6 ?_);refine wpAny_pure ⟨plainId_quiet cq _,?_⟩;have hold:∀b o,s.heap.get? b=some o→(h2.push {cls:= .type "list_iterator",data:= .fields #[.ref l,.int 0 0]}).get? b=some o:=fun b o e=>Heap.get?_push_of_some _ (k2 _ _ (Heap.get?_push_of_some _ e));have hD2:h2.get? s.heap.objs.size=some {cls:= .type "dict",data:= .dict #[]}:=k2 _ _ (Heap.get?_push_size _ rfl);have yC:s.heap.objs.size<h2.objs.size:=Heap.lt_size hD2;have Wc:l≠h2.objs.size:=Nat.ne_of_lt (Nat.lt_trans hlS yC)
 have Qq:s.heap.objs.size∉[h2.objs.size,l]:=by
  simp only[List.mem_cons,List.not_mem_nil,or_false,not_or];exact⟨Nat.ne_of_lt yC,Nat.ne_of_gt hlS⟩
 refine Ec (knd:=knd) hu xr ((Walks.list (by simp[hh]) _ l Wc items).toS) s.heap.objs.size Qq ps hn hb (items.size - 0) 0 _ (by omega) (Nat.zero_le _) ⟨⟨_,Heap.get?_push_size _ rfl,rfl,rfl⟩,(m6.push _)⟩ ?_ (fun x hx=>nomatch hx) (fun i v hv=> ?_) fun s' hm zj => ?_
 ·obtain⟨o,es,ep,ho,r1,r2,r3,r4,r5⟩:=DH;exact⟨o,es,ep,Heap.get?_push_of_some _ (k2 _ _ ho),r1,r2,r3,(fun x (hx:x∈([]:List (κ×Addr×Value)))=>absurd hx List.not_mem_nil),r5⟩
 ·obtain⟨a,q,b,x,h1,TR,h3,o,ho,rest⟩:=hT i v hv;have QL:a<s.heap.objs.size:=Heap.lt_size ho;have hlb:b<s.heap.objs.size:=eQ h3;refine⟨a,q,b,x,h1,TR,xr h3 (fun o e=>hold _ _ e),?_,?_,o,hold _ _ ho,rest⟩
  ·simp only[List.mem_cons,List.not_mem_nil,or_false,not_or];exact⟨Nat.ne_of_lt hlb,Nat.ne_of_lt (Nat.lt_trans hlb yC)⟩
  ·simp only[List.mem_cons,List.not_mem_nil,or_false,not_or];exact⟨Nat.ne_of_lt QL,Nat.ne_of_lt (Nat.lt_trans QL yC)⟩
 ·obtain⟨h',g',d',DX,os'⟩:=s';have eg:g' =s.gens:=hm.gens;have ed:d' =s.drawn:=hm.drawn;have eo:os' =s.os:=hm.os;subst eg;subst ed;subst eo
  refine⟨rfl,h h' DX zj fun b o e=> ?_⟩;have ZJ:b<s.heap.objs.size:=Heap.lt_size e;refine hm.heap b o ?_ (hold _ _ e);simp only[List.mem_cons,List.not_mem_nil,or_false,not_or];exact⟨Nat.ne_of_lt ZJ,Nat.ne_of_lt (Nat.lt_trans ZJ yC)⟩
end
section
variable{X:Cx}
def Di(H:Hp)(ys:az)(kvs:dM):Prop:=ys.length=kvs.length∧∀(i:Nat) k v,kvs[i]? =some (k,v)→∃a b,ys[i]? =some (.ref a)∧H a=some (.tup [.ref b,v])∧H b=some (.tup (k.map kV))
def qw(kvs more:dM):dM:=more.foldl (fun acc kv=>v4 acc kv.1 kv.2) kvs
theorem rg:∀(more kvs:dM),(qw kvs more).length≤kvs.length+more.length
 |[],kvs=>by show kvs.length≤kvs.length+0;omega
 |p::r,kvs=>by
  have h1:=rg r (v4 kvs p.1 p.2);have h2:=dF kvs p.1 p.2;show(qw (v4 kvs p.1 p.2) r).length≤_;rw[List.length_cons];omega
theorem KT.merge{H:Hp}{more:dM}{rs:List (List wp×Addr×Value)}(r:KT H more rs):∀{kvs:dM} {xs:List (List wp×Addr×Value)},KT H kvs xs→KT H (qw kvs more) (gA xs rs):=by
 unfold KT at r
 induction r with
 |nil=>intro kvs xs q;exact q
 | @cons p q ps qs h t ih=>
  intro kvs xs z;obtain⟨h1,h2,h3⟩:=h;have:=KT.put z p.1 h2 h3;rw[show storedH xs p.1 q.2.1 q.2.2=storedH xs q.1 q.2.1 q.2.2 by rw[h1]] at this;exact ih this
theorem acw{kvs:dM}:∀(F:List wp×V→List wp×Addr×Value→Prop) (R:Nat→List wp→V→Addr→Value→Prop),(∀(i:Nat) k v,kvs[i]? =some (k,v)→∃b x,F (k,v) (k,b,x)∧R i k v b x)→∃ps:List (List wp×Addr×Value),Paired F kvs ps∧∀(i:Nat) k v,kvs[i]? =some (k,v)→∃b x,ps[i]? =some (k,b,x)∧R i k v b x:=by
 induction kvs with
 |nil=>exact fun F R _=>⟨[],.nil,fun i k v e=>by simp at e⟩
 |cons p r ih=>
  intro F R h;obtain⟨k0,v0⟩:=p;obtain⟨b0,x0,r0,h0⟩:=h 0 k0 v0 rfl;obtain⟨ps,JB,hi⟩:=ih F (fun i=>R (i+1)) fun i k v e=>h (i+1) k v (by simpa using e);refine⟨(k0,b0,x0)::ps,.cons r0 JB,fun i k v e=> ?_⟩
  cases i with
  |zero=>
   simp at e;obtain⟨rfl,rfl⟩:=e;exact⟨b0,x0,rfl,h0⟩
  |succ i=>
   obtain⟨b,x,e1,e2⟩:=hi i k v (by simpa using e);exact⟨b,x,by simpa using e1,e2⟩
theorem vc(hc:X.calm=true)(hu:X.A.units+100<cLine):gf X (.type "dict") (fun xs H Q=>∃p ys kvs,xs=[.ref p]∧H p=some (.lst ys)∧Di H ys kvs∧∀d,H d=none→Q (.ref d) (upd H d (.dT (qw [] kvs)))):=by
 intro pins s σ H xs us Q I r h;obtain⟨p,ys,kvs,rfl,hq,⟨hlen,hP⟩,q⟩:=h;obtain⟨u,rfl,rx⟩:=xL r;cases rx;obtain⟨hz,bz,n,r',e0⟩:=(show bq X.prog X.w H s.heap p (.lst ys) from I.bD p _ hq);have hl:=r'.length
 obtain⟨ps,JB,hi⟩:=acw (kvs:=kvs) (fun p q=>p.1=q.1∧H q.2.1=some (.tup (p.1.map kV))∧RelV p.2 q.2.2) (fun i k v b x=>∃a,bz[i]? =some (.ref a)∧s.heap.IsTuple a #[.ref b,x]∧H b=some (.tup (k.map kV))) fun i k v e=>by
  obtain⟨a,b,ea,eH,eb⟩:=hP i k v e;obtain⟨u,hu,ru⟩:=r'.get ea;cases ru;obtain⟨_,us,rus,o,h1,h2,n,h3⟩:=(show bq X.prog X.w H s.heap a (.tup [.ref b,v]) from I.bD a _ eH);obtain⟨key,x,rfl,r1,r2⟩:=XV rus;cases r1;exact⟨b,x,⟨rfl,eb,r2⟩,a,hu,⟨o,h1,h2,n,h3⟩,eb⟩
 have rK:=nR JB;refine Cc (knd:=tupleKind (bI X.prog X.w)) ?_ (fun{h h' k a} hk e=> ?_) (fun{h k a} hk=> ?_) (I.ok.hd hc) ⟨_,e0,rfl,n,rfl⟩ (fun o e=> ?_) (ps:=ps) (by simp;omega) (by simp;omega) (fun i v hv=> ?_) fun h' tk hd kp=> ?_
 ·exact tupleKind_room_in1 (by show X.A.in1.units+1<cLine;have e:X.A.in1.units=X.A.units+1:=rfl;omega)
 ·obtain⟨o,items,m,h1,h2⟩:=hk;exact⟨o,items,m,e _ h1,h2⟩
 ·obtain⟨o,items,m,h1,h2⟩:=hk;exact Heap.lt_size h1
 ·rw[e0] at e;cases e;rfl
 ·have hv:bz[i]? =some v:=by simpa using hv
  have xO:i<kvs.length:=by
   have:=(List.getElem?_eq_some_iff.mp hv).1;omega
  obtain⟨b,x,e1,a,e2,ht,eb⟩:=hi i kvs[i].1 kvs[i].2 (by simp[xO]);rw[e2] at hv;cases hv;exact⟨a,kvs[i].1,b,x,rfl,e1,uA I.bD eb,ht⟩
 ·have hle:=rg kvs [];simp at hle;obtain⟨o,es,ep,g1,g2,g3,g4,g5,g6⟩:=hd;have qD:H s.heap.objs.size=none:=I.bD.fresh (Nat.le_refl _);have new:bq X.prog X.w (upd H s.heap.objs.size (.dT (qw [] kvs))) h' s.heap.objs.size (.dT (qw [] kvs)):=⟨by omega,(qt (P:=X.prog) (w:=X.w) (H:=H) s.heap I.big).2.1,_,(KT.merge (H:=H) JB .nil).keeps fun b ys e=>by rw[af (ag e qD)];exact e,o,es,ep,g1,g2,g3,g4,g6⟩;exact⟨.ref s.heap.objs.size,_,I.laid (t' :=tk) kp (Nat.le_refl _) new,rfl,q _ qD⟩
end
structure Qf(K:Frag)(C:Addr):Prop where
 ha:PySem.W.findIn K (.ref C) "__class__"=some (some (.builtin "object.__class__"))
 hn:PySem.W.specialIn K (.builtin "object.__class__") "__get__"=some (some (.builtin "getset_descriptor.__get__"))
 tk:PySem.W.takesIn K (.builtin "object.__class__")=some true
 hm:PySem.W.mroIn K C (.type "object")=some true
theorem Qf.ty{K:Frag}{H:Hp}{a C dx:Addr}{fs:iN}(c:Qf K C)(k:Fh K C)(e:H a=some (.ins C dx fs)):sj K H (.ref a) (.ref C):= .ins e k c.ha c.hn c.tk c.hm
theorem sQ{X:Cx}{K:Frag}(hK:X.K=K):gf X (.builtin "isinstance") (fun xs H Q=>∃x D t b,xs=[x,.ref D]∧sj K H x t∧kitOne K t (.ref D)=some b∧Q (.bl b) H):=by
 subst hK;intro pins s σ H xs us Q I r h;obtain⟨x,D,t,b,rfl,ty,e,q⟩:=h;obtain⟨u,v,rfl,ru,rv⟩:=XV r;cases rv;exact z_ I ru ty e fun tk=>⟨.bl b,H,I.tok tk,rfl,q⟩
theorem FD{K:Frag}{C:Addr}:kitOne K (.ref C) (.ref C)=some true:=by
 unfold kitOne;rw[if_pos (beq_self_eq_true _)]
theorem S8{K:Frag}{C D:Addr}{b:Bool}(ne:(Value.ref C==Value.ref D)=false)(hd:PySem.W.hasDictIn K D=true)(tt:PySem.W.typeIn K (.ref D)=some (.type "type"))(mi:PySem.W.mroIn K C (.ref D)=some b):kitOne K (.ref C) (.ref D)=some b:=by
 obtain⟨cd,hc,_⟩:=any_some hd;unfold kitOne;rw[if_neg (by rw[ne];exact Bool.false_ne_true)];show(if((PySem.W.clsIn K D).isSome&&PySem.W.typeIn K (.ref D)==some (.type "type"))=true then PySem.W.subIn K (.ref C) (.ref D) else none)=some b;rw[hc,tt,if_pos (by rw[Option.isSome_some,Bool.true_and];exact beq_self_eq_true _)];exact mi
end L2
namespace My
open PySem L2 PyProof.Rows
theorem pI:aC ["self","text"] ["self","text"] (av cF):=⟨rfl,rfl,rfl,by decide+kernel,rfl,by decide+kernel,by decide+kernel⟩
theorem qP:aC ["self","found"] ["self","found"] (av dg):=⟨rfl,rfl,rfl,by decide+kernel,rfl,by decide+kernel,by decide+kernel⟩
theorem uI:aC ["self","found","by"] ["self","found","by"] (av eK):=⟨rfl,rfl,rfl,by decide+kernel,rfl,by decide+kernel,by decide+kernel⟩
theorem uk:aC ["self","found"] ["self","found"] (av d5):=⟨rfl,rfl,rfl,by decide+kernel,rfl,by decide+kernel,by decide+kernel⟩
theorem r8:aC ["self","found"] ["self","found"] (av dA):=⟨rfl,rfl,rfl,by decide+kernel,rfl,by decide+kernel,by decide+kernel⟩
theorem tD:aC ["thing"] ["thing"] (av jg):=⟨rfl,rfl,rfl,by decide+kernel,rfl,by decide+kernel,by decide+kernel⟩
theorem Cg:aC ["thing","low","high"] ["thing","low","high"] (av kX):=⟨rfl,rfl,rfl,by decide+kernel,rfl,by decide+kernel,by decide+kernel⟩
theorem Dh:aC ["thing"] ["thing"] (av lh):=⟨rfl,rfl,rfl,by decide+kernel,rfl,by decide+kernel,by decide+kernel⟩
theorem EC:aC ["thing"] ["thing"] (av m9):=⟨rfl,rfl,rfl,by decide+kernel,rfl,by decide+kernel,by decide+kernel⟩
theorem rG:aC ["self"] ["self"] (av dI):=⟨rfl,rfl,rfl,by decide+kernel,rfl,by decide+kernel,by decide+kernel⟩
theorem vU:aC ["self","frame"] ["self","frame"] (av fM):=⟨rfl,rfl,rfl,by decide+kernel,rfl,by decide+kernel,by decide+kernel⟩
theorem i6:aC ["self","frame","ended","number"] ["self","frame"] (av eR):=⟨rfl,rfl,rfl,by decide+kernel,rfl,by decide+kernel,by decide+kernel⟩
theorem xS:aC ["self","frame"] ["self","frame"] (av gw):=⟨rfl,rfl,rfl,by decide+kernel,rfl,by decide+kernel,by decide+kernel⟩
theorem uM:aC ["self","frame"] ["self","frame"] (av eP):=⟨rfl,rfl,rfl,by decide+kernel,rfl,by decide+kernel,by decide+kernel⟩
theorem i_:aC ["self","frame","outward","step"] ["self","frame"] (av iK):=⟨rfl,rfl,rfl,by decide+kernel,rfl,by decide+kernel,by decide+kernel⟩
theorem sA:aC ["self","frame"] ["self","frame"] (av dC):=⟨rfl,rfl,rfl,by decide+kernel,rfl,by decide+kernel,by decide+kernel⟩
theorem uJ:aC ["self","thing"] ["self","thing"] (av eU):=⟨rfl,rfl,rfl,by decide+kernel,rfl,by decide+kernel,by decide+kernel⟩
theorem rW:aC ["self"] ["self"] (av dv):=⟨rfl,rfl,rfl,by decide+kernel,rfl,by decide+kernel,by decide+kernel⟩
theorem vH:aC ["self"] ["self"] (av fH):=⟨rfl,rfl,rfl,by decide+kernel,rfl,by decide+kernel,by decide+kernel⟩
theorem qO:aC ["self","thing"] ["self","thing"] (av cT):=⟨rfl,rfl,rfl,by decide+kernel,rfl,by decide+kernel,by decide+kernel⟩
theorem qv:aC ["self","thing"] ["self","thing"] (av cM):=⟨rfl,rfl,rfl,by decide+kernel,rfl,by decide+kernel,by decide+kernel⟩
theorem mR:aC ["self","thing"] ["self","thing"] (av cj):=⟨rfl,rfl,rfl,by decide+kernel,rfl,by decide+kernel,by decide+kernel⟩
theorem mH:aC ["self","thing"] ["self","thing"] (av bZ):=⟨rfl,rfl,rfl,by decide+kernel,rfl,by decide+kernel,by decide+kernel⟩
theorem my:aC ["self","thing"] ["self","thing"] (av b7):=⟨rfl,rfl,rfl,by decide+kernel,rfl,by decide+kernel,by decide+kernel⟩
theorem tY:aC ["self","limit"] ["self","limit"] (av dU):=⟨rfl,rfl,rfl,by decide+kernel,rfl,by decide+kernel,by decide+kernel⟩
theorem i7:aC ["self","frame","size","spare","place","floor"] ["self","frame","size"] (av ig):=⟨rfl,rfl,rfl,by decide+kernel,rfl,by decide+kernel,by decide+kernel⟩
theorem fU:aC ["self","way","k","room"] ["self","way","k"] (av jv):=⟨rfl,rfl,rfl,by decide+kernel,rfl,by decide+kernel,by decide+kernel⟩
theorem km:aC ["self","way","k","value","room"] ["self","way","k","value"] (av jm):=⟨rfl,rfl,rfl,by decide+kernel,rfl,by decide+kernel,by decide+kernel⟩
theorem mx:aC ["self","way"] ["self","way"] (av il):=⟨rfl,rfl,rfl,by decide+kernel,rfl,by decide+kernel,by decide+kernel⟩
theorem yk:aC ["self","way"] ["self","way"] (av gg):=⟨rfl,rfl,rfl,by decide+kernel,rfl,by decide+kernel,by decide+kernel⟩
theorem zk:aC ["self"] ["self"] (av iL):=⟨rfl,rfl,rfl,by decide+kernel,rfl,by decide+kernel,by decide+kernel⟩
theorem yF:aC ["self"] ["self"] (av iC):=⟨rfl,rfl,rfl,by decide+kernel,rfl,by decide+kernel,by decide+kernel⟩
theorem xY:aC ["self"] ["self"] (av gx):=⟨rfl,rfl,rfl,by decide+kernel,rfl,by decide+kernel,by decide+kernel⟩
theorem tH:aC ["self"] ["self"] (av dZ):=⟨rfl,rfl,rfl,by decide+kernel,rfl,by decide+kernel,by decide+kernel⟩
theorem wG:aC ["self","frame"] ["self","frame"] (av gv):=⟨rfl,rfl,rfl,by decide+kernel,rfl,by decide+kernel,by decide+kernel⟩
theorem uU:aC ["self"] ["self"] (av eO):=⟨rfl,rfl,rfl,by decide+kernel,rfl,by decide+kernel,by decide+kernel⟩
theorem qZ:aC ["self","frame"] ["self","frame"] (av cW):=⟨rfl,rfl,rfl,by decide+kernel,rfl,by decide+kernel,by decide+kernel⟩
theorem jb:aC ["self","other","frame","floor"] ["self"] (av iD):=⟨rfl,rfl,rfl,by decide+kernel,rfl,by decide+kernel,by decide+kernel⟩
theorem pF:aC ["self","thing"] ["self","thing"] (av fB):=⟨rfl,rfl,rfl,by decide+kernel,rfl,by decide+kernel,by decide+kernel⟩
theorem lL:aC ["self","thing"] ["self","thing"] (av d6):=⟨rfl,rfl,rfl,by decide+kernel,rfl,by decide+kernel,by decide+kernel⟩
theorem df:aC ["self","thing","taker"] ["self","thing"] (av dJ):=⟨rfl,rfl,rfl,by decide+kernel,rfl,by decide+kernel,by decide+kernel⟩
theorem s_:aC ["room","thing"] ["room","thing"] (av ju):=⟨rfl,rfl,rfl,by decide+kernel,rfl,by decide+kernel,by decide+kernel⟩
theorem AL:aC ["_law_script","_law_k"] ["_law_script","_law_k"] (av jB):=⟨rfl,rfl,rfl,by decide+kernel,rfl,by decide+kernel,by decide+kernel⟩
theorem Cd:aC ["_law_cell_here"] ["_law_cell_here"] (av lj):=⟨rfl,rfl,rfl,by decide+kernel,rfl,by decide+kernel,by decide+kernel⟩
theorem ki:aC ["_law_box_here","_law_many","_law_digit","_law_one_here","_law_other"] ["_law_box_here","_law_many"] (av jG):=⟨rfl,rfl,rfl,by decide+kernel,rfl,by decide+kernel,by decide+kernel⟩
theorem yq:aC ["_law_limit"] ["_law_limit"] (av hU):=⟨rfl,rfl,rfl,by decide+kernel,rfl,by decide+kernel,by decide+kernel⟩
theorem u_:aC ["_law_model"] ["_law_model"] (av eM):=⟨rfl,rfl,rfl,by decide+kernel,rfl,by decide+kernel,by decide+kernel⟩
theorem pZ:aC ["_law_model","_law_frame","_law_found"] ["_law_model","_law_frame"] (av ly):=⟨rfl,rfl,rfl,by decide+kernel,rfl,by decide+kernel,by decide+kernel⟩
theorem yO:aC ["_law_model","_law_frame"] ["_law_model","_law_frame"] (av ix):=⟨rfl,rfl,rfl,by decide+kernel,rfl,by decide+kernel,by decide+kernel⟩
theorem kR:aC ["_law_model","_law_frame","_law_ended","_law_k"] ["_law_model","_law_frame"] (av gh):=⟨rfl,rfl,rfl,by decide+kernel,rfl,by decide+kernel,by decide+kernel⟩
theorem yT:aC ["_law_model","_law_frame"] ["_law_model","_law_frame"] (av iu):=⟨rfl,rfl,rfl,by decide+kernel,rfl,by decide+kernel,by decide+kernel⟩
theorem AG:aC ["_law_model"] ["_law_model"] (av jd):=⟨rfl,rfl,rfl,by decide+kernel,rfl,by decide+kernel,by decide+kernel⟩
theorem tZ:aC ["_law_model","_law_frame","_law_size","_law_way"] ["_law_model","_law_frame","_law_size"] (av jq):=⟨rfl,rfl,rfl,by decide+kernel,rfl,by decide+kernel,by decide+kernel⟩
theorem qu:aC ["_law_box_here","_law_some","_law_way","_law_at"] ["_law_box_here","_law_some"] (av kJ):=⟨rfl,rfl,rfl,by decide+kernel,rfl,by decide+kernel,by decide+kernel⟩
theorem mz:aC ["_law_box_here","_law_model","_law_way","_law_number"] ["_law_box_here","_law_model"] (av ij):=⟨rfl,rfl,rfl,by decide+kernel,rfl,by decide+kernel,by decide+kernel⟩
theorem A0:aC ["_law_model"] ["_law_model"] (av jl):=⟨rfl,rfl,rfl,by decide+kernel,rfl,by decide+kernel,by decide+kernel⟩
theorem eG:aC ["_law_box_here","_law_house_here","_law_model","_law_act","_law_frame","_law_size","_law_way","_law_k","_law_value_here"] ["_law_box_here","_law_house_here","_law_model"] (av je):=⟨rfl,rfl,rfl,by decide+kernel,rfl,by decide+kernel,by decide+kernel⟩
theorem gy:aC ["_law_model","_law_frames","_law_frame","_law_rooms"] ["_law_model"] (av fC):=⟨rfl,rfl,rfl,by decide+kernel,rfl,by decide+kernel,by decide+kernel⟩
theorem oR:aC ["_law_model","_law_found","_law_word"] ["_law_model"] (av jx):=⟨rfl,rfl,rfl,by decide+kernel,rfl,by decide+kernel,by decide+kernel⟩
theorem oX:aC ["_law_house_here","_law_way","_law_found","e"] ["_law_house_here","_law_way"] (av mL):=⟨rfl,rfl,rfl,by decide+kernel,rfl,by decide+kernel,by decide+kernel⟩
theorem fE:aC ["_law_house_here","_law_rooms","_law_way","_law_found","e","_law_room"] ["_law_house_here","_law_rooms","_law_way"] (av gp):=⟨rfl,rfl,rfl,by decide+kernel,rfl,by decide+kernel,by decide+kernel⟩
theorem ja:aC ["_law_house_here","_law_model","_law_others","_law_rooms","_law_other","_law_way"] ["_law_house_here","_law_model","_law_others"] (av g_):=⟨rfl,rfl,rfl,by decide+kernel,rfl,by decide+kernel,by decide+kernel⟩
theorem gF:aC ["_law_house_here","_law_way","_law_k","_law_found","e"] ["_law_house_here","_law_way","_law_k"] (av fJ):=⟨rfl,rfl,rfl,by decide+kernel,rfl,by decide+kernel,by decide+kernel⟩
theorem dQ:aC ["_law_house_here","_law_model","_law_k","_law_way","_law_cells"] ["_law_house_here","_law_model"] (av cU):=⟨rfl,rfl,rfl,by decide+kernel,rfl,by decide+kernel,by decide+kernel⟩
theorem eY:aC ["_law_house_here","_law_model","_law_used_here","_law_due","_law_found","_law_way","_law_frame"] ["_law_house_here","_law_model"] (av iF):=⟨rfl,rfl,rfl,by decide+kernel,rfl,by decide+kernel,by decide+kernel⟩
theorem jO:aC ["_law_script","_law_limit","_law_houses","_law_models","_law_k","_law_box_here","_law_at","_law_other","_law_twins","_law_turn","_law_asked"] ["_law_script"] (av CW):=⟨rfl,rfl,rfl,by decide+kernel,rfl,by decide+kernel,by decide+kernel⟩
structure qH where
 dH:Addr
 fK:FuncData
 eF:Addr
 gP:FuncData
 gE:Addr
 jZ:FuncData
 fQ:Addr
 iX:FuncData
 e7:Addr
 iI:FuncData
 jc:Addr
 ji:FuncData
 r9:Addr
 rM:FuncData
 rP:Addr
 sf:FuncData
 uV:Addr
 uQ:FuncData
 e_:Addr
 iH:FuncData
 kZ:Addr
 kU:FuncData
 j4:Addr
 jJ:FuncData
 mj:Addr
 lU:FuncData
 jU:Addr
 jN:FuncData
 nP:Addr
 oU:FuncData
 iq:Addr
 iJ:FuncData
 j7:Addr
 jW:FuncData
 iE:Addr
 iG:FuncData
 lA:Addr
 lu:FuncData
 gO:Addr
 gM:FuncData
 fZ:Addr
 fY:FuncData
 eD:Addr
 eE:FuncData
 dX:Addr
 dS:FuncData
 d_:Addr
 dW:FuncData
 iS:Addr
 iW:FuncData
 oq:Addr
 nO:FuncData
 g7:Addr
 gU:FuncData
 jo:Addr
 jh:FuncData
 eI:Addr
 eA:FuncData
 mq:Addr
 mw:FuncData
 nU:Addr
 nW:FuncData
 nB:Addr
 og:FuncData
 mf:Addr
 lX:FuncData
 iT:Addr
 iR:FuncData
 mh:Addr
 lY:FuncData
 jL:Addr
 jM:FuncData
 gH:Addr
 gJ:FuncData
 oG:Addr
 oF:FuncData
 h_:Addr
 iy:FuncData
 fR:Addr
 fP:FuncData
 bS:Addr
 bU:FuncData
 jk:Addr
 jH:FuncData
 qq:Addr
 pQ:FuncData
 so:Addr
 rR:FuncData
 qg:Addr
 pW:FuncData
 nu:Addr
 oO:FuncData
 jS:Addr
 jK:FuncData
 sO:Addr
 sd:FuncData
 ph:Addr
 oE:FuncData
 mE:Addr
 lZ:FuncData
 oY:Addr
 oH:FuncData
 p_:Addr
 pV:FuncData
 qb:Addr
 qz:FuncData
 sq:Addr
 r_:FuncData
 oW:Addr
 oB:FuncData
 pX:Addr
 qc:FuncData
 qj:Addr
 pN:FuncData
 kB:Addr
 kI:FuncData
 qo:Addr
 pO:FuncData
 uG:Addr
 uT:FuncData
 mD:Addr
 mv:FuncData
 nF:Addr
 nJ:FuncData
 kE:Addr
 kK:FuncData
 gL:Addr
 gK:FuncData
 nL:Addr
 nK:FuncData
 Lv:Addr
 CO:FuncData
 cD:Addr
 cv:Addr
 fG:Addr
 ez:Addr
 cL:Addr
 eS:Addr
 aj:Addr
structure Txt(K:Frag)(mg:Str→aH)(A:qH):Prop where
 qf:fc K "__init__" "RoomError.__init__" cF A.dH A.fK
 dq:Binds K A.fK ["self","text"] []
 rJ:fc K "__init__" "NoValue.__init__" dg A.eF A.gP
 sN:Binds K A.gP ["self","found"] []
 vT:fc K "__init__" "Gone.__init__" eK A.gE A.jZ
 vO:Binds K A.jZ ["self","found","by"] []
 uY:fc K "__init__" "NoWay.__init__" d5 A.fQ A.iX
 uF:Binds K A.iX ["self","found"] []
 tq:fc K "__init__" "NoCell.__init__" dA A.e7 A.iI
 tX:Binds K A.iI ["self","found"] []
 lM:mg "is_number"=some (.ref A.jc)
 gW:fc K "is_number" "is_number" jg A.jc A.ji
 lP:Binds K A.ji ["thing"] []
 lz:mg "is_whole"=some (.ref A.r9)
 iY:fc K "is_whole" "is_whole" kX A.r9 A.rM
 kN:Binds K A.rM ["thing","low","high"] []
 yb:mg "is_count"=some (.ref A.rP)
 sD:fc K "is_count" "is_count" lh A.rP A.sf
 wK:Binds K A.sf ["thing"] []
 zY:mg "is_pair"=some (.ref A.uV)
 uB:fc K "is_pair" "is_pair" m9 A.uV A.uQ
 Al:Binds K A.uQ ["thing"] []
 tf:fc K "__init__" "Frames.__init__" dI A.e_ A.iH
 tN:Binds K A.iH ["self"] []
 xK:fc K "begin" "Frames.begin" fM A.kZ A.kU
 yg:Binds K A.kU ["self","frame"] []
 wL:Meth K A.aj "begin" A.kZ
 vN:fc K "finish" "Frames.finish" eR A.j4 A.jJ
 vP:Binds K A.jJ ["self","frame"] []
 vJ:Meth K A.aj "finish" A.j4
 zi:fc K "part" "Frames.part" gw A.mj A.lU
 yX:Binds K A.lU ["self","frame"] []
 yr:Meth K A.aj "part" A.mj
 vX:fc K "inside" "Frames.inside" eP A.jU A.jN
 pA:Binds K A.jN ["self","frame"] []
 pB:Meth K A.aj "inside" A.jU
 Bf:fc K "row" "Frames.row" iK A.nP A.oU
 tS:Binds K A.oU ["self","frame"] []
 sX:Meth K A.aj "row" A.nP
 uu:fc K "ended_by" "Frames.ended_by" dC A.iq A.iJ
 hV:Binds K A.iJ ["self","frame"] []
 iz:Meth K A.aj "ended_by" A.iq
 vR:fc K "stands" "Frames.stands" eU A.j7 A.jW
 vZ:Binds K A.jW ["self","thing"] []
 vF:Meth K A.aj "stands" A.j7
 ui:fc K "standing" "Frames.standing" dv A.iE A.iG
 e8:Binds K A.iG ["self"] []
 ff:Meth K A.aj "standing" A.iE
 xQ:fc K "begun" "Frames.begun" fH A.lA A.lu
 iM:Binds K A.lu ["self"] []
 iw:Meth K A.aj "begun" A.lA
 rV:fc K "was_begun" "Frames.was_begun" cT A.gO A.gM
 lr:Binds K A.gM ["self","thing"] []
 kM:Meth K A.aj "was_begun" A.gO
 qS:fc K "want_begun" "Frames.want_begun" cM A.fZ A.fY
 dR:Binds K A.fY ["self","thing"] []
 dP:Meth K A.aj "want_begun" A.fZ
 nI:fc K "want_standing" "Frames.want_standing" cj A.eD A.eE
 cQ:Binds K A.eE ["self","thing"] []
 cO:Meth K A.aj "want_standing" A.eD
 mM:fc K "want_beginning" "Frames.want_beginning" bZ A.dX A.dS
 mX:Binds K A.dS ["self","thing"] []
 nq:Meth K A.aj "want_beginning" A.dX
 mS:fc K "want_finishing" "Frames.want_finishing" b7 A.d_ A.dW
 ni:Binds K A.dW ["self","thing"] []
 mU:Meth K A.aj "want_finishing" A.d_
 uD:fc K "__init__" "House.__init__" dU A.iS A.iW
 fW:Binds K A.iW ["self","limit"] []
 Bi:fc K "make" "House.make" ig A.oq A.nO
 uv:Binds K A.nO ["self","frame","size"] []
 tF:Meth K A.aj "make" A.oq
 p8:fc K "get" "House.get" jv A.g7 A.gU
 CH:Binds K A.gU ["self","way","k"] []
 DA:Meth K A.aj "get" A.g7
 vy:fc K "put" "House.put" jm A.jo A.jh
 vB:Binds K A.jh ["self","way","k","value"] []
 vw:Meth K A.aj "put" A.jo
 n_:fc K "size" "House.size" il A.eI A.eA
 oQ:Binds K A.eA ["self","way"] []
 nM:Meth K A.aj "size" A.eI
 zh:fc K "cells" "House.cells" gg A.mq A.mw
 rB:Binds K A.mw ["self","way"] []
 rj:Meth K A.aj "cells" A.mq
 AA:fc K "used" "House.used" iL A.nU A.nW
 nQ:Binds K A.nW ["self"] []
 oP:Meth K A.aj "used" A.nU
 BF:fc K "left" "House.left" iC A.nB A.og
 uc:Binds K A.og ["self"] []
 uf:Meth K A.aj "left" A.nB
 yY:fc K "limit" "House.limit" gx A.mf A.lX
 yM:Binds K A.lX ["self"] []
 zB:Meth K A.aj "limit" A.mf
 uz:fc K "greatest" "House.greatest" dZ A.iT A.iR
 uZ:Binds K A.iR ["self"] []
 uE:Meth K A.aj "greatest" A.iT
 yE:fc K "rooms" "House.rooms" gv A.mh A.lY
 yz:Binds K A.lY ["self","frame"] []
 yN:Meth K A.aj "rooms" A.mh
 wc:fc K "picture" "House.picture" eO A.jL A.jM
 jR:Binds K A.jM ["self"] []
 jT:Meth K A.aj "picture" A.jL
 rH:fc K "picture_of" "House.picture_of" cW A.gH A.gJ
 sr:Binds K A.gJ ["self","frame"] []
 sI:Meth K A.aj "picture_of" A.gH
 Bm:fc K "twin" "House.twin" iD A.oG A.oF
 A7:Binds K A.oF ["self"] []
 Bt:Meth K A.aj "twin" A.oG
 pM:fc K "is_way" "House.is_way" fB A.h_ A.iy
 fN:Binds K A.iy ["self","thing"] []
 fA:Meth K A.aj "is_way" A.h_
 ng:fc K "is_value" "House.is_value" d6 A.fR A.fP
 m8:Binds K A.fP ["self","thing"] []
 mV:Meth K A.aj "is_value" A.fR
 ia:fc K "want_room" "House.want_room" dJ A.bS A.bU
 bN:Binds K A.bU ["self","thing"] []
 bM:Meth K A.aj "want_room" A.bS
 lJ:mg "want_cell"=some (.ref A.jk)
 gX:fc K "want_cell" "want_cell" ju A.jk A.jH
 lT:Binds K A.jH ["room","thing"] []
 vi:mg "_law_cell"=some (.ref A.qq)
 pL:fc K "_law_cell" "_law_cell" jB A.qq A.pQ
 vE:Binds K A.pQ ["_law_script","_law_k"] []
 xI:mg "_law_box"=some (.ref A.so)
 rQ:fc K "_law_box" "_law_box" lj A.so A.rR
 xN:Binds K A.rR ["_law_cell_here"] []
 bX:mg "_law_take"=some (.ref A.qg)
 bT:fc K "_law_take" "_law_take" jG A.qg A.pW
 b8:Binds K A.pW ["_law_box_here","_law_many"] []
 oN:mg "_law_house"=some (.ref A.nu)
 ko:fc K "_law_house" "_law_house" hU A.nu A.oO
 nY:Binds K A.oO ["_law_limit"] []
 eV:mg "_law_standing"=some (.ref A.jS)
 dk:fc K "_law_standing" "_law_standing" eM A.jS A.jK
 eL:Binds K A.jK ["_law_model"] []
 xh:mg "_law_row"=some (.ref A.sO)
 sC:fc K "_law_row" "_law_row" ly A.sO A.sd
 wF:Binds K A.sd ["_law_model","_law_frame"] []
 BL:mg "_law_begin"=some (.ref A.ph)
 tR:fc K "_law_begin" "_law_begin" ix A.ph A.oE
 Bp:Binds K A.oE ["_law_model","_law_frame"] []
 yU:mg "_law_finish"=some (.ref A.mE)
 rf:fc K "_law_finish" "_law_finish" gh A.mE A.lZ
 za:Binds K A.lZ ["_law_model","_law_frame"] []
 tP:mg "_law_given"=some (.ref A.oY)
 pw:fc K "_law_given" "_law_given" iu A.oY A.oH
 tJ:Binds K A.oH ["_law_model","_law_frame"] []
 lG:mg "_law_used"=some (.ref A.p_)
 jt:fc K "_law_used" "_law_used" jd A.p_ A.pV
 lK:Binds K A.pV ["_law_model"] []
 vx:mg "_law_make"=some (.ref A.qb)
 qA:fc K "_law_make" "_law_make" jq A.qb A.qz
 vp:Binds K A.qz ["_law_model","_law_frame","_law_size"] []
 rZ:mg "_law_one"=some (.ref A.sq)
 ny:fc K "_law_one" "_law_one" kJ A.sq A.r_
 sL:Binds K A.r_ ["_law_box_here","_law_some"] []
 BP:mg "_law_value"=some (.ref A.oW)
 t_:fc K "_law_value" "_law_value" ij A.oW A.oB
 Bo:Binds K A.oB ["_law_box_here","_law_model"] []
 lR:mg "_law_here"=some (.ref A.pX)
 jD:fc K "_law_here" "_law_here" jl A.pX A.qc
 lO:Binds K A.qc ["_law_model"] []
 DG:mg "_law_deed"=some (.ref A.qj)
 vA:fc K "_law_deed" "_law_deed" je A.qj A.pN
 DS:Binds K A.pN ["_law_box_here","_law_house_here","_law_model"] []
 kD:mg "_law_picture"=some (.ref A.kB)
 hZ:fc K "_law_picture" "_law_picture" fC A.kB A.kI
 kY:Binds K A.kI ["_law_model"] []
 DD:mg "_law_copy"=some (.ref A.qo)
 vq:fc K "_law_copy" "_law_copy" jx A.qo A.pO
 Dj:Binds K A.pO ["_law_model"] []
 GZ:mg "_law_by"=some (.ref A.uG)
 Ad:fc K "_law_by" "_law_by" mL A.uG A.uT
 Hm:Binds K A.uT ["_law_house_here","_law_way"] []
 zz:mg "_law_caught"=some (.ref A.mD)
 ra:fc K "_law_caught" "_law_caught" gp A.mD A.mv
 zc:Binds K A.mv ["_law_house_here","_law_rooms","_law_way"] []
 AV:mg "_law_apart"=some (.ref A.nF)
 tW:fc K "_law_apart" "_law_apart" g_ A.nF A.nJ
 Bd:Binds K A.nJ ["_law_house_here","_law_model","_law_others"] []
 xG:mg "_law_no_cell"=some (.ref A.kE)
 qa:fc K "_law_no_cell" "_law_no_cell" fJ A.kE A.kK
 yj:Binds K A.kK ["_law_house_here","_law_way","_law_k"] []
 rN:mg "_law_rooms_right"=some (.ref A.gL)
 kQ:fc K "_law_rooms_right" "_law_rooms_right" cU A.gL A.gK
 sv:Binds K A.gK ["_law_house_here","_law_model"] []
 Bu:mg "_law_right"=some (.ref A.nL)
 sW:fc K "_law_right" "_law_right" iF A.nL A.nK
 BC:Binds K A.nK ["_law_house_here","_law_model"] []
 Y9:mg "law"=some (.ref A.Lv)
 aa6:fc K "law" "law" CW A.Lv A.CO
 asL:Binds K A.CO ["_law_script"] []
 lF:mg "RoomError"=some (.ref A.cD)
 QC:yl K A.cD A.dH
 dm:xl K A.cD "__init__" A.dH
 RJ:DF K A.cD
 R8:EE K A.cD
 BW:Under K A.cD A.cD
 zV:mg "NoValue"=some (.ref A.cv)
 qK:yl K A.cv A.eF
 EA:xl K A.cv "__init__" A.eF
 GW:DF K A.cv
 HK:EE K A.cv
 tT:Under K A.cv A.cv
 DW:Under K A.cv A.cD
 pE:cP K A.cv "found"
 Mj:mg "Gone"=some (.ref A.fG)
 Br:yl K A.fG A.gE
 II:xl K A.fG "__init__" A.gE
 J3:DF K A.fG
 Wx:EE K A.fG
 CJ:Under K A.fG A.fG
 Hq:Under K A.fG A.cD
 Ab:cP K A.fG "by"
 AI:cP K A.fG "found"
 Gh:mg "NoWay"=some (.ref A.ez)
 wm:yl K A.ez A.fQ
 HU:xl K A.ez "__init__" A.fQ
 OL:DF K A.ez
 Qo:EE K A.ez
 yL:Under K A.ez A.ez
 Gu:Under K A.ez A.cD
 rh:cP K A.ez "found"
 DN:mg "NoCell"=some (.ref A.cL)
 tL:yl K A.cL A.e7
 Gi:xl K A.cL "__init__" A.e7
 ME:DF K A.cL
 L7:EE K A.cL
 vM:Under K A.cL A.cL
 E2:Under K A.cL A.cD
 p6:cP K A.cL "found"
 DI:mg "Frames"=some (.ref A.eS)
 X7:Fh K A.eS
 abq:Mk K A.eS A.e_
 tO:xl K A.eS "__init__" A.e_
 HZ:cP K A.eS "parents"
 ID:cP K A.eS "takers"
 XX:Qf K A.eS
 IC:kitOne K (.ref A.eS) (.ref A.eS)=some true
 IW:kitOne K (.ref A.eS) (.ref A.aj)=some false
 tm:mg "House"=some (.ref A.aj)
 ar:Fh K A.aj
 wq:Mk K A.aj A.iS
 gu:cP K A.aj "bound"
 cA:cP K A.aj "floors"
 dj:cP K A.aj "lengths"
 cJ:cP K A.aj "parents"
 fV:cP K A.aj "peak"
 cC:cP K A.aj "takers"
 Gf:Qf K A.aj
 wW:kitOne K (.ref A.aj) (.ref A.eS)=some true
 yQ:kitOne K (.ref A.aj) (.ref A.aj)=some true
 abR:∀(s:Shared) (u:Value),BindsTo s A.CO ⟨[u],[]⟩ [("_law_script",u)]
 nA:mg "ValueError"=none
 AE:mg "bool"=none
 uS:mg "dict"=none
 qh:mg "enumerate"=none
 Fo:mg "int"=none
 cN:mg "isinstance"=none
 eh:mg "len"=none
 oM:mg "list"=none
 z9:mg "max"=none
 LN:mg "min"=none
 ke:mg "range"=none
 f_:mg "repr"=none
 n8:mg "reversed"=none
 C9:mg "sum"=none
 kr:mg "tuple"=none
 sV:∃u,RelV (V.int 0) u∧mg "GROUND"=some u
 oI:∃u,RelV (V.int 1000) u∧mg "MOST_CELLS"=some u
 fq:∃u,RelV (V.int 6) u∧mg "MOST_CELLS_OF_ROOM"=some u
 mF:∃u,RelV (V.int 100) u∧mg "MOST_FRAMES"=some u
def oV:Option Nat→V
 |none=> .bJ
 |some n=> .int n
theorem aba:¬(("parents" :Str)="takers"):=by decide+kernel
structure HX where
 bd:V
 fa:V
 la:V
 pk:V
def lI(pa ta:Addr):iN:=cu "takers" (.ref ta) (cu "parents" (.ref pa) [])
def dG(pa ta:Addr)(z:HX):iN:=cu "peak" z.pk (cu "lengths" z.la (cu "floors" z.fa (cu "bound" z.bd (lI pa ta))))
theorem xH(pa ta:Addr)(z:HX):(dG pa ta z).lookup ("parents" :Str)=some (.ref pa):=by
 unfold dG lI;rw[aK,if_neg (by decide+kernel),aK,if_neg (by decide+kernel),aK,if_neg (by decide+kernel),aK,if_neg (by decide+kernel),aK,if_neg aba,aK,if_pos rfl]
theorem uR(pa ta:Addr)(z:HX):(dG pa ta z).lookup ("takers" :Str)=some (.ref ta):=by
 unfold dG lI;rw[aK,if_neg (by decide+kernel),aK,if_neg (by decide+kernel),aK,if_neg (by decide+kernel),aK,if_neg (by decide+kernel),aK,if_pos rfl]
theorem Bw(pa ta:Addr)(z:HX):(dG pa ta z).lookup ("bound" :Str)=some z.bd:=by
 unfold dG;rw[aK,if_neg (by decide+kernel),aK,if_neg (by decide+kernel),aK,if_neg (by decide+kernel),aK,if_pos rfl]
theorem sg(pa ta:Addr)(z:HX):(dG pa ta z).lookup ("floors" :Str)=some z.fa:=by
 unfold dG;rw[aK,if_neg (by decide+kernel),aK,if_neg (by decide+kernel),aK,if_pos rfl]
theorem A6(pa ta:Addr)(z:HX):(dG pa ta z).lookup ("lengths" :Str)=some z.la:=by
 unfold dG;rw[aK,if_neg (by decide+kernel),aK,if_pos rfl]
theorem En(pa ta:Addr)(z:HX):(dG pa ta z).lookup ("peak" :Str)=some z.pk:=by
 unfold dG;rw[aK,if_pos rfl]
theorem aB{pa ta:Addr}{z:HX}{m:Str}(h:¬m="peak" ∧¬m="lengths" ∧¬m="floors" ∧¬m="bound" ∧¬m="takers" ∧¬m="parents"):(dG pa ta z).lookup m=none:=by
 obtain⟨h1,h2,h3,h4,h5,h6⟩:=h;unfold dG lI;rw[aK,if_neg h1,aK,if_neg h2,aK,if_neg h3,aK,if_neg h4,aK,if_neg h5,aK,if_neg h6]
 all_goals rfl
structure kj(C:Addr)(H:Hp)(f pa ta:Addr)(ps ts:aP):Prop where
 ob:∃dx z,H f=some (.ins C dx (dG pa ta z))
 pl:H pa=some (.lst (ps.map oV))
 tl:H ta=some (.lst (ts.map oV))
 ne:pa≠ta
theorem kj.same{C:Addr}{H H' :Hp}{f pa ta:Addr}{ps ts:aP}(F:kj C H f pa ta ps ts)(s:au H H'):kj C H' f pa ta ps ts:=by
 obtain⟨⟨dx,z,h⟩,h1,h2,h3⟩:=F;exact⟨⟨dx,z,s _ _ h⟩,s _ _ h1,s _ _ h2,h3⟩
structure WF(ps ts:aP):Prop where
 len:ps.length=ts.length
 pos:0<ps.length
 le:ps.length≤101
 root:ps[0]? =some none
 par:∀i,0<i→i<ps.length→∃j,ps[i]? =some (some j)∧j<i
 tk:∀(i j:Nat),ts[i]? =some (some j)→j<ps.length
def iU(ps:aP)(t:Int):Bool:=decide (0≤t)&&decide (t≤(ps.length:Int) - 1)
def c_(ts:aP)(t:Int):Bool:=decide (0≤t)&&(ts[t.toNat]? ==some none)
theorem jY{xs:aP}{i:Nat}{o:Option Nat}(h:xs[i]? =some o):IL (xs.map oV) (i:Int)=some (oV o):=dD (by rw[List.getElem?_map,h];rfl)
section
variable{P:Program}{w:World}{K:Frag}{mg:Str→aH}{base:Heap}{A:qH}
def KN:Sp:=fun vs H Q _=>∃i:Int,vs=[.int i]∧Q (.bl true) H
theorem kg(T:Txt K mg A):aV P w K mg base eJ 1 A.jc A.ji ["thing"] KN:=by
 refine T.gW.ok tD (fun vs H Q E h=> ?_) (fun cG Ar outer s H vs Q E hr h=> ?_)
 ·obtain⟨v,rfl,_⟩:=h;rfl
 ·obtain⟨i,rfl,k⟩:=h;refine⟨_,(aq (aG (o8 (aE jn (by rfl) T.cN Boot.«isinstance» (aa (pv 0) (aa (t7 (v:= .ty "int") rfl T.Fo Boot.«int» rfl) ah))) (mI (MN (aE jn (by rfl) T.cN Boot.«isinstance» (aa (pv 0) (aa (t7 (v:= .ty "bool") rfl T.AE Boot.«bool» rfl) ah)))))))),?_⟩;exact⟨_,rfl,_,_,_,_,rfl,.int i,rfl,_,rfl,ka ⟨_,rfl,_,_,_,_,rfl,.int i,rfl,_,rfl,k⟩⟩
def LC:Sp:=fun vs H Q _=>∃i lo hi:Int,vs=[.int i,.int lo,.int hi]∧Q (.bl (decide (lo≤i)&&decide (i≤hi))) H
theorem J6{lo hi i:Int}{Q:Bool→Prop}(k:Q (decide (lo≤i)&&decide (i≤hi)))(A1:Prop)(h:Q (decide (i≤hi))→A1):if decide (lo≤i)=true then A1 else Q false:=by
 by_cases q:lo≤i
 ·rw[decide_eq_true q] at k ⊢;exact ka (h (by simpa using k))
 ·rw[decide_eq_false q] at k ⊢;exact g9 (by simpa using k)
theorem jE(T:Txt K mg A):aV P w K mg base eJ 2 A.r9 A.rM ["thing","low","high"] LC:=by
 have fk:=kg (P:=P) (w:=w) (base:=base) T;refine T.iY.ok Cg (fun vs H Q E h=> ?_) (fun cG Ar outer s H vs Q E hr h=> ?_)
 ·obtain⟨v,lo,hi,rfl,_⟩:=h;rfl
 ·obtain⟨i,lo,hi,rfl,k⟩:=h;refine⟨_,(aq (aG (o8 (ay fk hr rfl T.lM T.gW.kp T.lP .nil aw (aa (pv 0) ah)) (mI (LO GA GA (pv 1) (pv 0) (pv 2)))))),?_⟩;refine⟨_,rfl,i,rfl,_,rfl,?_⟩;exact ka ⟨_,rfl,_,rfl,lo,i,rfl,rfl,_,rfl,J6 (Q:=fun b=>Q (.bl b) H) k _ fun q=>⟨_,rfl,i,hi,rfl,rfl,q⟩⟩
def PQ(C:Addr):Sp:=fun vs H Q _=>∃f pa ta ps ts,vs=[.ref f]∧kj C H f pa ta ps ts∧Q (.int ((ps.length:Int) - 1)) H
theorem gD(T:Txt K mg A):aV P w K mg base eJ 1 A.lA A.lu ["self"] (PQ A.aj):=by
 refine T.xQ.ok vH (fun vs H Q E h=> ?_) (fun cG Ar outer s H vs Q E hr h=> ?_)
 ·obtain⟨f,pa,ta,ps,ts,rfl,_⟩:=h;rfl
 ·obtain⟨f,pa,ta,ps,ts,rfl,F,k⟩:=h;obtain⟨⟨dx,z,ho⟩,hp,ht,ne⟩:=id F;refine⟨_,(aq (aG (bH jV (aE aU (by rfl) T.eh Boot.«len» (aa (b9 (pv 0) rfl) ah)) ax))),?_⟩;refine⟨_,rfl,f,A.aj,dx,_,_,rfl,ho,T.ar,T.cJ,xH _ _ _,pa,_,rfl,.inl (bB.of hp),_,1,rfl,rfl,?_⟩;rw[List.length_map];exact k
def aaR(C:Addr):Sp:=fun vs H Q _=>∃f pa ta ps ts,∃t:Int,vs=[.ref f,.int t]∧kj C H f pa ta ps ts∧Q (.bl (iU ps t)) H
theorem j_(T:Txt K mg A):aV P w K mg base eJ 3 A.gO A.gM ["self","thing"] (aaR A.aj):=by
 have ek:=jE (P:=P) (w:=w) (base:=base) T;have cZ:=(gD (P:=P) (w:=w) (base:=base) T).mono (by decide:_≤2);refine T.rV.ok qO (fun vs H Q E h=> ?_) (fun cG Ar outer s H vs Q E hr h=> ?_)
 ·obtain⟨f,pa,ta,ps,ts,t,rfl,_⟩:=h;rfl
 ·obtain⟨f,pa,ta,ps,ts,t,rfl,F,k⟩:=h;obtain⟨⟨dx,z,ho⟩,hp,ht,ne⟩:=id F;obtain⟨u1,qm⟩:=T.sV;refine⟨_,(aq (aG (ay ek hr rfl T.lz T.iY.kp T.kN .nil aw (aa (pv 1) (aa (n5 rfl qm.2 qm.1) (aa (cf (pv 0) T.ar T.iw cZ hr T.iM .nil aw) ah)))))),?_⟩;exact⟨_,rfl,_,rfl,f,dx,_,rfl,ho,aB (by decide+kernel),f,pa,ta,ps,ts,rfl,F,t,0,_,rfl,k⟩
def PJ(C:Addr):Sp:=fun vs H Q _=>∃f pa ta ps ts,∃t:Int,vs=[.ref f,.int t]∧kj C H f pa ta ps ts∧iU ps t=true∧Q .bJ H
theorem dE(T:Txt K mg A):aV P w K mg base eJ 4 A.fZ A.fY ["self","thing"] (PJ A.aj):=by
 have gT:=j_ (P:=P) (w:=w) (base:=base) T;refine T.qS.ok qv (fun vs H Q E h=> ?_) (fun cG Ar outer s H vs Q E hr h=> ?_)
 ·obtain⟨f,pa,ta,ps,ts,t,rfl,_⟩:=h;rfl
 ·obtain⟨f,pa,ta,ps,ts,t,rfl,F,hb,k⟩:=h;obtain⟨⟨dx,z,ho⟩,hp,ht,ne⟩:=id F;refine⟨_,(aq (cg (fu (eZ (aR (pv 0) T.ar T.kM gT hr T.lr .nil aw (aa (pv 1) ah)))) (aq eN) bj)),?_⟩;refine⟨_,rfl,f,dx,_,rfl,ho,aB (by decide+kernel),_,rfl,f,pa,ta,ps,ts,t,rfl,F,_,rfl,?_⟩;rw[hb];exact k
def KL(C:Addr):Sp:=fun vs H Q _=>∃f pa ta ps ts,∃t:Int,vs=[.ref f,.int t]∧kj C H f pa ta ps ts∧ps.length=ts.length∧Q (.bl (c_ ts t)) H
theorem uX(T:Txt K mg A):aV P w K mg base eJ 4 A.j7 A.jW ["self","thing"] (KL A.aj):=by
 have gT:=j_ (P:=P) (w:=w) (base:=base) T;refine T.vR.ok uJ (fun vs H Q E h=> ?_) (fun cG Ar outer s H vs Q E hr h=> ?_)
 ·obtain⟨f,pa,ta,ps,ts,t,rfl,_⟩:=h;rfl
 ·obtain⟨f,pa,ta,ps,ts,t,rfl,F,hl,k⟩:=h;obtain⟨⟨dx,z,ho⟩,hp,ht,ne⟩:=id F;refine⟨_,(aq (aG (o8 (aR (pv 0) T.ar T.kM gT hr T.lr .nil aw (aa (pv 1) ah)) (mI (lS sJ (bC bp (b9 (pv 0) rfl) (pv 1) (fun _ _=>rfl)) dh (bu _)))))),?_⟩;refine⟨_,rfl,f,dx,_,rfl,ho,aB (by decide+kernel),_,rfl,f,pa,ta,ps,ts,t,rfl,F,_,rfl,?_⟩
  cases hb:iU ps t with
  |true=>
   unfold iU at hb;rw[Bool.and_eq_true,decide_eq_true_iff,decide_eq_true_iff] at hb;obtain⟨j,rfl⟩:∃j:Nat,t=j:=⟨t.toNat,by omega⟩;have hj:j<ts.length:=by omega
   have hx:ts[j]? =some ts[j]:=by simp[hj]
   refine ka ⟨_,rfl,f,A.aj,dx,_,_,rfl,ho,T.ar,T.cC,uR _ _ _,_,rfl,ta,_,_,_,rfl,rfl,bB.of ht,jY hx,rfl,?_⟩
   have e:c_ ts (j:Int)=decide (oV ts[j]= .bJ):=by
    unfold c_;rw[decide_eq_true hb.1,Int.toNat_natCast,hx,Bool.true_and]
    cases ts[j] with
    |none=>rfl
    |some n=>rfl
   rw[←e];exact k
  |false=>
   have e:c_ ts t=false:=by
    unfold c_;unfold iU at hb;by_cases h0:0≤t
    ·rw[decide_eq_true h0,Bool.true_and] at hb ⊢;have h1:=of_decide_eq_false hb;have:ts[t.toNat]? =none:=List.getElem?_eq_none (by omega);rw[this];rfl
    ·rw[decide_eq_false h0];rfl
   rw[e] at k;exact g9 k
theorem Cf{ps ts:aP}{t:Int}(hl:ps.length=ts.length)(h:c_ ts t=true):iU ps t=true:=by
 unfold c_ at h;rw[Bool.and_eq_true,decide_eq_true_iff] at h;have h1:=eq_of_beq h.2;have h2:=(List.getElem?_eq_some_iff.mp h1).1;unfold iU;rw[decide_eq_true h.1,decide_eq_true (show t≤(ps.length:Int) - 1 by omega)];rfl
def OH(C:Addr):Sp:=fun vs H Q _=>∃f pa ta ps ts,∃t:Int,vs=[.ref f,.int t]∧kj C H f pa ta ps ts∧ps.length=ts.length∧c_ ts t=true∧Q .bJ H
theorem cH(T:Txt K mg A):aV P w K mg base eJ 5 A.eD A.eE ["self","thing"] (OH A.aj):=by
 have bR:=dE (P:=P) (w:=w) (base:=base) T;have vW:=uX (P:=P) (w:=w) (base:=base) T;refine T.nI.ok mR (fun vs H Q E h=> ?_) (fun cG Ar outer s H vs Q E hr h=> ?_)
 ·obtain⟨f,pa,ta,ps,ts,t,rfl,_⟩:=h;rfl
 ·obtain⟨f,pa,ta,ps,ts,t,rfl,F,hl,hb,k⟩:=h;obtain⟨⟨dx,z,ho⟩,hp,ht,ne⟩:=id F;refine⟨_,(ak (aY (aR (pv 0) T.ar T.dP bR hr T.dR .nil aw (aa (pv 1) ah))) (aq (cg (fu (eZ (aR (pv 0) T.ar T.vF vW hr T.vZ .nil aw (aa (pv 1) ah)))) (aq eN) bj))),?_⟩;refine⟨_,rfl,f,dx,_,rfl,ho,aB (by decide+kernel),_,rfl,f,pa,ta,ps,ts,t,rfl,F,Cf hl hb,?_⟩;refine⟨_,rfl,f,dx,_,rfl,ho,aB (by decide+kernel),_,rfl,f,pa,ta,ps,ts,t,rfl,F,hl,_,rfl,?_⟩;rw[hb];exact k
def akS(C:Addr):Sp:=fun vs H Q _=>∃f pa ta ps ts,∃(t:Nat) (o:Option Nat),vs=[.ref f,.int t]∧kj C H f pa ta ps ts∧ps.length=ts.length∧ts[t]? =some o∧Q (oV o) H
theorem gN(T:Txt K mg A):aV P w K mg base eJ 5 A.iq A.iJ ["self","frame"] (akS A.aj):=by
 have bR:=dE (P:=P) (w:=w) (base:=base) T;refine T.uu.ok sA (fun vs H Q E h=> ?_) (fun cG Ar outer s H vs Q E hr h=> ?_)
 ·obtain⟨f,pa,ta,ps,ts,t,o,rfl,_⟩:=h;rfl
 ·obtain⟨f,pa,ta,ps,ts,t,o,rfl,F,hl,hx,k⟩:=h;obtain⟨⟨dx,z,ho⟩,hp,ht,ne⟩:=id F;have hj:t<ts.length:=(List.getElem?_eq_some_iff.mp hx).1
  have hb:iU ps (t:Int)=true:=by
   unfold iU;rw[decide_eq_true (show(0:Int)≤t by omega),decide_eq_true (show(t:Int)≤(ps.length:Int) - 1 by omega)];rfl
  refine⟨_,(ak (aY (aR (pv 0) T.ar T.dP bR hr T.dR .nil aw (aa (pv 1) ah))) (aq (aG (bC bp (b9 (pv 0) rfl) (pv 1) (fun _ _=>rfl))))),?_⟩;refine⟨_,rfl,f,dx,_,rfl,ho,aB (by decide+kernel),_,rfl,f,pa,ta,ps,ts,t,rfl,F,hb,?_⟩;exact⟨_,rfl,f,A.aj,dx,_,_,rfl,ho,T.ar,T.cC,uR _ _ _,_,rfl,ta,_,_,_,rfl,rfl,bB.of ht,jY hx,k⟩
end
def aQ(ts:aP):List Nat:=(List.range ts.length).filter fun i=>ts[i]? ==some none
def nV(n:Nat):V:= .int n
def AU(ps:aP):Nat→Nat→List Nat
 |0,f=>[f]
 |n+1,f=>f::(match ps[f]? with|some (some j)=>AU ps n j|_=>[])
def Bn(ps:aP)(f:Nat):List Nat:=AU ps f f
theorem Ga{ps ts:aP}(W:WF ps ts)(n:Nat):AU ps n 0=[0]:=by
 cases n with
 |zero=>rfl
 |succ n=>
  show 0::(match ps[0]? with|some (some j)=>AU ps n j|_=>[])=[0];rw[W.root]
theorem Ou{ps ts:aP}(W:WF ps ts)(f:Nat):f<ps.length→∀n m,f≤n→f≤m→AU ps n f=AU ps m f:=by
 induction f using Nat.strongRecOn with
 |_ f ih=>
  intro hf n m hn hm
  cases f with
  |zero=>rw[Ga W,Ga W]
  |succ g=>
   obtain⟨j,e,hj⟩:=W.par (g+1) (by omega) hf;obtain⟨n',rfl⟩:∃n',n=n' +1:=⟨n - 1,by omega⟩;obtain⟨m',rfl⟩:∃m',m=m' +1:=⟨m - 1,by omega⟩;show(g+1)::(match ps[g+1]? with|some (some j)=>AU ps n' j|_=>[])=(g+1)::(match ps[g+1]? with|some (some j)=>AU ps m' j|_=>[]);rw[e];show(g+1)::AU ps n' j=(g+1)::AU ps m' j;rw[ih j hj (by omega) n' m' (by omega) (by omega)]
def WX(ps:aP):Option Nat→List Nat
 |none=>[]
 |some j=>Bn ps j
theorem tG{ps ts:aP}(W:WF ps ts){f:Nat}{o:Option Nat}(h:ps[f]? =some o):Bn ps f=f::WX ps o:=by
 have hf:f<ps.length:=(List.getElem?_eq_some_iff.mp h).1
 cases f with
 |zero=>
  rw[W.root] at h;cases h;rfl
 |succ g=>
  obtain⟨j,e,hj⟩:=W.par (g+1) (by omega) hf;rw[e] at h;cases h;show(g+1)::(match ps[g+1]? with|some (some j)=>AU ps g j|_=>[])=(g+1)::Bn ps j;rw[e];show(g+1)::AU ps g j=(g+1)::AU ps j j;rw[Ou W j (by omega) g j (by omega) (Nat.le_refl _)]
theorem BG(ps:aP):∀(n f:Nat),(AU ps n f).length≤n+1
 |0,f=>Nat.le_refl _
 |n+1,f=>by
  show(match ps[f]? with|some (some j)=>AU ps n j|_=>[]).length+1≤n+1+1
  split
  ·have:=BG ps n ‹_›;omega
  ·simp
def ma(ps:aP)(f:Nat):List Nat:=(Bn ps f).reverse
section
variable{P:Program}{w:World}{K:Frag}{mg:Str→aH}{base:Heap}{A:qH}
def D4(C:Addr):Sp:=fun vs H Q _=>∃f pa ta ps ts,vs=[.ref f]∧kj C H f pa ta ps ts∧ts.length≤1000∧∀l H',H l=none→au H H'→H' l=some (.lst ((aQ ts).map nV))→Q (.ref l) H'
theorem eB(T:Txt K mg A):aV P w K mg base eJ 1 A.iE A.iG ["self"] (D4 A.aj):=by
 refine T.ui.ok rW (fun vs H Q E h=> ?_) (fun cG Ar outer s H vs Q E hr h=> ?_)
 ·obtain⟨f,pa,ta,ps,ts,rfl,_⟩:=h;rfl
 ·obtain⟨f,pa,ta,ps,ts,rfl,F,hle,k⟩:=h;obtain⟨⟨dx,z,ho⟩,hp,ht,ne⟩:=id F;refine⟨_,(aq (aG (dn (N:=["number","taker"]) (k:=2) (js:=[]) rfl (bQ (by kernel_rfl)) (BD rfl T.qh (aa (b9 (pv 0) rfl) ah)) (fun _ _ _ _ _=>⟨(AM (K:=K) (n:=2) rfl rfl (jy (ba (i:=0) (show(["number","taker"]:aX).Nodup by decide+kernel) rfl (Or.inl rfl) (Or.inr rfl)) (jy (ba (i:=1) (show(["number","taker"]:aX).Nodup by decide+kernel) rfl (Or.inl rfl) (Or.inr rfl)) we)) rfl rfl),(AD (bc sJ (pv 1) dh (bu _))),(pv 0)⟩)))),?_⟩;refine⟨_,rfl,f,A.aj,dx,_,_,rfl,ho,T.ar,T.cC,uR _ _ _,ta,_,rfl,ht,?_⟩;refine eX (fun i=>ts[i]? ==some none) nV (Ez (bB.of ht)) ?_ ?_ fun p H' hp sm hl=>k p H' hp sm ?_
  ·rw[List.length_map];exact Nat.le_trans hle (by decide)
  ·rintro i x H' C1 C0 hi sm ⟨t,y,rfl,hT,hy⟩ c1 c0
   rw[List.getElem?_map] at hy
   cases eo:ts[i]? with
   |none=>rw[eo] at hy;cases hy
   |some o=>
    rw[eo] at hy c1 c0;cases hy;refine⟨t,_,rfl,qQ.of hT,rfl,_,_,rfl,_,_,rfl,rfl,((gk.refl _).own (by decide)).own (by decide),_,rfl,rfl,_,rfl,?_⟩
    cases o with
    |none=>exact⟨_,rfl,c1 rfl H' (au.refl H')⟩
    |some n=>exact c0 rfl H' (au.refl H')
  ·rw[List.length_map] at hl;exact hl
def abz(C:Addr):Sp:=fun vs H Q _=>∃f pa ta ps ts,∃t:Nat,vs=[.ref f,.int t]∧kj C H f pa ta ps ts∧WF ps ts∧t<ps.length∧∀l H',H l=none→au H H'→H' l=some (.lst ((ma ps t).map nV))→Q (.ref l) H'
theorem G_{ps:aP}{t:Nat}(h:t<ps.length):iU ps (t:Int)=true:=by
 unfold iU;rw[decide_eq_true (show(0:Int)≤t by omega),decide_eq_true (show(t:Int)≤(ps.length:Int) - 1 by omega)];rfl
theorem rD(T:Txt K mg A):aV P w K mg base eJ 5 A.nP A.oU ["self","frame"] (abz A.aj):=by
 have bR:=dE (P:=P) (w:=w) (base:=base) T;refine T.Bf.ok i_ (fun vs H Q E h=> ?_) (fun cG Ar outer s H vs Q E hr h=> ?_)
 ·obtain⟨f,pa,ta,ps,ts,t,rfl,_⟩:=h;rfl
 ·obtain⟨f,pa,ta,ps,ts,t,rfl,F,W,eQ,k⟩:=h;obtain⟨⟨dx,z,ho⟩,hp,ht,ne⟩:=id F;refine⟨_,(ak (aY (aR (pv 0) T.ar T.dP bR hr T.dR .nil aw (aa (pv 1) ah))) (ak (a_ (i:=2) i_.nd rfl (Or.inl rfl) (bO ah)) (ak (a_ (i:=3) i_.nd rfl (Or.inl rfl) (pv 1)) (ak (C3 PassesOwn.never (bc wu (pv 3) dh (bu _)) (ak (aY (vC plainAttrs_list PySem.F.slot_list_append PySem.F.type_list_append eW (pv 2) (aa (pv 3) ah))) (aq (a_ (i:=3) i_.nd rfl (Or.inl rfl) (bC bp (b9 (pv 0) rfl) (pv 3) (fun _ _=>rfl)))))) (aq (aG (E3 rfl rfl T.oM rfl T.n8 (aa (pv 2) ah)))))))),?_⟩;refine⟨_,rfl,f,dx,_,rfl,ho,aB (by decide+kernel),_,rfl,f,pa,ta,ps,ts,t,rfl,F,G_ eQ,?_⟩;refine⟨Nat.zero_le _,fun l hl=> ?_⟩;refine⟨_,rfl,?_⟩
  have K1:(Bn ps t).length≤101:=by
   have:=BG ps t t;have:=W.le;show(AU ps t t).length≤101;omega
  refine⟨fun m σ H' =>∃(acc:List Nat) (o:Option Nat),σ=[some (.ref f),some (.int t),some (.ref l),some (oV o)]∧H' =upd H l (.lst (acc.map nV))∧acc++WX ps o=Bn ps t∧(∀j,o=some j→j<ps.length)∧m=(match o with|none=>0|some j=>j+1),⟨t+1,[],some t,rfl,rfl,rfl,?_,rfl⟩,?_⟩
  ·intro j e;cases e;exact eQ
  ·rintro m σ H' ⟨acc,o,rfl,rfl,CM,hj,rfl⟩
   have sm:=au.upd (o:= .lst (acc.map nV)) hl;refine⟨_,rfl,rfl,_,rfl,?_⟩
   cases o with
   |none=>
    refine⟨_,rfl,l,_,rfl,bB.of ae,fun l2 m6=> ?_⟩;have s2:=au.upd (o:= .lst (acc.map nV).reverse) m6;refine k l2 _ (sm.free m6) (sm.trans s2) ?_;have e:acc=Bn ps t:=by simpa[WX] using CM
    rw[ae,e,←List.map_reverse];rfl
   |some j=>
    have FN:=hj j rfl;have hx:ps[j]? =some ps[j]:=by simp[FN]
    have est:=tG W hx;have TU:acc++Bn ps j=Bn ps t:=CM
    have hal:acc.length<101:=by
     have e1:(acc++Bn ps j).length≤101:=by rw[TU];exact K1
     rw[est,List.length_append,List.length_cons] at e1;omega
    refine⟨fun cK H' =>∃m',m' <j+1∧∃(acc:List Nat) (o:Option Nat),cK =[some (.ref f),some (.int t),some (.ref l),some (oV o)]∧H' =upd H l (.lst (acc.map nV))∧acc++WX ps o=Bn ps t∧(∀j,o=some j→j<ps.length)∧m' =(match o with|none=>0|some j=>j+1),fun cK H' h=>h,?_⟩;refine⟨_,rfl,.inl ⟨rfl,_,bB.of ae⟩,_,rfl,l,_,_,rfl,rfl,ae,?_,?_⟩
    ·rw[List.length_map];exact Nat.lt_of_lt_of_le hal (by decide)
    rw[wx];have s3:=au.upd (o:= .lst (acc.map nV++[oV (some j)])) hl;refine⟨_,rfl,f,A.aj,dx,_,_,rfl,s3 _ _ ho,T.ar,T.cJ,xH _ _ _,_,rfl,pa,_,_,_,rfl,rfl,bB.of (s3 _ _ hp),jY hx,?_⟩
    have XJ:∀i,ps[j]=some i→i<j:=fun i e=>by
     rw[e] at hx
     cases j with
     |zero=>rw[W.root] at hx;cases hx
     |succ g=>
      obtain⟨i',e',ym⟩:=W.par (g+1) (by omega) FN;rw[e'] at hx;cases hx;exact ym
    refine⟨(match ps[j] with|none=>0|some i=>i+1),?_,acc++[j],ps[j],rfl,?_,?_,fun i e=> ?_,rfl⟩
    ·cases e:ps[j] with
     |none=>show 0<j+1;omega
     |some i=>have:=XJ i e;show i+1<j+1;omega
    ·rw[List.map_append];rfl
    ·rw[List.append_assoc,←TU,est];rfl
    ·have:=XJ i e;omega
end
def jF(pa ta:Addr)(H H' :Hp):Prop:=∀c o,c≠pa→c≠ta→H c=some o→H' c=some o
theorem jF.refl(pa ta:Addr)(H:Hp):jF pa ta H H:=fun _ _ _ _ e=>e
theorem jF.trans{pa ta:Addr}{H H1 H2:Hp}(h:jF pa ta H H1)(h' :jF pa ta H1 H2):jF pa ta H H2:=fun c o h1 h2 e=>h' c o h1 h2 (h c o h1 h2 e)
def iQ(ps ts:aP)(t:Nat):List Nat:=(aQ ts).reverse.filter fun n=>decide (t∈ma ps n)
def xz(t:Nat):List Nat→aP→aP
 |[],ts=>ts
 |n::r,ts=>xz t r (ts.set n (some t))
theorem pY(t:Nat):∀(E:List Nat) (ts:aP),(xz t E ts).length=ts.length
 |[],ts=>rfl
 |n::r,ts=>by
  show(xz t r (ts.set n (some t))).length=ts.length;rw[pY t r,List.length_set]
theorem ve(t n:Nat):∀(E:List Nat) (ts:aP),xz t (E++[n]) ts=(xz t E ts).set n (some t)
 |[],ts=>rfl
 |m::r,ts=>ve t n r (ts.set m (some t))
theorem xA{ts:aP}{n:Nat}(h:n∈aQ ts):n<ts.length:=List.mem_range.mp (List.mem_filter.mp h).1
theorem G3{ts:aP}{n:Nat}:n∈aQ ts↔c_ ts (n:Int)=true:=by
 unfold aQ c_;rw[List.mem_filter,List.mem_range,decide_eq_true (show(0:Int)≤n by omega),Bool.true_and,Int.toNat_natCast];constructor
 ·exact fun h=>h.2
 ·intro h;exact⟨(List.getElem?_eq_some_iff.mp (eq_of_beq h)).1,h⟩
theorem MB{ps ts:aP}{t n:Nat}(h:n∈iQ ps ts t):n<ts.length:=xA (List.mem_reverse.mp (List.mem_filter.mp h).1)
theorem Ff(S:List Nat):S=(List.range S.length).map fun i=>S.getD i 0:=by
 apply List.ext_getElem?;intro i;rw[List.getElem?_map];by_cases h:i<S.length
 ·rw[List.getElem?_range h];simp[List.getD_eq_getElem?_getD,h]
 ·rw[List.getElem?_eq_none (by omega),List.getElem?_eq_none (by rw[List.length_range];omega)];rfl
theorem ua(S:List Nat)(p:Nat→Bool)(g:Nat→V):((List.range S.length).filter fun i=>p (S.getD i 0)).map (fun i=>g (S.getD i 0))=(S.filter p).map g:=by
 conv=>rhs;rw[Ff S]
 rw[List.filter_map,List.map_map];rfl
theorem KY(t:Nat)(R:List Nat):Se (nV t) (R.map nV)=decide (t∈R):=by
 unfold Se;rw[List.any_map,Bool.eq_iff_iff,List.any_eq_true,decide_eq_true_iff];constructor
 ·rintro ⟨n,hn,e⟩
  have e:((n:Int)==(t:Int))=true:=e;have e:=eq_of_beq e;have:n=t:=by omega
  rw[←this];exact hn
 ·intro h;exact⟨t,h,by show((t:Int)==(t:Int))=true;simp⟩
theorem GI(R:List Nat):(R.map nV).all nc=true:=by
 rw[List.all_map,List.all_eq_true];intro n _;rfl
section
variable{P:Program}{w:World}{K:Frag}{mg:Str→aH}{base:Heap}{A:qH}
def V4(C:Addr):Sp:=fun vs H Q _=>∃(p dx:Addr),vs=[.ref p]∧H p=some (.ins C dx [])∧∀pa ta H',H pa=none→H ta=none→H' p=some (.ins C dx (lI pa ta))→H' pa=some (.lst [.bJ])→H' ta=some (.lst [.bJ])→pa≠ta→(∀b o,H b=some o→b≠p→H' b=some o)→Q .bJ H'
theorem se(T:Txt K mg A):aV P w K mg base eJ 1 A.e_ A.iH ["self"] (V4 A.aj):=by
 refine T.tf.ok rG (fun vs H Q E h=> ?_) (fun cG Ar outer s H vs Q E hr h=> ?_)
 ·obtain⟨p,dx,rfl,_⟩:=h;rfl
 ·obtain⟨p,dx,rfl,hp,k⟩:=h;refine⟨_,(ak (kS (pv 0) (bO (aa dh ah)) rfl) (aq (kS (pv 0) (bO (aa dh ah)) rfl))),?_⟩;refine⟨(show 1≤sizeLine by decide),fun pa XU=> ?_⟩;have np:p≠pa:=ag hp XU;refine⟨_,rfl,p,A.aj,dx,[],rfl,(by rw[af np];exact hp),T.ar,T.cJ,(by show 0<1000;decide),(show 1≤sizeLine by decide),fun ta hta=> ?_⟩;have nt:p≠ta:=ag ae hta
  have Wt:upd H pa (.lst [.bJ]) ta=none:=by
   rw[af nt.symm] at hta;exact hta
  have ZK:pa≠ta:=ag ae Wt
  have ab8:H ta=none:=by
   rw[af ZK.symm] at Wt;exact Wt
  refine⟨_,rfl,p,A.aj,dx,_,rfl,(by rw[af nt,ae]),T.ar,T.cC,(by show 1<1000;decide),?_⟩;refine k pa ta _ XU ab8 ae ?_ ?_ ZK fun b o e hb=> ?_
  ·rw[af np.symm,af ZK,af np.symm,ae]
  ·rw[af nt.symm,ae]
  ·rw[af hb,af (ag e ab8),af hb,af (ag e XU)];exact e
def Hn(C:Addr):Sp:=fun vs H Q _=>∃f pa ta ps ts,∃t:Nat,vs=[.ref f,.int t]∧kj C H f pa ta ps ts∧ps.length=ts.length∧c_ ts (t:Int)=true∧ps.length≤100∧Q .bJ H
def OG(C:Addr):Sp:=fun vs H Q _=>∃f pa ta ps ts,∃t:Nat,vs=[.ref f,.int t]∧kj C H f pa ta ps ts∧ps.length=ts.length∧c_ ts (t:Int)=true∧ps.length≤100∧
 ∀H',kj C H' f pa ta (ps++[some t]) (ts++[none])→jF pa ta H H'→Q (.int ps.length) H'
theorem mJ(T:Txt K mg A):aV P w K mg base eJ 6 A.dX A.dS ["self","thing"] (Hn A.aj):=by
 have bE:=cH (P:=P) (w:=w) (base:=base) T;have cZ:=(gD (P:=P) (w:=w) (base:=base) T).mono (by decide:_≤5);refine T.mM.ok mH (fun vs H Q E h=> ?_) (fun cG Ar outer s H vs Q E hr h=> ?_)
 ·obtain⟨f,pa,ta,ps,ts,t,rfl,_⟩:=h;rfl
 ·obtain⟨f,pa,ta,ps,ts,t,rfl,F,hl,hb,hle,k⟩:=h;obtain⟨⟨dx,z,ho⟩,hp,ht,ne⟩:=id F;obtain⟨u1,q0⟩:=T.mF;refine⟨_,(ak (aY (aR (pv 0) T.ar T.cO bE hr T.cQ .nil aw (aa (pv 1) ah))) (aq (cg (bc xj (cf (pv 0) T.ar T.iw cZ hr T.iM .nil aw) (n5 rfl q0.2 q0.1) (bu _)) (aq eN) bj))),?_⟩;refine⟨_,rfl,f,dx,_,rfl,ho,aB (by decide+kernel),_,rfl,f,pa,ta,ps,ts,t,rfl,F,hl,hb,?_⟩;refine⟨_,rfl,f,dx,_,rfl,ho,aB (by decide+kernel),f,pa,ta,ps,ts,rfl,F,?_⟩;refine⟨rfl,_,rfl,?_⟩;rw[decide_eq_false (show ¬V.int ((ps.length:Int) - 1)=V.int 100 by intro z;injection z with z;omega)];exact g9 k
theorem vY(T:Txt K mg A):aV P w K mg base eJ 7 A.kZ A.kU ["self","frame"] (OG A.aj):=by
 have nh:=mJ (P:=P) (w:=w) (base:=base) T;have cZ:=(gD (P:=P) (w:=w) (base:=base) T).mono (by decide:_≤6);refine T.xK.ok vU (fun vs H Q E h=> ?_) (fun cG Ar outer s H vs Q E hr h=> ?_)
 ·obtain⟨f,pa,ta,ps,ts,t,rfl,_⟩:=h;rfl
 ·obtain⟨f,pa,ta,ps,ts,t,rfl,F,hl,hb,hle,k⟩:=h;obtain⟨⟨dx,z,ho⟩,hp,ht,ne⟩:=id F;have fp:f≠pa:=aJ ho hp (by intro z;cases z);have ft:f≠ta:=aJ ho ht (by intro z;cases z);refine⟨_,(ak (aY (aR (pv 0) T.ar T.nq nh hr T.mX .nil aw (aa (pv 1) ah))) (ak (aY (vC plainAttrs_list PySem.F.slot_list_append PySem.F.type_list_append eW (b9 (pv 0) rfl) (aa (pv 1) ah))) (ak (aY (vC plainAttrs_list PySem.F.slot_list_append PySem.F.type_list_append eW (b9 (pv 0) rfl) (aa dh ah))) (aq (aG (cf (pv 0) T.ar T.iw cZ hr T.iM .nil aw)))))),?_⟩;refine⟨_,rfl,f,dx,_,rfl,ho,aB (by decide+kernel),_,rfl,f,pa,ta,ps,ts,t,rfl,F,hl,hb,hle,?_⟩;refine⟨_,rfl,f,A.aj,dx,_,_,rfl,ho,T.ar,T.cJ,xH _ _ _,.inl ⟨rfl,_,bB.of hp⟩,_,rfl,pa,_,_,rfl,rfl,hp,?_,?_⟩
  ·rw[List.length_map];exact Nat.lt_of_le_of_lt hle (by decide)
  have Wa:∀o,upd H pa o f=some (.ins A.aj dx (dG pa ta z)):=fun o=>by rw[af fp];exact ho
  have ht2:∀o,upd H pa o ta=some (.lst (ts.map oV)):=fun o=>by rw[af ne.symm];exact ht
  refine⟨_,rfl,f,A.aj,dx,_,_,rfl,Wa _,T.ar,T.cC,uR _ _ _,.inl ⟨rfl,_,bB.of (ht2 _)⟩,ta,_,_,rfl,rfl,ht2 _,?_,?_⟩
  ·rw[List.length_map];exact Nat.lt_of_le_of_lt (show ts.length≤100 by omega) (by decide)
  have Xb:∀o o',upd (upd H pa o) ta o' f=some (.ins A.aj dx (dG pa ta z)):=fun o o' =>by rw[af ft];exact Wa _
  have F3:kj A.aj (upd (upd H pa (.lst (ps.map oV++[V.int t]))) ta (.lst (ts.map oV++[V.bJ]))) f pa ta (ps++[some t]) (ts++[none]):=by
   refine⟨⟨dx,z,Xb _ _⟩,?_,?_,ne⟩
   ·rw[af ne,ae,List.map_append];rfl
   ·rw[ae,List.map_append];rfl
  refine⟨_,rfl,f,dx,_,rfl,Xb _ _,aB (by decide+kernel),f,pa,ta,_,_,rfl,F3,?_⟩;rw[show(((ps++[some t]).length:Nat):Int) - 1=(ps.length:Int) by rw[List.length_append,List.length_singleton];omega];refine k _ F3 fun c o h1 h2 e=> ?_;rw[af h2,af h1];exact e
end
theorem xn(ts:aP)(n t:Nat):(ts.map oV).set n (.int t)=(ts.set n (some t)).map oV:=by
 rw[List.map_set];rfl
theorem qN{n i:Nat}(h:i<n):Oj n (i:Int)=some i:=by
 unfold Oj;rw[if_pos (show(0:Int)≤(i:Int) by omega),if_pos (show(i:Int)<(n:Int) by omega),Int.toNat_natCast]
section
variable{P:Program}{w:World}{K:Frag}{mg:Str→aH}{base:Heap}{A:qH}
def G0(C:Addr):Sp:=fun vs H Q _=>∃f pa ta ps ts,∃t:Nat,vs=[.ref f,.int t]∧kj C H f pa ta ps ts∧ps.length=ts.length∧c_ ts (t:Int)=true∧t≠0∧Q .bJ H
theorem lV(T:Txt K mg A):aV P w K mg base eJ 6 A.d_ A.dW ["self","thing"] (G0 A.aj):=by
 have bE:=cH (P:=P) (w:=w) (base:=base) T;refine T.mS.ok my (fun vs H Q E h=> ?_) (fun cG Ar outer s H vs Q E hr h=> ?_)
 ·obtain⟨f,pa,ta,ps,ts,t,rfl,_⟩:=h;rfl
 ·obtain⟨f,pa,ta,ps,ts,t,rfl,F,hl,hb,h0,k⟩:=h;obtain⟨⟨dx,z,ho⟩,hp,ht,ne⟩:=id F;obtain⟨u1,qm⟩:=T.sV;refine⟨_,(ak (aY (aR (pv 0) T.ar T.cO bE hr T.cQ .nil aw (aa (pv 1) ah))) (aq (cg (bc xj (pv 1) (n5 rfl qm.2 qm.1) (bu _)) (aq eN) bj))),?_⟩;refine⟨_,rfl,f,dx,_,rfl,ho,aB (by decide+kernel),_,rfl,f,pa,ta,ps,ts,t,rfl,F,hl,hb,?_⟩;refine⟨_,rfl,rfl,_,rfl,?_⟩;rw[decide_eq_false (show ¬V.int (t:Int)=V.int 0 by intro z;injection z with z;omega)];exact g9 k
def Vp(C:Addr):Sp:=fun vs H Q _=>∃f pa ta ps ts,∃t:Nat,vs=[.ref f,.int t]∧kj C H f pa ta ps ts∧WF ps ts∧
 ∀l H',H l=none→au H H'→H' l=some (.lst ((iQ ps ts t).map nV))→Q (.ref l) H'
theorem w6(T:Txt K mg A):aV P w K mg base eJ 6 A.mj A.lU ["self","frame"] (Vp A.aj):=by
 have cb:=(eB (P:=P) (w:=w) (base:=base) T).mono (by decide:_≤5);have nN:=rD (P:=P) (w:=w) (base:=base) T;refine T.zi.ok xS (fun vs H Q E h=> ?_) (fun cG Ar outer s H vs Q E hr h=> ?_)
 ·obtain⟨f,pa,ta,ps,ts,t,rfl,_⟩:=h;rfl
 ·obtain⟨f,pa,ta,ps,ts,t,rfl,F,W,k⟩:=h;obtain⟨⟨dx,z,ho⟩,hp,ht,ne⟩:=id F;have hl:=W.len;refine⟨_,(aq (aG (dn (N:=["number","frame","self"]) (k:=1) (js:=[1,0]) rfl (bQ (by kernel_rfl)) (C7 rfl T.n8 (aa (cf (pv 0) T.ar T.ff cb hr T.e8 .nil aw) ah)) (fun _ _ _ _ _=>⟨(ba (i:=0) (show(["number","frame","self"]:aX).Nodup by decide+kernel) rfl (Or.inl rfl) (Or.inr rfl)),(AD (bc (xt (K:=K) rfl) (pv 1) (aR (pv 2) T.ar T.sX nN hr T.tS .nil aw (aa (pv 0) ah)) (by with_unfolding_all rfl))),(pv 0)⟩)))),?_⟩;refine⟨_,rfl,f,dx,_,rfl,ho,aB (by decide+kernel),f,pa,ta,ps,ts,rfl,F,by have:=W.le;omega,fun sl H1 Q2 s1 Hh=> ?_⟩;have F1:=F.same s1;obtain⟨⟨pG,z1,Bg⟩,GO,ht1,_⟩:=id F1;refine⟨sl,_,rfl,bB.of Hh,?_⟩;have hS:((aQ ts).map nV).reverse=(aQ ts).reverse.map nV:=by rw[List.map_reverse]
  have VR:((aQ ts).map nV).reverse.length=(aQ ts).reverse.length:=by rw[hS,List.length_map]
  refine eX (fun i=>decide (t∈ma ps ((aQ ts).reverse.getD i 0))) (fun i=>nV ((aQ ts).reverse.getD i 0)) (HI (bB.of Hh)).g ?_ ?_ fun l H2 m6 s2 hL=> ?_
  ·rw[VR,List.length_reverse];refine Nat.le_trans (List.length_filter_le _ _) ?_;rw[List.length_range];have:=W.le;exact Nat.le_trans (show ts.length≤101 by omega) (by decide)
  ·intro i x H' C1 C0 hi sm hx c1 c0;rw[hS,List.getElem?_map] at hx
   cases en:(aQ ts).reverse[i]? with
   |none=>rw[en] at hx;cases hx
   |some n=>
    rw[en] at hx;cases hx;have ed:(aQ ts).reverse.getD i 0=n:=by rw[List.getD_eq_getElem?_getD,en];rfl
    have hn:n<ps.length:=by
     have:=xA (List.mem_reverse.mp (List.mem_of_getElem? en));omega
    rw[ed] at c1 c0;have F' :=F1.same sm;obtain⟨⟨CD,z',BO⟩,_,_,_⟩:=id F';refine⟨(gk.refl _).own (by decide),_,rfl,_,rfl,f,CD,_,rfl,BO,aB (by decide+kernel),_,rfl,f,pa,ta,ps,ts,n,rfl,F',W,hn,fun rl H3 Sg s3 hr3=> ?_⟩;refine⟨rl,_,rfl,.inl (bB.of hr3),rfl,GI _,_,rfl,?_⟩;have e:Se (V.int (t:Int)) ((ma ps n).map nV)=decide (t∈ma ps n):=KY t _;show if Se (V.int (t:Int)) ((ma ps n).map nV)=true then _ else _
    rw[e]
    cases hd:decide (t∈ma ps n) with
    |true=>exact ka ⟨_,rfl,c1 hd H3 s3⟩
    |false=>exact g9 (c0 hd H3 s3)
  ·rw[VR] at hL
   have hL:H2 l=some (.lst ((iQ ps ts t).map nV)):=by
    rw[hL];exact congrArg (fun z=>some (HO.lst z)) (ua (aQ ts).reverse (fun n=>decide (t∈ma ps n)) nV)
   exact k l H2 (s1.free m6) (s1.trans s2) hL
def Ln(C:Addr):Sp:=fun vs H Q _=>∃f pa ta ps ts,∃t:Nat,vs=[.ref f,.int t]∧kj C H f pa ta ps ts∧WF ps ts∧c_ ts (t:Int)=true∧t≠0∧
 ∀l H',H l=none→H' l=some (.lst ((iQ ps ts t).map nV))→kj C H' f pa ta ps (xz t (iQ ps ts t) ts)→jF pa ta H H'→Q (.ref l) H'
theorem uH(T:Txt K mg A):aV P w K mg base eJ 7 A.j4 A.jJ ["self","frame"] (Ln A.aj):=by
 have mZ:=lV (P:=P) (w:=w) (base:=base) T;have y_:=w6 (P:=P) (w:=w) (base:=base) T;refine T.vN.ok i6 (fun vs H Q E h=> ?_) (fun cG Ar outer s H vs Q E hr h=> ?_)
 ·obtain⟨f,pa,ta,ps,ts,t,rfl,_⟩:=h;rfl
 ·obtain⟨f,pa,ta,ps,ts,t,rfl,F,W,hb,h0,k⟩:=h;obtain⟨⟨dx,z,ho⟩,hp,ht,ne⟩:=id F;have hl:=W.len;have fp:f≠pa:=aJ ho hp (by intro z;cases z);have ft:f≠ta:=aJ ho ht (by intro z;cases z);refine⟨_,(ak (aY (aR (pv 0) T.ar T.mU mZ hr T.ni .nil aw (aa (pv 1) ah))) (ak (a_ (i:=2) i6.nd rfl (Or.inl rfl) (aR (pv 0) T.ar T.yr y_ hr T.yX .nil aw (aa (pv 1) ah))) (ak (gR PassesOwn.never rfl (cy (pv 2)) (ba (i:=3) i6.nd rfl (Or.inl rfl) (Or.inl rfl)) (aq (nG (pv 1) (oA (b9 (pv 0) rfl) (pv 3) ww)))) (aq (aG (pv 2)))))),?_⟩;refine⟨_,rfl,f,dx,_,rfl,ho,aB (by decide+kernel),_,rfl,f,pa,ta,ps,ts,t,rfl,F,hl,hb,h0,?_⟩;refine⟨_,rfl,f,dx,_,rfl,ho,aB (by decide+kernel),_,rfl,f,pa,ta,ps,ts,t,rfl,F,W,fun l H2 Ct Ir hL=> ?_⟩
  ·have F2:=F.same Ir;obtain⟨⟨YG,z2,Wa⟩,wX,ht2,_⟩:=id F2
   have eQ:l≠ta:=fun z=>by
    rw[z,ht] at Ct;cases Ct
   refine⟨_,rfl,l,rfl,⟨_,bB.of hL⟩,?_⟩;refine gr (K:=K) (a:=l) (xs:=(iQ ps ts t).map nV) (fun i σ H3=>∃(x:Option V),σ=[some (.ref f),some (.int t),some (.ref l),x]∧H3=upd H2 ta (.lst ((xz t ((iQ ps ts t).take i) ts).map oV))) ⟨none,rfl,?_⟩ ?_ ?_ ?_
   ·show H2=upd H2 ta (.lst (ts.map oV))
    funext c
    by_cases hc:c=ta
    ·subst hc;rw[ae];exact ht2
    ·rw[af hc]
   ·rintro i σ H3 _ ⟨x,rfl,rfl⟩
    exact bB.of (by rw[af eQ];exact hL)
   ·rintro i x σ H3 hi ⟨x',rfl,rfl⟩
    rw[List.getElem?_map] at hi
    cases en:(iQ ps ts t)[i]? with
    |none=>rw[en] at hi;cases hi
    |some n=>
     rw[en] at hi;cases hi;have hn:=MB (List.mem_of_getElem? en);refine⟨_,rfl,_,rfl,f,A.aj,YG,_,_,rfl,(by rw[af ft];exact Wa),T.ar,T.cC,uR _ _ _,_,rfl,ta,_,_,n,rfl,rfl,ae,qN (by rw[List.length_map,pY];exact hn),?_⟩;refine⟨_,rfl,?_⟩;rw[wx]
     have e1:(iQ ps ts t).take (i+1)=(iQ ps ts t).take i++[n]:=by
      rw[List.take_add_one,en];rfl
     rw[e1,ve,←xn]
   ·rintro σ H3 ⟨x,rfl,rfl⟩
    rw[List.length_map,List.take_length];refine⟨_,rfl,k l _ Ct (by rw[af eQ];exact hL) ⟨⟨YG,z2,by rw[af ft];exact Wa⟩,by rw[af ne];exact wX,ae,ne⟩ fun c o h1 h2 e=> ?_⟩;rw[af h2];exact Ir c o e
end
def Kept(b:Addr)(H H' :Hp):Prop:=∀c o,c≠b→H c=some o→H' c=some o
section
variable{P:Program}{w:World}{K:Frag}{mg:Str→aH}{base:Heap}{A:qH}
def VO(K:Frag):Sp:=fun vs H Q _=>∃(a:Addr) (ns:List Int) (k:Int),vs=[.ref a,.int k]∧bB K H a (ns.map V.int)∧0≤k∧k<1000∧∀c,Q (.int c) H
theorem AZ(T:Txt K mg A):aV P w K mg base eJ 1 A.qq A.pQ ["_law_script","_law_k"] (VO K):=by
 refine T.pL.ok AL (fun vs H Q E h=> ?_) (fun cG Ar outer s H vs Q E hr h=> ?_)
 ·obtain⟨a,ns,k,rfl,_⟩:=h;rfl
 ·obtain⟨a,ns,k,rfl,hS,h0,h1,q⟩:=h;refine⟨_,(ak (cg (bc De (pv 1) (aE aU (by rfl) T.eh Boot.«len» (aa (pv 0) ah)) (bu _)) (aq (aG (bC bp (pv 0) (pv 1) (fun _ _=>rfl)))) bj) (aq (aG (bH iP (bH xw ax (pv 1)) ax)))),?_⟩;refine⟨_,rfl,_,rfl,a,_,rfl,.inl hS,k,_,rfl,rfl,_,rfl,?_⟩;refine zm (fun hk=> ?_) (fun hk=> ?_)
  ·have hk:=of_decide_eq_true hk;rw[List.length_map] at hk;obtain⟨j,rfl⟩:∃j:Nat,k=j:=⟨k.toNat,by omega⟩;have hj:j<ns.length:=by omega
   exact⟨_,rfl,_,rfl,a,_,_,_,rfl,rfl,hS,dD (v:= .int ns[j]) (by simp[hj]),q _⟩
  ·exact⟨_,rfl,7919,k,rfl,rfl,.inl ⟨by decide,by decide⟩,_,_,rfl,rfl,q _⟩
def cX(H:Hp)(b:Addr)(k:Nat):Prop:=∃(x y z:Int),H b=some (.lst [.int x,.int y,.int z])∧0≤x∧0≤y∧y<2147483629∧0≤z∧z≤(k:Int)
def xq(b:Addr)(H H' :Hp):Prop:=∀c,c≠b→H' c=H c
theorem xq.upd{b:Addr}{H:Hp}{o:HO}:xq b H (upd H b o):=fun c hc=>af hc
theorem xq.kept{b:Addr}{H H' :Hp}(h:xq b H H'):Kept b H H' :=fun c o hc e=>(h c hc).trans e
theorem Kept.refl(b:Addr)(H:Hp):Kept b H H:=fun _ _ _ e=>e
theorem Kept.trans{b:Addr}{H H1 H2:Hp}(h:Kept b H H1)(h' :Kept b H1 H2):Kept b H H2:=fun c o hc e=>h' c o hc (h c o hc e)
theorem Jr.L2.au.kept{b:Addr}{H H' :Hp}(h:au H H'):Kept b H H' :=fun c o _ e=>h c o e
theorem cX.same{b:Addr}{k:Nat}{H H' :Hp}(B:cX H b k)(h:au H H'):cX H' b k:=by
 obtain⟨x,y,z,hb,r⟩:=B;exact⟨x,y,z,h _ _ hb,r⟩
theorem cX.mono{b:Addr}{k j:Nat}{H:Hp}(B:cX H b k)(h:k≤j):cX H b j:=by
 obtain⟨x,y,z,hb,h1,h2,h3,h4,h5⟩:=B;exact⟨x,y,z,hb,h1,h2,h3,h4,by omega⟩
theorem cX.ne{b p:Addr}{k:Nat}{H:Hp}(B:cX H b k)(h:H p=none):p≠b:=by
 obtain⟨x,y,z,hb,_⟩:=B;exact(ag hb h).symm
theorem cX.ne'{b t:Addr}{k:Nat}{H:Hp}{xs:az}(B:cX H b k){H0:Hp}(_:H0 t=none)(h:H t=some (.tup xs)):t≠b:=by
 obtain⟨x,y,z,hb,_⟩:=B;exact(aJ hb h (by intro q;cases q)).symm
theorem AK{K:Frag}{H:Hp}{p:Addr}{xs:az}{i:Int}{Q:VK}(Pv:V→Prop)(h:H p=some (.lst xs))(h0:0≤i)(h1:i<xs.length)(hP:∀x∈xs,Pv x)(q:∀v,Pv v→Q v H):OT K (.ref p) (.int i) H Q:=by
 obtain⟨j,rfl⟩:∃j:Nat,i=j:=⟨i.toNat,by omega⟩;have hj:j<xs.length:=by omega
 exact⟨p,xs,j,xs[j],rfl,rfl,bB.of h,dD (by simp[hj]),q _ (hP _ (List.getElem_mem hj))⟩
def Zl:Sp:=fun vs H Q _=>∃c,vs=[.int c]∧∀b H',H b=none→cX H' b 0→au H H'→Q (.ref b) H'
theorem C_(T:Txt K mg A):aV P w K mg base eJ 1 A.so A.rR ["_law_cell_here"] Zl:=by
 refine T.rQ.ok Cd (fun vs H Q E h=> ?_) (fun cG Ar outer s H vs Q E hr h=> ?_)
 ·obtain⟨c,rfl,_⟩:=h;rfl
 ·obtain⟨c,rfl,q⟩:=h;refine⟨_,(aq (aG (bO (aa (aE (qL rfl) (by rfl) T.z9 Boot.«max» (aa ax (aa (bH jV (pv 0) (bH AR ax ax)) ah))) (aa (bH rO (pv 0) ax) (aa ax ah)))))),?_⟩;refine⟨_,rfl,10,18,rfl,rfl,⟨by decide,by decide,by decide⟩,c,_,rfl,rfl,0,_,rfl,?_⟩;refine⟨_,rfl,c,2147483629,rfl,rfl,(show(0:Int)<2147483629 by decide),(show 3≤sizeLine by decide),fun p hp=> ?_⟩;refine q p _ hp ⟨_,_,0,ae,?_,?_,?_,by decide,by decide⟩ (au.upd hp)
  ·split<;>omega
  ·omega
  ·omega
def VB:Sp:=fun vs H Q _=>∃(b:Addr) (n:Int) (k:Nat),vs=[.ref b,.int n]∧cX H b k∧k≤100000∧0<n∧n<1073741824∧
 ∀(r:Int) (H' :Hp),0≤r→r<n→cX H' b (k+1)→xq b H H'→Q (.int r) H'
theorem kc(T:Txt K mg A):aV P w K mg base eJ 1 A.qg A.pW ["_law_box_here","_law_many"] VB:=by
 refine T.bT.ok ki (fun vs H Q E h=> ?_) (fun cG Ar outer s H vs Q E hr h=> ?_)
 ·obtain⟨b,n,k,rfl,_⟩:=h;rfl
 ·obtain⟨b,n,k,rfl,⟨x,y,z,hb,hx,hy,NR,hz,hz2⟩,hk,hn,W2,q⟩:=h;refine⟨_,(ak (cg (bc JA (bC bp (pv 0) ax (fun _ _=>rfl)) ax (bu _)) (ak (a_ (i:=2) ki.nd rfl (Or.inl rfl) (bH rO (bC bp (pv 0) ax (fun _ _=>rfl)) (pv 1))) (ak (nG (bH ur (bC bp (pv 0) ax (fun _ _=>rfl)) (pv 1)) (oA (pv 0) ax ww)) (aq (aG (pv 2))))) bj) (ak (nG (bH iP (bC bp (pv 0) ax (fun _ _=>rfl)) ax) (oA (pv 0) ax ww)) (ak (a_ (i:=3) ki.nd rfl (Or.inl rfl) (bH rO (bH AR (bH iP (bH iP (bC bp (pv 0) ax (fun _ _=>rfl)) (bH xw ax (bC bp (pv 0) ax (fun _ _=>rfl)))) ax) ax) ax)) (ak (a_ (i:=4) ki.nd rfl (Or.inl rfl) (bH rO (bH AR (bH iP (bH iP (bH ur (pv 3) ax) (bH xw ax (bC bp (pv 0) ax (fun _ _=>rfl)))) ax) ax) ax)) (aq (aG (bH rO (bH iP (bH ur (pv 3) ax) (bH xw ax (bH ur (pv 4) ax))) (pv 1)))))))),?_⟩;refine⟨_,rfl,b,_,_,_,rfl,rfl,bB.of hb,rfl,_,_,rfl,rfl,_,rfl,?_⟩;refine zm (fun h0=> ?_) (fun h0=> ?_)
  ·refine⟨_,rfl,b,_,_,_,rfl,rfl,bB.of hb,rfl,_,rfl,x,n,rfl,rfl,hn,?_⟩;refine⟨_,rfl,b,_,_,_,rfl,rfl,bB.of hb,rfl,_,rfl,x,n,rfl,rfl,⟨hn,W2⟩,?_⟩;refine⟨_,rfl,b,_,0,0,rfl,rfl,hb,rfl,?_⟩;refine⟨_,rfl,q _ _ (Int.emod_nonneg _ (by omega)) (Int.emod_lt_of_pos _ hn) ⟨_,y,z,ae,Int.ediv_nonneg hx (by omega),hy,NR,hz,by omega⟩ xq.upd⟩
  ·refine⟨_,rfl,b,_,_,_,rfl,rfl,bB.of hb,rfl,z,1,rfl,rfl,?_⟩;refine⟨_,rfl,b,_,2,2,rfl,rfl,hb,rfl,?_⟩;have yn :upd H b (.lst [.int x,.int y,.int (z+1)]) b=some (.lst [.int x,.int y,.int (z+1)]):=ae;refine⟨_,rfl,b,_,_,_,rfl,rfl,bB.of yn,rfl,_,rfl,b,_,_,_,rfl,rfl,bB.of yn,rfl,7919,z+1,rfl,rfl,.inl ⟨by decide,by decide⟩,y,_,rfl,rfl,_,29,rfl,rfl,_,5,rfl,rfl,⟨by decide,by decide,?_⟩,_,2147483647,rfl,rfl,(show(0:Int)<2147483647 by decide),?_⟩
   ·omega
   dsimp only;generalize e1:(y+7919*(z+1)+29) ^ (5:Int).toNat % 2147483647=one;have b1:0≤one:=by rw[←e1];exact Int.emod_nonneg _ (by decide)
   have b2:one<2147483647:=by rw[←e1];exact Int.emod_lt_of_pos _ (by decide)
   refine⟨_,rfl,one,8,rfl,rfl,⟨by decide,by decide⟩,_,rfl,b,_,_,_,rfl,rfl,bB.of yn,rfl,104729,z+1,rfl,rfl,.inl ⟨by decide,by decide⟩,_,_,rfl,rfl,_,3,rfl,rfl,_,3,rfl,rfl,⟨by decide,by decide,?_⟩,_,2147483629,rfl,rfl,(show(0:Int)<2147483629 by decide),?_⟩
   ·omega
   dsimp only;generalize e2:(one / 8+104729*(z+1)+3) ^ (3:Int).toNat % 2147483629=other;have b3:0≤other:=by rw[←e2];exact Int.emod_nonneg _ (by decide)
   have b4:other<2147483629:=by rw[←e2];exact Int.emod_lt_of_pos _ (by decide)
   refine⟨_,rfl,one,4,rfl,rfl,⟨by decide,by decide⟩,_,rfl,other,4,rfl,rfl,⟨by decide,by decide⟩,536870909,_,rfl,rfl,.inl ⟨by decide,by decide⟩,_,_,rfl,rfl,_,rfl,_,n,rfl,rfl,hn,?_⟩;exact q _ _ (Int.emod_nonneg _ (by omega)) (Int.emod_lt_of_pos _ hn) ⟨x,y,z+1,ae,hx,hy,NR,by omega,by omega⟩ xq.upd
abbrev kH:wp:=Sum.inr "holders"
abbrev kT:wp:=Sum.inr "takers"
theorem kHT:¬kH=kT:=by decide+kernel
abbrev kL:wp:=Sum.inr "limit"
abbrev kP:wp:=Sum.inr "top"
abbrev kW:wp:=Sum.inr "ways"
abbrev kC:wp:=Sum.inr "cells"
structure MX where
 li:V
 tp:V
 wl:V
 ca:V
def qV(ha tk:Addr)(z:MX):bK:=[(kH,.ref ha),(kT,.ref tk),(kL,z.li),(kP,z.tp),(kW,z.wl),(kC,z.ca)]
theorem YO(ha tk:Addr)(z:MX):bA (qV ha tk z) kH=some (.ref ha):=b_ rfl
theorem YX(ha tk:Addr)(z:MX):bA (qV ha tk z) kT=some (.ref tk):=(br kHT).trans (b_ rfl)
theorem aaD(ha tk:Addr)(z:MX):bA (qV ha tk z) kL=some z.li:=((br (show ¬kH=kL by decide+kernel)).trans ((br (show ¬kT=kL by decide+kernel)).trans (b_ rfl)))
theorem aa_(ha tk:Addr)(z:MX):bA (qV ha tk z) kP=some z.tp:=((br (show ¬kH=kP by decide+kernel)).trans ((br (show ¬kT=kP by decide+kernel)).trans ((br (show ¬kL=kP by decide+kernel)).trans (b_ rfl))))
theorem abj(ha tk:Addr)(z:MX):bA (qV ha tk z) kW=some z.wl:=((br (show ¬kH=kW by decide+kernel)).trans ((br (show ¬kT=kW by decide+kernel)).trans ((br (show ¬kL=kW by decide+kernel)).trans ((br (show ¬kP=kW by decide+kernel)).trans (b_ rfl)))))
theorem Rj(ha tk:Addr)(z:MX):bA (qV ha tk z) kC=some z.ca:=((br (show ¬kH=kC by decide+kernel)).trans ((br (show ¬kT=kC by decide+kernel)).trans ((br (show ¬kL=kC by decide+kernel)).trans ((br (show ¬kP=kC by decide+kernel)).trans ((br (show ¬kW=kC by decide+kernel)).trans (b_ rfl))))))
structure fX(H:Hp)(d ha tk:Addr)(ps ts:aP):Prop where
 ob:∃z,H d=some (.dK (qV ha tk z))
 hl:H ha=some (.lst (ps.map oV))
 tl:H tk=some (.lst (ts.map oV))
 ne:ha≠tk
theorem fX.same{H H' :Hp}{d ha tk:Addr}{ps ts:aP}(M:fX H d ha tk ps ts)(s:au H H'):fX H' d ha tk ps ts:=⟨M.ob.imp fun _ e=>s _ _ e,s _ _ M.hl,s _ _ M.tl,M.ne⟩
theorem fX.BB{H:Hp}{d ha tk:Addr}{ps ts:aP}(M:fX H d ha tk ps ts):fg H d (.str "holders") (some (.ref ha)):=by
 obtain⟨z,e⟩:=M.ob;have:=fg.k (k:=kH) e;rw[YO] at this;exact this
theorem fX.xk{H:Hp}{d ha tk:Addr}{ps ts:aP}(M:fX H d ha tk ps ts):fg H d (.str "takers") (some (.ref tk)):=by
 obtain⟨z,e⟩:=M.ob;have:=fg.k (k:=kT) e;rw[YX] at this;exact this
def DM:Sp:=fun vs H Q _=>∃d ha tk ps ts,vs=[.ref d]∧fX H d ha tk ps ts∧ts.length≤1000∧∀l H',H l=none→au H H'→H' l=some (.lst ((aQ ts).map nV))→Q (.ref l) H'
theorem fO(T:Txt K mg A):aV P w K mg base eJ 1 A.jS A.jK ["_law_model"] DM:=by
 refine T.dk.ok u_ (fun vs H Q E h=> ?_) (fun cG Ar outer s H vs Q E hr h=> ?_)
 ·obtain⟨d,ha,tk,ps,ts,rfl,_⟩:=h;rfl
 ·obtain⟨d,ha,tk,ps,ts,rfl,M,hle,k⟩:=h;have hu:=dY hr;refine⟨_,(aq (aG (dn (N:=["_law_k","_law_model"]) (k:=1) (js:=[0]) rfl (bQ (by kernel_rfl)) (iZ rfl T.ke (aa (aE aU (by rfl) T.eh Boot.«len» (aa (aN hu (pv 0) aS (fun _ _=>rfl)) ah)) ah)) (fun _ _ _ _ _=>⟨(ba (i:=0) (show(["_law_k","_law_model"]:aX).Nodup by decide+kernel) rfl (Or.inl rfl) (Or.inr rfl)),(AD (bc sJ (bC (qp (K:=K) rfl) (aN hu (pv 1) aS (fun _ _=>rfl)) (pv 0) (fun _ _=>rfl)) dh (bu _))),(pv 0)⟩)))),?_⟩;refine⟨_,rfl,d,_,rfl,M.xk,tk,_,rfl,.inl (bB.of M.tl),_,rfl,?_,?_,?_⟩
  ·omega
  ·rw[List.length_map];omega
  rw[List.length_map,Int.toNat_natCast];have V9:((List.range ts.length).map fun(i:Nat)=>V.int (0+(i:Int))).length=ts.length:=by rw[List.length_map,List.length_range]
  refine eX (fun i=>ts[i]? ==some none) nV (vD 0 ts.length H).g ?_ ?_ fun p H' hp sm hl=>k p H' hp sm ?_
  ·rw[V9];exact Nat.le_trans hle (by decide)
  ·intro i x H' C1 C0 hi sm hx c1 c0;rw[V9] at hi;rw[List.getElem?_map,List.getElem?_range hi] at hx;cases hx;have NQ:ts[i]? =some ts[i]:=by simp[hi]
   have M' :=M.same sm;rw[NQ] at c1 c0;refine⟨(gk.refl _).own (by decide),_,rfl,d,_,rfl,M'.xk,_,rfl,tk,_,_,_,rfl,rfl,bB.of M'.tl,(by rw[Int.zero_add];exact jY NQ),rfl,_,rfl,?_⟩
   cases eo:ts[i] with
   |none=>
    rw[eo] at c1;refine⟨_,rfl,?_⟩;have q:=c1 rfl H' (au.refl H')
    have e:V.int (0+(i:Int))=nV i:=by
     show V.int (0+(i:Int))=V.int (i:Int);rw[Int.zero_add]
    show C1 (V.int (0+(i:Int))) H';rw[e];exact q
   |some n=>
    rw[eo] at c0;exact c0 rfl H' (au.refl H')
  ·rw[V9] at hl;exact hl
theorem FX(m:Nat)(rest:List Nat):IL ((m::rest).map nV) 0=some (nV m):=dD (xs:=(m::rest).map nV) (j:=0) (v:=nV m) rfl
def VE:Sp:=fun vs H Q _=>∃d ha tk ps ts,∃t:Nat,vs=[.ref d,.int t]∧fX H d ha tk ps ts∧WF ps ts∧t<ps.length∧∀l H',H l=none→au H H'→H' l=some (.lst ((ma ps t).map nV))→Q (.ref l) H'
theorem vf(T:Txt K mg A):aV P w K mg base eJ 1 A.sO A.sd ["_law_model","_law_frame"] VE:=by
 refine T.sC.ok pZ (fun vs H Q E h=> ?_) (fun cG Ar outer s H vs Q E hr h=> ?_)
 ·obtain⟨d,ha,tk,ps,ts,t,rfl,_⟩:=h;rfl
 ·obtain⟨d,ha,tk,ps,ts,t,rfl,M,W,eQ,k⟩:=h;have hu:=dY hr;refine⟨_,(ak (a_ (i:=2) pZ.nd rfl (Or.inl rfl) (bO (aa (pv 1) ah))) (ak (C3 PassesOwn.never (bc wu (bC bp (aN hu (pv 0) aS (fun _ _=>rfl)) (bC bp (pv 2) ax (fun _ _=>rfl)) (fun _ _=>rfl)) dh (bu _)) (aq (a_ (i:=2) pZ.nd rfl (Or.inl rfl) (bH Kg (bO (aa (bC bp (aN hu (pv 0) aS (fun _ _=>rfl)) (bC bp (pv 2) ax (fun _ _=>rfl)) (fun _ _=>rfl)) ah)) (pv 2))))) (aq (aG (pv 2))))),?_⟩;refine⟨_,rfl,(show 1≤sizeLine by decide),fun l0 Ct=> ?_⟩
  have K1:(Bn ps t).length≤101:=by
   have:=BG ps t t;have:=W.le;show(AU ps t t).length≤101;omega
  refine⟨fun m σ H' =>∃(c:Nat) (rest:List Nat) (l:Addr) (o:Option Nat),σ=[some (.ref d),some (.int t),some (.ref l)]∧H' l=some (.lst ((c::rest).map nV))∧H l=none∧au H H'∧ps[c]? =some o∧(c::rest).reverse++WX ps o=Bn ps t∧m=c,⟨t,t,[],l0,ps[t],rfl,ae,Ct,au.upd Ct,by simp[eQ],?_,rfl⟩,?_⟩
  ·exact(tG W (by simp[eQ])).symm
  ·rintro m σ H' ⟨c,rest,l,o,rfl,hl,hlH,sm,hc,hup,rfl⟩
   have M' :=M.same sm;refine⟨_,rfl,d,_,rfl,M'.BB,_,rfl,l,_,_,_,rfl,rfl,bB.of hl,FX _ _,ha,_,_,_,rfl,rfl,bB.of M'.hl,jY hc,rfl,_,rfl,?_⟩
   cases o with
   |none=>
    refine⟨_,rfl,k l H' hlH sm ?_⟩;have e:(m::rest).reverse=Bn ps t:=by simpa[WX] using hup
    have e2:m::rest=ma ps t:=by
     show m::rest=(Bn ps t).reverse;rw[←e,List.reverse_reverse]
    rw[hl,e2]
   |some j=>
    have hjm:j<m∧j<ps.length:=by
     have hml:m<ps.length:=(List.getElem?_eq_some_iff.mp hc).1
     cases m with
     |zero=>rw[W.root] at hc;cases hc
     |succ g=>
      obtain⟨i',e',ym⟩:=W.par (g+1) (by omega) hml;rw[e'] at hc;cases hc;exact⟨ym,by omega⟩
    have hxj:ps[j]? =some ps[j]:=by simp[hjm.2]
    have Y6:(m::rest).reverse++Bn ps j=Bn ps t:=hup
    have hlen:(m::rest).length≤101:=by
     have e1:((m::rest).reverse++Bn ps j).length≤101:=by rw[Y6];exact K1
     rw[List.length_append,List.length_reverse] at e1;omega
    refine⟨_,fun cK H' h=>h,?_⟩;refine⟨_,rfl,d,_,rfl,M'.BB,_,rfl,l,_,_,_,rfl,rfl,bB.of hl,FX _ _,ha,_,_,_,rfl,rfl,bB.of M'.hl,jY hc,(show 1≤sizeLine by decide),fun p1 h1=> ?_⟩;have s1:=au.upd (o:= .lst [oV (some j)]) h1;refine⟨_,rfl,p1,l,_,_,rfl,rfl,ae,s1 _ _ hl,?_,fun p2 h2=> ?_⟩
    ·rw[List.length_map];exact Nat.le_trans (show 1+(m::rest).length≤200 by omega) (by decide)
    have s2:=au.upd (o:= .lst ([oV (some j)]++(m::rest).map nV)) h2;refine⟨j,hjm.1,j,m::rest,p2,ps[j],rfl,?_,sm.free (s1.free h2),sm.trans (s1.trans s2),hxj,?_,rfl⟩
    ·rw[ae];rfl
    ·rw[List.reverse_cons,List.append_assoc,←Y6,tG W hxj];rfl
theorem fX.apart{H:Hp}{d ha tk:Addr}{ps ts:aP}(M:fX H d ha tk ps ts):d≠ha∧d≠tk:=let⟨_,e⟩:=M.ob;⟨aJ e M.hl (by intro z;cases z),aJ e M.tl (by intro z;cases z)⟩
def Nv:Sp:=fun vs H Q _=>∃d ha tk ps ts,∃t:Nat,vs=[.ref d,.int t]∧fX H d ha tk ps ts∧ps.length≤100∧ts.length≤100∧
 ∀H',fX H' d ha tk (ps++[some t]) (ts++[none])→jF ha tk H H'→Q (.int ps.length) H'
theorem zx(T:Txt K mg A):aV P w K mg base eJ 1 A.ph A.oE ["_law_model","_law_frame"] Nv:=by
 refine T.tR.ok yO (fun vs H Q E h=> ?_) (fun cG Ar outer s H vs Q E hr h=> ?_)
 ·obtain⟨d,ha,tk,ps,ts,t,rfl,_⟩:=h;rfl
 ·obtain⟨d,ha,tk,ps,ts,t,rfl,M,hle,agS,k⟩:=h;have hu:=dY hr;obtain⟨n1,n2⟩:=M.apart;refine⟨_,(ak (aY (vC plainAttrs_list PySem.F.slot_list_append PySem.F.type_list_append eW (aN hu (pv 0) aS (fun _ _=>rfl)) (aa (pv 1) ah))) (ak (aY (vC plainAttrs_list PySem.F.slot_list_append PySem.F.type_list_append eW (aN hu (pv 0) aS (fun _ _=>rfl)) (aa dh ah))) (aq (aG (bH jV (aE aU (by rfl) T.eh Boot.«len» (aa (aN hu (pv 0) aS (fun _ _=>rfl)) ah)) ax))))),?_⟩;refine⟨_,rfl,d,_,rfl,M.BB,.inl ⟨rfl,_,bB.of M.hl⟩,_,rfl,ha,_,_,rfl,rfl,M.hl,?_,?_⟩
  ·rw[List.length_map];exact Nat.lt_of_le_of_lt hle (by decide)
  have e1:ps.map oV++[V.int (t:Int)]=(ps++[some t]).map oV:=by rw[List.map_append];rfl
  rw[e1];have M1:fX (upd H ha (.lst ((ps++[some t]).map oV))) d ha tk (ps++[some t]) ts:=⟨M.ob.imp fun _ e=>by rw[af n1];exact e,ae,by rw[af M.ne.symm];exact M.tl,M.ne⟩;refine⟨_,rfl,d,_,rfl,M1.xk,.inl ⟨rfl,_,bB.of M1.tl⟩,tk,_,_,rfl,rfl,M1.tl,?_,?_⟩
  ·rw[List.length_map];exact Nat.lt_of_le_of_lt agS (by decide)
  have e2:ts.map oV++[V.bJ]=(ts++[none]).map oV:=by rw[List.map_append];rfl
  rw[e2];have M2:fX (upd (upd H ha (.lst ((ps++[some t]).map oV))) tk (.lst ((ts++[none]).map oV))) d ha tk (ps++[some t]) (ts++[none]):=⟨by rw[af n2];exact M1.ob,by rw[af M.ne];exact M1.hl,ae,M.ne⟩;refine⟨_,rfl,d,_,rfl,M2.BB,ha,_,rfl,.inl (bB.of M2.hl),_,1,rfl,rfl,?_⟩
  have e3:(((List.map oV (ps++[some t])).length:Int) - 1)=(ps.length:Int):=by
   rw[List.length_map,List.length_append];show((ps.length+1:Nat):Int) - 1=_;omega
  show Q (V.int (((List.map oV (ps++[some t])).length:Int) - 1)) _;rw[e3];refine k _ M2 fun c o h1 h2 e=> ?_;rw[af h2,af h1];exact e
def HD:Sp:=fun vs H Q _=>∃d ha tk ps ts,∃t:Nat,vs=[.ref d,.int t]∧fX H d ha tk ps ts∧WF ps ts∧
 ∀l H',H l=none→H' l=some (.lst ((iQ ps ts t).map nV))→fX H' d ha tk ps (xz t (iQ ps ts t) ts)→jF ha tk H H'→Q (.ref l) H'
theorem w_(T:Txt K mg A):aV P w K mg base eJ 2 A.mE A.lZ ["_law_model","_law_frame"] HD:=by
 have cn:=fO (P:=P) (w:=w) (base:=base) T;have sy:=vf (P:=P) (w:=w) (base:=base) T;refine T.rf.ok kR (fun vs H Q E h=> ?_) (fun cG Ar outer s H vs Q E hr h=> ?_)
 ·obtain⟨d,ha,tk,ps,ts,t,rfl,_⟩:=h;rfl
 ·obtain⟨d,ha,tk,ps,ts,t,rfl,M,W,k⟩:=h;have hu:=dY hr;have hl:=W.len;obtain⟨n1,n2⟩:=M.apart;refine⟨_,(ak (FQ (i:=2) kR.nd rfl (Or.inl rfl) (N:=["_law_k","_law_frame","_law_model"]) (k:=1) (js:=[1,0]) rfl (bQ (by kernel_rfl)) (cy (Mn (ay cn hr rfl T.eV T.dk.kp T.eL .nil aw (aa (pv 0) ah)) (RW J7 ax))) (fun _ _ _ _ _=>⟨(ba (i:=0) (show(["_law_k","_law_frame","_law_model"]:aX).Nodup by decide+kernel) rfl (Or.inl rfl) (Or.inr rfl)),(AD (bc (xt (K:=K) rfl) (pv 1) (ay sy hr rfl T.xh T.sC.kp T.wF .nil aw (aa (pv 2) (aa (pv 0) ah))) (by with_unfolding_all rfl))),(pv 0)⟩)) (ak (gR PassesOwn.never rfl (cy (pv 2)) (ba (i:=3) kR.nd rfl (Or.inl rfl) (Or.inl rfl)) (aq (nG (pv 1) (oA (aN hu (pv 0) aS (fun _ _=>rfl)) (pv 3) ww)))) (aq (aG (pv 2))))),?_⟩;refine⟨_,rfl,d,ha,tk,ps,ts,rfl,M,by have:=W.le;omega,fun sl H1 Q2 s1 Hh=> ?_⟩;refine⟨1,rfl,_,rfl,sl,_,rfl,rfl,bB.of Hh,fun rl Sg=> ?_⟩;have Zb :=s1.trans (au.upd (o:= .lst ((aQ ts).map nV).reverse) Sg);have hS:((aQ ts).map nV).reverse=(aQ ts).reverse.map nV:=by rw[List.map_reverse]
  have hR:upd H1 rl (.lst ((aQ ts).map nV).reverse) rl=some (.lst ((aQ ts).reverse.map nV)):=by rw[ae,hS]
  have M1:=M.same Zb;generalize upd H1 rl (.lst ((aQ ts).map nV).reverse)=H1' at Zb hR M1;refine⟨rl,rfl,⟨_,bB.of hR⟩,?_⟩;have VR:((aQ ts).reverse.map nV).length=(aQ ts).reverse.length:=by rw[List.length_map]
  refine eX (fun i=>decide (t∈ma ps ((aQ ts).reverse.getD i 0))) (fun i=>nV ((aQ ts).reverse.getD i 0)) (cV (bB.of hR)).g ?_ ?_ fun l H2 m6 s2 hL=> ?_
  ·rw[VR,List.length_reverse];refine Nat.le_trans (List.length_filter_le _ _) ?_;rw[List.length_range];have:=W.le;exact Nat.le_trans (show ts.length≤101 by omega) (by decide)
  ·intro i x H' C1 C0 hi sm hx c1 c0;rw[List.getElem?_map] at hx
   cases en:(aQ ts).reverse[i]? with
   |none=>rw[en] at hx;cases hx
   |some n=>
    rw[en] at hx;cases hx;have ed:(aQ ts).reverse.getD i 0=n:=by rw[List.getD_eq_getElem?_getD,en];rfl
    have hn:n<ps.length:=by
     have:=xA (List.mem_reverse.mp (List.mem_of_getElem? en));omega
    rw[ed] at c1 c0;have M' :=M1.same sm;refine⟨(gk.refl _).own (by decide),_,rfl,_,rfl,_,rfl,d,ha,tk,ps,ts,n,rfl,M',W,hn,fun rl H3 Sg s3 hr3=> ?_⟩;refine⟨rl,_,rfl,.inl (bB.of hr3),rfl,GI _,_,rfl,?_⟩;have e:Se (V.int (t:Int)) ((ma ps n).map nV)=decide (t∈ma ps n):=KY t _;show if Se (V.int (t:Int)) ((ma ps n).map nV)=true then _ else _
    rw[e]
    cases hd:decide (t∈ma ps n) with
    |true=>exact ka ⟨_,rfl,c1 hd H3 s3⟩
    |false=>exact g9 (c0 hd H3 s3)
  ·rw[VR] at hL
   have hL:H2 l=some (.lst ((iQ ps ts t).map nV)):=by
    rw[hL];exact congrArg (fun z=>some (HO.lst z)) (ua (aQ ts).reverse (fun n=>decide (t∈ma ps n)) nV)
   have Ir:=Zb.trans s2;have M2:=M.same Ir
   have eQ:l≠tk:=fun z=>by
    have:=Zb _ _ M.tl;rw[←z,m6] at this;cases this
   have Ct:H l=none:=Zb.free m6;refine⟨_,rfl,l,rfl,⟨_,bB.of hL⟩,?_⟩;refine gr (K:=K) (a:=l) (xs:=(iQ ps ts t).map nV) (fun i σ H3=>∃(x:Option V),σ=[some (.ref d),some (.int t),some (.ref l),x]∧H3=upd H2 tk (.lst ((xz t ((iQ ps ts t).take i) ts).map oV))) ⟨none,rfl,?_⟩ ?_ ?_ ?_
   ·show H2=upd H2 tk (.lst (ts.map oV))
    funext c
    by_cases hc:c=tk
    ·subst hc;rw[ae];exact M2.tl
    ·rw[af hc]
   ·rintro i σ H3 _ ⟨x,rfl,rfl⟩
    exact bB.of (by rw[af eQ];exact hL)
   ·rintro i x σ H3 hi ⟨x',rfl,rfl⟩
    rw[List.getElem?_map] at hi
    cases en:(iQ ps ts t)[i]? with
    |none=>rw[en] at hi;cases hi
    |some n=>
     rw[en] at hi;cases hi;have hn:=MB (List.mem_of_getElem? en);have M3:fX (upd H2 tk (.lst ((xz t ((iQ ps ts t).take i) ts).map oV))) d ha tk ps (xz t ((iQ ps ts t).take i) ts):=⟨M2.ob.imp fun _ e=>by rw[af n2];exact e,by rw[af M.ne];exact M2.hl,ae,M.ne⟩;refine⟨_,rfl,_,rfl,d,_,rfl,M3.xk,_,rfl,tk,_,_,n,rfl,rfl,ae,qN (by rw[List.length_map,pY];exact hn),?_⟩;refine⟨_,rfl,?_⟩;rw[wx]
     have e1:(iQ ps ts t).take (i+1)=(iQ ps ts t).take i++[n]:=by
      rw[List.take_add_one,en];rfl
     rw[e1,ve,←xn]
   ·rintro σ H3 ⟨x,rfl,rfl⟩
    rw[List.length_map,List.take_length];refine⟨_,rfl,k l _ Ct (by rw[af eQ];exact hL) ⟨M2.ob.imp fun _ e=>by rw[af n2];exact e,by rw[af M.ne];exact M2.hl,ae,M.ne⟩ fun c o h1 h2 e=> ?_⟩;rw[af h2];exact Ir c o e
end
def oD:Option Nat→PyData
 |none=> .none
 |some n=> .int n
theorem ku(H:Hp):∀xs:aP,DatAll H (xs.map oV) (xs.map oD)
 |[]=> .nil
 |none::r=> .cons .bJ (ku H r)
 |some n::r=> .cons (.int n) (ku H r)
theorem HW{n:Nat}(h:n≤1000):(n:Int).natAbs.log2<1920:=by
 have h1:(n:Int).natAbs=n:=Int.natAbs_natCast n;rw[h1];have:=Nat.log2_le_self n;omega
theorem X6(S:List Nat):S.map nV=(S.map some).map oV:=by
 rw[List.map_map];rfl
abbrev Rm:=List (Nat×Nat)
def cS(R:Rm)(n:Nat):Nat:=((R.filter fun r=>r.1==n).map (·.2)).sum
def LA(ts:aP)(R:Rm):Nat:=((aQ ts).map (cS R)).sum
def bg(ts:aP)(R:Rm):Nat:=((R.filter fun r=>ts[r.1]? ==some none).map (·.2)).sum
theorem jaj(S:List Nat)(f g:Nat→Nat):(S.map fun n=>f n+g n).sum=(S.map f).sum+(S.map g).sum:=by
 induction S with
 |nil=>rfl
 |cons a S ih=>
  simp only[List.map_cons,List.sum_cons,ih];omega
theorem GB(a b:Nat):∀S:List Nat,S.Nodup→(S.map fun n=>if a==n then b else 0).sum=if a∈S then b else 0
 |[],_=>by simp
 |c::S,h=>by
  obtain⟨h1,h2⟩:=List.nodup_cons.mp h;rw[List.map_cons,List.sum_cons,GB a b S h2];by_cases e:a=c
  ·subst e;rw[if_neg h1];simp
  ·have:(a==c)=false:=by simpa using e
   rw[this];simp[e]
theorem JJ(n:Nat):cS [] n=0:=rfl
theorem u3(r:Nat×Nat)(R:Rm)(n:Nat):cS (r::R) n=(if r.1==n then r.2 else 0)+cS R n:=by
 unfold cS;rw[List.filter_cons];cases r.1==n<;>simp
theorem DB(ts:aP):(aQ ts).Nodup:=List.Pairwise.filter _ List.nodup_range
theorem fT{ts:aP}{n:Nat}:n∈aQ ts↔(ts[n]? ==some none)=true:=by
 rw[G3];unfold c_;rw[decide_eq_true (show(0:Int)≤n by omega),Bool.true_and,Int.toNat_natCast]
theorem GN(ts:aP):∀R:Rm,LA ts R=bg ts R
 |[]=>by
  unfold LA bg;simp only[JJ,List.filter_nil,List.map_nil,List.sum_nil]
  induction aQ ts with
  |nil=>rfl
  |cons a S ih=>
   rw[List.map_cons,List.sum_cons,ih];rfl
 |r::R=>by
  have ih:=GN ts R
  have e:(aQ ts).map (cS (r::R))=(aQ ts).map fun n=>(if r.1==n then r.2 else 0)+cS R n:=by
   congr 1
   funext n
   exact u3 r R n
  unfold LA at ih ⊢;rw[e,jaj,GB _ _ _ (DB ts),ih];unfold bg;rw[List.filter_cons];by_cases q:(ts[r.1]? ==some none)=true
  ·rw[if_pos (fT.mpr q),q];simp
  ·rw[if_neg (fun z=>q (fT.mp z))];simp only[Bool.not_eq_true] at q;rw[q];simp
theorem HQ(R:Rm)(t k n:Nat):cS (R++[(t,k)]) n=cS R n+(if t==n then k else 0):=by
 unfold cS;rw[List.filter_append,List.map_append,List.sum_append]
 congr 1
 cases e:t==n<;>simp[e]
theorem kG{ts:aP}(R:Rm){t:Nat}(k:Nat)(h:ts[t]? =some none):bg ts (R++[(t,k)])=bg ts R+k:=by
 unfold bg;rw[List.filter_append,List.map_append,List.sum_append]
 congr 1
 simp[h]
theorem Gk{R:Rm}(h:∀r∈R,r.2≤6)(n:Nat):cS R n≤6*R.length:=by
 induction R with
 |nil=>simp[cS]
 |cons r R ih=>
  have h1:=ih fun r hr=>h r (List.mem_cons_of_mem _ hr);have h2:=h r List.mem_cons_self;rw[u3,List.length_cons]
  split<;>omega
theorem Co(ts:aP){R:Rm}(h:∀r∈R,r.1<ts.length):bg (ts++[none]) R=bg ts R:=by
 unfold bg
 congr 2
 refine List.filter_congr fun r hr=> ?_;rw[List.getElem?_append_left (h r hr)]
theorem rE{α:Type}(p q:α→Bool)(f:α→Nat):∀R:List α,(∀r∈R,p r=true→q r=true)→((R.filter p).map f).sum≤((R.filter q).map f).sum
 |[],_=>by simp
 |r::R,h=>by
  have ih:=rE p q f R fun x hx=>h x (List.mem_cons_of_mem _ hx);have h1:=h r List.mem_cons_self;rw[List.filter_cons,List.filter_cons]
  cases hp:p r with
  |true=>rw[h1 hp];simpa using ih
  |false=>
   cases q r with
   |true=>simp only[Bool.false_eq_true,if_false,if_true,List.map_cons,List.sum_cons];omega
   |false=>simpa using ih
theorem zS{t:Nat}:∀(E:List Nat) (ts:aP) (i:Nat),(xz t E ts)[i]? =some none→ts[i]? =some none
 |[],ts,i,h=>h
 |n::r,ts,i,h=>by
  have h1:=zS r (ts.set n (some t)) i h;rw[List.getElem?_set] at h1
  split at h1
  ·split at h1<;>cases h1
  ·exact h1
theorem A2(t:Nat)(E:List Nat)(ts:aP)(R:Rm):bg (xz t E ts) R≤bg ts R:=by
 refine rE _ _ _ R fun r _ h=> ?_;rw[zS E ts r.1 (eq_of_beq h)];rfl
theorem Jm(S:List Nat)(f:Nat→Nat):(S.map fun n=>((f n:Nat):Int)).sum=(((S.map f).sum:Nat):Int):=by
 induction S with
 |nil=>rfl
 |cons a S ih=>
  simp only[List.map_cons,List.sum_cons,ih];omega
theorem jA{H:Hp}{a c:Addr}{o:HO}(z:c=a):upd H a o c=some o:=by
 rw[z];exact ae
theorem vh{α:Type}(S:List α)(z:α):S=(List.range S.length).map fun i=>S.getD i z:=by
 apply List.ext_getElem?;intro i;rw[List.getElem?_map];by_cases h:i<S.length
 ·rw[List.getElem?_range h];simp[List.getD_eq_getElem?_getD,h]
 ·rw[List.getElem?_eq_none (by omega),List.getElem?_eq_none (by rw[List.length_range];omega)];rfl
theorem l_{α β:Type}(S:List α)(z:α)(p:α→Bool)(g:α→β):((List.range S.length).filter fun i=>p (S.getD i z)).map (fun i=>g (S.getD i z))=(S.filter p).map g:=by
 conv=>rhs;rw[vh S z]
 rw[List.filter_map,List.map_map];rfl
def bW(R:Rm)(t:Nat):List Nat:=(List.range R.length).filter fun i=>(R.getD i (0,0)).1==t
theorem OY(R:Rm)(t:Nat):((bW R t).map fun i=>(R.getD i (0,0)).2).sum=cS R t:=by
 unfold bW cS;rw[l_ R (0,0) (fun r=>r.1==t) (fun r=>r.2)]
theorem jQ{R:Rm}{t i:Nat}(h:i∈bW R t):i<R.length:=List.mem_range.mp (List.mem_filter.mp h).1
theorem qM(R:Rm)(t:Nat):(bW R t).length≤R.length:=by
 unfold bW;refine Nat.le_trans (List.length_filter_le _ _) ?_;rw[List.length_range];exact Nat.le_refl _
def aT(R:Rm)(i:Nat):Nat:=cS (R.take i) (R.getD i (0,0)).1
def bG(R:Rm)(rs:aZ)(n:Nat):bK:=(bW R n).map fun i=>(Sum.inl (aT R i:Int),V.ref (rs.getD i 0))
structure HA where
 f:Addr
 pa:Addr
 ta:Addr
 fa:Addr
 la:Addr
 own:aZ
def Bv(kv:bK):Prop:=∀p∈kv,∃(n:Nat) (b:Addr),p=(.inl (n:Int),.ref b)∧bA kv (.inl (n:Int))=some (.ref b)
theorem Jy{kv:bK}(h:Bv kv){t:Nat}{b:Addr}(hv:bA kv (.inl (t:Int))=none):Bv (v4 kv (.inl (t:Int)) (.ref b)):=by
 intro p hp;rw[tK _ hv] at hp;rcases List.mem_append.mp hp with hp|hp
 ·obtain⟨n,c,e1,e2⟩:=h p hp;refine⟨n,c,e1,?_⟩;rw[fF,if_neg (fun q=> ?_)]
  ·exact e2
  ·rw[q,hv] at e2;cases e2
 ·have hp:p=(.inl (t:Int),.ref b):=by simpa using hp
  exact⟨t,b,hp,by rw[fF,if_pos rfl]⟩
structure aF(C:Addr)(H:Hp)(a:HA)(ps ts:aP)(L pk:Nat)(R:Rm)(N:Nat)(rs:aZ)(cs:dO):Prop where
 ob:∃dx,H a.f=some (.ins C dx (dG a.pa a.ta ⟨.int L,.ref a.fa,.ref a.la,.int pk⟩))
 pl:H a.pa=some (.lst (ps.map oV))
 tl:H a.ta=some (.lst (ts.map oV))
 ne:a.pa≠a.ta
 fl:∃kv,H a.fa=some (.dK kv)∧(kv.length≤N∧Bv kv)∧(∀n:Nat,(bA kv (.inl (n:Int))=none∧bW R n=[])∨∃b,bA kv (.inl (n:Int))=some (.ref b)∧b∈a.own∧b≠a.fa∧b≠a.la∧H b=some (.dK (bG R rs n)))∧∀(n n' :Nat) (b:Addr),bA kv (.inl (n:Int))=some (.ref b)→bA kv (.inl (n' :Int))=some (.ref b)→n=n'
 ln:∃kv,H a.la=some (.dK kv)∧kv.length≤N∧∀n:Nat,(bA kv (.inl (n:Int))).getD (.int 0)= .int (cS R n)
 IG:a.fa≠a.la
 rl:rs.length=R.length
 rm:∀(i:Nat) (b:Addr),rs[i]? =some b→b∈a.own∧b≠a.pa∧b≠a.ta∧∃vs,cs[i]? =some vs∧H b=some (.lst vs)
 rn:rs.Nodup
 um:a.f∈a.own∧a.pa∈a.own∧a.ta∈a.own∧a.fa∈a.own∧a.la∈a.own
 al:∀c∈a.own,∃o,H c=some o
section
variable{C:Addr}{H H' :Hp}{a:HA}{ps ts Bk zQ :aP}{L pk:Nat}{R:Rm}{N:Nat}{rs:aZ}{cs:dO}
theorem aF.fr(h:aF C H a ps ts L pk R N rs cs):kj C H a.f a.pa a.ta ps ts:=⟨h.ob.imp fun _ e=>⟨_,e⟩,h.pl,h.tl,h.ne⟩
theorem aF.kept(h:aF C H a ps ts L pk R N rs cs)(k:∀c o,c∈a.own→H c=some o→H' c=some o):aF C H' a ps ts L pk R N rs cs:=by
 obtain⟨⟨dx,ob⟩,pl,tl,ne,⟨kv,f1,f2,f3,f4⟩,⟨kw,l1,l2,l3⟩,IG,rl,rm,rn,⟨o1,o2,o3,o4,o5⟩,al⟩:=h;refine⟨⟨dx,k _ _ o1 ob⟩,k _ _ o2 pl,k _ _ o3 tl,ne,⟨kv,k _ _ o4 f1,f2,fun n=> ?_,f4⟩,⟨kw,k _ _ o5 l1,l2,l3⟩,IG,rl,fun i b e=> ?_,rn,⟨o1,o2,o3,o4,o5⟩,fun c hc=>(al c hc).imp fun o e=>k c o hc e⟩
 ·rcases f3 n with h|⟨b,e1,e2,e3,e4,e5⟩
  ·exact .inl h
  ·exact .inr ⟨b,e1,e2,e3,e4,k _ _ e2 e5⟩
 ·obtain⟨e1,e2,e3,vs,e4,e5⟩:=rm i b e;exact⟨e1,e2,e3,vs,e4,k _ _ e1 e5⟩
theorem aF.same(h:aF C H a ps ts L pk R N rs cs)(s:au H H'):aF C H' a ps ts L pk R N rs cs:=h.kept fun c o _ e=>s c o e
theorem aF.frames(h:aF C H a ps ts L pk R N rs cs)(F:kj C H' a.f a.pa a.ta Bk zQ)(k:jF a.pa a.ta H H'):aF C H' a Bk zQ L pk R N rs cs:=by
 obtain⟨⟨dx,ob⟩,pl,tl,ne,⟨kv,f1,f2,f3,f4⟩,⟨kw,l1,l2,l3⟩,IG,rl,rm,rn,o,al⟩:=h;have dif:∀{c:Addr} {kv:bK},H c=some (.dK kv)→H' c=some (.dK kv):=fun e=>k _ _ (aJ e pl (by intro z;cases z)) (aJ e tl (by intro z;cases z)) e;refine⟨⟨dx,k _ _ (aJ ob pl (by intro z;cases z)) (aJ ob tl (by intro z;cases z)) ob⟩,F.pl,F.tl,ne,⟨kv,dif f1,f2,fun n=> ?_,f4⟩,⟨kw,dif l1,l2,l3⟩,IG,rl,fun i b e=> ?_,rn,o,fun c hc=> ?_⟩
 ·rcases f3 n with h|⟨b,e1,e2,e3,e4,e5⟩
  ·exact .inl h
  ·exact .inr ⟨b,e1,e2,e3,e4,dif e5⟩
 ·obtain⟨e1,e2,e3,vs,e4,e5⟩:=rm i b e;exact⟨e1,e2,e3,vs,e4,k _ _ e2 e3 e5⟩
 ·by_cases z1:c=a.pa
  ·exact⟨_,z1▸F.pl⟩
  ·by_cases z2:c=a.ta
   ·exact⟨_,z2▸F.tl⟩
   ·exact(al c hc).imp fun o e=>k c o z1 z2 e
end
structure Good(ps ts:aP)(L pk:Nat)(R:Rm):Prop where
 W:WF ps ts
 g:ts[0]? =some none
 rw:∀r∈R,1≤r.2∧r.2≤6∧r.1<ps.length
 lo:1≤L
 hi:L≤1000
 use:bg ts R≤L
 pk:pk≤1000
theorem Good.ts{ps ts:aP}{L pk:Nat}{R:Rm}(G:Good ps ts L pk R):ts.length≤101:=by
 have:=G.W.le;have:=G.W.len;omega
theorem ib(ts:aP):(aQ ts).length≤ts.length:=by
 unfold aQ;refine Nat.le_trans (List.length_filter_le _ _) ?_;rw[List.length_range];exact Nat.le_refl _
section
variable{P:Program}{w:World}{K:Frag}{mg:Str→aH}{base:Heap}{A:qH}
def Uz(C:Addr):Sp:=fun vs H Q _=>∃a ps ts L pk R N rs cs,vs=[.ref a.f]∧aF C H a ps ts L pk R N rs cs∧(∀r∈R,r.2≤6)∧R.length≤2000∧ts.length≤101∧∀H',au H H'→Q (.int (bg ts R)) H'
theorem mB(T:Txt K mg A):aV P w K mg base eJ 2 A.nU A.nW ["self"] (Uz A.aj):=by
 have cb:=eB (P:=P) (w:=w) (base:=base) T;refine T.AA.ok zk (fun vs H Q E h=> ?_) (fun cG Ar outer s H vs Q E hr h=> ?_)
 ·obtain⟨a,ps,ts,L,pk,R,N,rs,cs,rfl,_⟩:=h;rfl
 ·obtain⟨a,ps,ts,L,pk,R,N,rs,cs,rfl,F,h6,hR,hT,k⟩:=h;obtain⟨dx,ho⟩:=F.ob;have hu:=dY hr;refine⟨_,(aq (aG (aE (xo rfl) (by rfl) T.C9 Boot.«sum» (aa (dn (N:=["number","self"]) (k:=1) (js:=[0]) rfl (bQ (by kernel_rfl)) (cy (cf (pv 0) T.ar T.ff cb hr T.e8 .nil aw)) (fun _ _ _ _ _=>⟨(ba (i:=0) (show(["number","self"]:aX).Nodup by decide+kernel) rfl (Or.inl rfl) (Or.inr rfl)),zq,(pP hu (PY (K:=K) rfl (pv 1) rfl) (pv 0) ax ⟨rfl,rfl,rfl,rfl⟩)⟩)) ah)))),?_⟩;refine⟨_,rfl,a.f,dx,_,rfl,ho,aB (by decide+kernel),a.f,a.pa,a.ta,ps,ts,rfl,F.fr,by omega,fun sl H1 Q2 s1 Hh=> ?_⟩;refine⟨sl,rfl,⟨_,bB.of Hh⟩,?_⟩;have F1:=F.same s1
  have hle:((aQ ts).map nV).length≤101:=by
   rw[List.length_map];exact Nat.le_trans (ib ts) hT
  refine Ak (fun _=>true) (fun v=>match v with| .int i=> .int (cS R i.toNat)|_=> .bJ) (cV (bB.of Hh)) (Nat.le_trans hle (by decide)) ?_ fun p hp=> ?_
  ·intro i x H' C1 C0 hx sm c1 c0;rw[List.getElem?_map] at hx
   cases en:(aQ ts)[i]? with
   |none=>rw[en] at hx;cases hx
   |some n=>
    rw[en] at hx;cases hx;have F' :=F1.same sm;obtain⟨CD,BO⟩:=F'.ob;obtain⟨kv,l1,l2,l3⟩:=F'.ln;refine⟨(gk.refl _).own (by decide),ka (B:=C0 H') ⟨_,rfl,a.f,A.aj,CD,_,_,rfl,BO,T.ar,T.dj,A6 _ _ _,a.la,rfl,.inl ⟨_,.inl l1⟩,_,rfl,_,fg.k (k:= .inl (n:Int)) l1,?_⟩⟩;have e:=l3 n;have c:=c1 rfl;show C1 ((bA kv (.inl (n:Int))).getD (V.int 0)) H';rw[e];exact c
  ·have el:(((aQ ts).map nV).filter fun _=>true).map (fun v=>match v with| .int i=>V.int (cS R i.toNat)|_=> .bJ)=((aQ ts).map fun n=>((cS R n:Nat):Int)).map V.int:=by
    rw[List.filter_eq_self.mpr (fun _ _=>rfl),List.map_map,List.map_map];rfl
   rw[el];refine⟨p,_,rfl,ae,?_,?_,?_⟩
   ·rw[List.length_map];exact Nat.le_trans (ib ts) (by omega)
   ·intro n hn;obtain⟨m,_,rfl⟩:=List.mem_map.mp hn;have:=Gk h6 m;omega
   ·rw[Jm];have:=k _ (s1.trans (au.upd (o:= .lst (((aQ ts).map fun n=>((cS R n:Nat):Int)).map V.int)) hp));rw[←GN] at this;exact this
def V3(C:Addr):Sp:=fun vs H Q _=>∃a ps ts L pk R N rs cs,vs=[.ref a.f]∧aF C H a ps ts L pk R N rs cs∧(∀r∈R,r.2≤6)∧R.length≤2000∧ts.length≤101∧∀H',au H H'→Q (.int ((L:Int) - (bg ts R:Nat))) H'
theorem rF(T:Txt K mg A):aV P w K mg base eJ 3 A.nB A.og ["self"] (V3 A.aj):=by
 have ir:=mB (P:=P) (w:=w) (base:=base) T;refine T.BF.ok yF (fun vs H Q E h=> ?_) (fun cG Ar outer s H vs Q E hr h=> ?_)
 ·obtain⟨a,ps,ts,L,pk,R,N,rs,cs,rfl,_⟩:=h;rfl
 ·obtain⟨a,ps,ts,L,pk,R,N,rs,cs,rfl,F,h6,hR,hT,k⟩:=h;obtain⟨dx,ho⟩:=F.ob;refine⟨_,(aq (aG (bH jV (b9 (pv 0) rfl) (cf (pv 0) T.ar T.oP ir hr T.nQ .nil aw)))),?_⟩;exact⟨_,rfl,a.f,A.aj,dx,_,_,rfl,ho,T.ar,T.gu,Bw _ _ _,_,rfl,a.f,dx,_,rfl,ho,aB (by decide+kernel),a,ps,ts,L,pk,R,N,rs,cs,rfl,F,h6,hR,hT,fun H' s1=>⟨_,_,rfl,rfl,k H' s1⟩⟩
end
theorem wR(f:Str)(v w:V):∀fs:iN,cu f v (cu f w fs)=cu f v fs
 |[]=>by
  show(if f=f then(f,v)::[] else _)=_;rw[if_pos rfl];rfl
 |(g,x)::r=>by
  show cu f v (if g=f then(g,w)::r else(g,x)::cu f w r)=if g=f then(g,v)::r else(g,x)::cu f v r
  by_cases h:g=f
  ·rw[if_pos h,if_pos h];show(if g=f then(g,v)::r else _)=_;rw[if_pos h]
  ·rw[if_neg h,if_neg h];show(if g=f then _ else(g,x)::cu f v (cu f w r))=_;rw[if_neg h,wR f v w r]
theorem zW(pa ta:Addr)(z:HX)(v:V):cu "peak" v (dG pa ta z)=dG pa ta {z with pk:=v}:=wR _ _ _ _
theorem zL(pa ta:Addr):(lI pa ta).length≤2:=Nat.le_trans (cE _ _ _) (Nat.succ_le_succ (cE _ _ _))
theorem qy(pa ta:Addr)(z:HX):(dG pa ta z).length≤6:=Nat.le_trans (cE _ _ _) (Nat.succ_le_succ (Nat.le_trans (cE _ _ _) (Nat.succ_le_succ (Nat.le_trans (cE _ _ _) (Nat.succ_le_succ (Nat.le_trans (cE _ _ _) (Nat.succ_le_succ (zL pa ta))))))))
section
variable{P:Program}{w:World}{K:Frag}{mg:Str→aH}{base:Heap}{A:qH}
def Ox(C:Addr):Sp:=fun vs H Q _=>∃(p dx:Addr) (L:Nat),vs=[.ref p,.int L]∧H p=some (.ins C dx [])∧1≤L∧L≤1000∧
 ∀a H',a.f=p→(∀c∈a.own,c=p∨H c=none)→aF C H' a [none] [none] L 0 [] 0 [] []→(∀b o,H b=some o→b≠p→H' b=some o)→Q .bJ H'
theorem lH(T:Txt K mg A):aV P w K mg base eJ 3 A.iS A.iW ["self","limit"] (Ox A.aj):=by
 have ek:=jE (P:=P) (w:=w) (base:=base) T;have sR:=(se (P:=P) (w:=w) (base:=base) T).mono (by decide:_≤2);refine T.uD.ok tY (fun vs H Q E h=> ?_) (fun cG Ar outer s H vs Q E hr h=> ?_)
 ·obtain⟨p,dx,L,rfl,_⟩:=h;rfl
 ·obtain⟨p,dx,L,rfl,hp,h1,h2,k⟩:=h;obtain⟨u1,t8⟩:=T.oI;refine⟨_,(ak (cg (fu (eZ (ay ek hr rfl T.lz T.iY.kp T.kN .nil aw (aa (pv 1) (aa ax (aa (n5 rfl t8.2 t8.1) ah)))))) (aq eN) bj) (ak (aY (p9 T.tO rfl T.DI sR hr T.tN .nil aw (aa (pv 0) ah))) (ak (kS (pv 0) (pv 1) rfl) (ak (kS (pv 0) mN rfl) (ak (kS (pv 0) mN rfl) (aq (kS (pv 0) ax rfl))))))),?_⟩;refine⟨_,rfl,(L:Int),1,1000,rfl,_,rfl,?_⟩;rw[decide_eq_true (show(1:Int)≤(L:Int) by omega),decide_eq_true (show(L:Int)≤1000 by omega)];refine g9 ⟨_,rfl,p,dx,rfl,hp,fun pa ta H1 XU hta e1 e2 e3 ZK kp=> ?_⟩;have np1:pa≠p:=aJ e2 e1 (by intro z;cases z);have nt1:ta≠p:=aJ e3 e1 (by intro z;cases z);have axD:=zL pa ta;refine⟨_,rfl,_,rfl,p,A.aj,dx,_,rfl,e1,T.ar,T.gu,by omega,fun fa UI=> ?_⟩;have nf:fa≠p:=(ag ae UI).symm;have O4:H1 fa=none:=by rw[af nf] at UI;exact UI
  have npf:pa≠fa:=ag e2 O4;have ntf:ta≠fa:=ag e3 O4;have azg:=cE "bound" (.int L) (lI pa ta);refine⟨_,rfl,p,A.aj,dx,_,rfl,(by rw[af nf.symm,ae]),T.ar,T.cA,by omega,fun la QL=> ?_⟩;have nl:la≠p:=(ag ae QL).symm;have Wr:upd (upd H1 p (.ins A.aj dx (cu "bound" (.int L) (lI pa ta)))) fa (.dK []) la=none:=by rw[af nl] at QL;exact QL
  have Xd:la≠fa:=(ag ae Wr).symm;have Qs:H1 la=none:=by rw[af Xd,af nl] at Wr;exact Wr
  have npl:pa≠la:=ag e2 Qs;have ntl:ta≠la:=ag e3 Qs;have acj:=cE "floors" (.ref fa) (cu "bound" (.int L) (lI pa ta));refine⟨_,rfl,p,A.aj,dx,_,rfl,(by rw[af nl.symm,ae]),T.ar,T.dj,by omega,?_⟩;have ZZ:=cE "lengths" (.ref la) (cu "floors" (.ref fa) (cu "bound" (.int L) (lI pa ta)));refine⟨_,rfl,p,A.aj,dx,_,rfl,ae,T.ar,T.fV,by omega,?_⟩
  have old:∀c,H1 c=none→c=p∨H c=none:=fun c e=>by
   by_cases z:c=p
   ·exact .inl z
   ·refine .inr ?_
    cases q:H c with
    |none=>rfl
    |some o=>rw[kp c o q z] at e;cases e
  generalize FP:upd (upd (upd (upd (upd (upd H1 p (.ins A.aj dx (cu "bound" (.int L) (lI pa ta)))) fa (.dK [])) p (.ins A.aj dx (cu "floors" (.ref fa) (cu "bound" (.int L) (lI pa ta))))) la (.dK [])) p (.ins A.aj dx (cu "lengths" (.ref la) (cu "floors" (.ref fa) (cu "bound" (.int L) (lI pa ta)))))) p (.ins A.aj dx (cu "peak" (.int 0) (cu "lengths" (.ref la) (cu "floors" (.ref fa) (cu "bound" (.int L) (lI pa ta))))))=H6
  have q1:H6 p=some (.ins A.aj dx (dG pa ta ⟨.int L,.ref fa,.ref la,.int (0:Nat)⟩)):=by
   rw[←FP];exact ae
  have q2:H6 pa=some (.lst [.bJ]):=by
   rw[←FP,af np1,af np1,af npl,af np1,af npf,af np1];exact e2
  have q3:H6 ta=some (.lst [.bJ]):=by
   rw[←FP,af nt1,af nt1,af ntl,af nt1,af ntf,af nt1];exact e3
  have q4:H6 fa=some (.dK []):=by
   rw[←FP,af nf,af nf,af Xd.symm,af nf,ae]
  have q5:H6 la=some (.dK []):=by
   rw[←FP,af nl,af nl,ae]
  refine k ⟨p,pa,ta,fa,la,[p,pa,ta,fa,la]⟩ _ rfl ?_ ⟨⟨dx,q1⟩,q2,q3,ZK,⟨[],q4,⟨Nat.le_refl _,fun _ z=>nomatch z⟩,fun n=> .inl ⟨rfl,rfl⟩,(fun n n' b e=>by cases e)⟩,⟨[],q5,Nat.le_refl _,fun n=>rfl⟩,Xd.symm,rfl,(fun i b e=>by cases e),.nil,(by simp),fun c hc=> ?_⟩ fun b o e hb=> ?_
  ·intro c hc;simp only[List.mem_cons,List.not_mem_nil,or_false] at hc;rcases hc with rfl|rfl|rfl|rfl|rfl
   ·exact .inl rfl
   ·exact .inr XU
   ·exact .inr hta
   ·exact old _ O4
   ·exact old _ Qs
  ·simp only[List.mem_cons,List.not_mem_nil,or_false] at hc;rcases hc with rfl|rfl|rfl|rfl|rfl
   ·exact⟨_,q1⟩
   ·exact⟨_,q2⟩
   ·exact⟨_,q3⟩
   ·exact⟨_,q4⟩
   ·exact⟨_,q5⟩
  ·have b1:=kp b o e hb;rw[←FP,af hb,af hb,af (ag b1 Qs),af hb,af (ag b1 O4),af hb];exact b1
end
theorem FV(n:Nat):(List.replicate n [V.bJ]).flatten=List.replicate n .bJ:=by
 induction n with
 |zero=>rfl
 |succ n ih=>
  rw[List.replicate_succ,List.flatten_cons,ih];rfl
theorem jaf{R:Rm}{x:Nat×Nat}{i:Nat}(h:i<R.length):(R++[x]).take i=R.take i:=by
 rw[List.take_append_of_le_length (by omega)]
theorem zP{R:Rm}{i:Nat}{r:Nat×Nat}(h:R[i]? =some r)(h1:1≤r.2):cS (R.take i) r.1<cS R r.1:=by
 have hi:=(List.getElem?_eq_some_iff.mp h).1
 have e:R=R.take i++(r::R.drop (i+1)):=by
  have:=(List.getElem?_eq_some_iff.mp h).2;rw[←this,List.getElem_cons_drop,List.take_append_drop]
 have:cS R r.1=cS (R.take i) r.1+cS (r::R.drop (i+1)) r.1:=by
  conv=>lhs;rw[e]
  unfold cS;rw[List.filter_append,List.map_append,List.sum_append]
 rw[this,u3];simp;omega
theorem ik{α:Type}{R:List α}{x d:α}{i:Nat}(h:i<R.length):(R++[x]).getD i d=R.getD i d:=by
 rw[List.getD_eq_getElem?_getD,List.getD_eq_getElem?_getD,List.getElem?_append_left h]
theorem wP{α:Type}(R:List α)(x d:α):(R++[x]).getD R.length d=x:=by
 rw[List.getD_eq_getElem?_getD,List.getElem?_append_right (Nat.le_refl _),Nat.sub_self];rfl
theorem dz{α:Type}{R:List α}{i:Nat}(d:α)(h:i<R.length):R[i]? =some (R.getD i d):=by simp[List.getD_eq_getElem?_getD,h]
theorem xP(R:Rm)(t k n:Nat):bW (R++[(t,k)]) n=if t=n then bW R n++[R.length] else bW R n:=by
 unfold bW;rw[List.length_append,List.length_singleton,List.range_succ,List.filter_append]
 have e1:((List.range R.length).filter fun i=>((R++[(t,k)]).getD i (0,0)).1==n)=(List.range R.length).filter fun i=>(R.getD i (0,0)).1==n:=
  List.filter_congr fun i hi=>by rw[ik (List.mem_range.mp hi)]
 rw[e1];by_cases h:t=n
 ·rw[if_pos h,List.filter_cons_of_pos (by rw[wP];simpa using h)];rfl
 ·rw[if_neg h,List.filter_cons_of_neg (by rw[wP];simpa using h)];exact List.append_nil _
theorem oh{R:Rm}{t i:Nat}(h:i∈bW R t):(R.getD i (0,0)).1=t:=by simpa using(List.mem_filter.mp h).2
theorem i8{R:Rm}{x:Nat×Nat}{i:Nat}(h:i<R.length):aT (R++[x]) i=aT R i:=by
 unfold aT;rw[jaf h,ik h]
theorem mG(R:Rm)(t k:Nat):aT (R++[(t,k)]) R.length=cS R t:=by
 unfold aT;rw[List.take_left,wP]
theorem JS{R:Rm}{rs:aZ}(hl:rs.length=R.length){t k n:Nat}{b:Addr}(h:t≠n):bG (R++[(t,k)]) (rs++[b]) n=bG R rs n:=by
 unfold bG;rw[xP,if_neg h];refine List.map_congr_left fun i hi=> ?_;have:=jQ hi;rw[i8 this,ik (by omega)]
theorem Ms{R:Rm}{rs:aZ}(hl:rs.length=R.length)(t k:Nat)(b:Addr):bG (R++[(t,k)]) (rs++[b]) t=bG R rs t++[(.inl (cS R t:Int),.ref b)]:=by
 unfold bG;rw[xP,if_pos rfl,List.map_append,List.map_singleton,mG,←hl,wP]
 congr 1
 refine List.map_congr_left fun i hi=> ?_;have:=jQ hi;rw[i8 this,ik (by omega)]
theorem jab{R:Rm}(hr:∀r∈R,1≤r.2){t i:Nat}(h:i∈bW R t):aT R i<cS R t:=by
 have hi:=jQ h;have e:=dz (0,0) hi;have:=zP e (hr _ (List.mem_of_getElem? e));rw[oh h] at this;unfold aT;rw[oh h];exact this
theorem m_{R:Rm}(hr:∀r∈R,1≤r.2){t i j:Nat}(h:i∈bW R t)(h' :j∈bW R t)(e:aT R i=aT R j):i=j:=by
 have key:∀{i j:Nat},i∈bW R t→j∈bW R t→i<j→aT R i<aT R j:=fun{i j} h h' eQ=>by
  have hi:=jQ h;have hj:=jQ h';have e1:=dz (0,0) hi
  have e2:(R.take j)[i]? =some (R.getD i (0,0)):=by
   rw[List.getElem?_take_of_lt eQ];exact e1
  have:=zP e2 (hr _ (List.mem_of_getElem? e1));rw[List.take_take,Nat.min_eq_left (Nat.le_of_lt eQ),oh h] at this;unfold aT;rw[oh h,oh h'];exact this
 rcases Nat.lt_trichotomy i j with z|z|z
 ·have:=key h h' z;omega
 ·exact z
 ·have:=key h' h z;omega
theorem HL{l:bK}{k:wp}(h:∀p∈l,¬p.1=k):bA l k=none:=by
 induction l with
 |nil=>rfl
 |cons p l ih=>
  rw[br (h p List.mem_cons_self)];exact ih fun q hq=>h q (List.mem_cons_of_mem _ hq)
theorem zF(k:Nat→wp)(v:Nat→V){j:Nat}:∀{l:List Nat},j∈l→(∀i∈l,k i=k j→i=j)→bA (l.map fun i=>(k i,v i)) (k j)=some (v j)
 |i::l,h,inj=>by
  rw[List.map_cons];by_cases z:k i=k j
  ·rw[b_ z,inj i List.mem_cons_self z]
  ·rw[br z];rcases List.mem_cons.mp h with h|h
   ·exact absurd (by rw[h]) z
   ·exact zF k v h fun i hi=>inj i (List.mem_cons_of_mem _ hi)
theorem Hs{R:Rm}(hr:∀r∈R,1≤r.2)(rs:aZ)(t:Nat):bA (bG R rs t) (.inl (cS R t:Int))=none:=by
 refine HL fun p hp z=> ?_;obtain⟨i,hi,rfl⟩:=List.mem_map.mp hp;injection z with z;have:=jab hr hi;omega
theorem Hl{R:Rm}(hr:∀r∈R,1≤r.2)(rs:aZ){t i:Nat}(h:i∈bW R t):bA (bG R rs t) (.inl (aT R i:Int))=some (.ref (rs.getD i 0)):=
 zF (fun i=>Sum.inl (aT R i:Int)) (fun i=>V.ref (rs.getD i 0)) h fun j hj z=>by
  injection z with z;exact m_ hr hj h (by omega)
theorem Aj(R:Rm)(rs:aZ)(t:Nat):(bG R rs t).length≤R.length:=by
 unfold bG;rw[List.length_map];exact qM R t
theorem bY{n:Nat}(h:n≤100000):n<sizeLine:=Nat.lt_of_le_of_lt h (by decide)
def oZ(t p:Nat):az:=[nV t,nV p]
def YF(C:Addr):TS:=fun D σ H=>∃(a:HA) (ps ts:aP) (L pk:Nat) (R:Rm) (N:Nat) (rs:aZ) (cs:dO) (t n:Nat) (x3:Option V) (b:Addr) (kv:bK),σ=[some (.ref a.f),some (.int t),some (.int n),x3,some (.int (cS R t)),some (.ref b)]∧aF C H a ps ts L pk R N rs cs∧cs.length=R.length∧Good ps ts L pk R∧ts[t]? =some none∧1≤n∧n≤6∧R.length≤1000∧N≤10000∧bg ts R+n≤L∧
 H a.fa=some (.dK kv)∧bA kv (.inl (t:Int))=some (.ref b)∧
 ∀r H' l,H r=none→aF C H' {a with own:=r::a.own} ps ts L (max pk (bg ts R+n)) (R++[(t,n)]) (N+1) (rs++[r]) (cs++[List.replicate n .bJ])→(∀c o,¬c∈a.own→H c=some o→H' c=some o)→(∀c xs,H c=some (.tup xs)→H' c=some (.tup xs))→H l=none→H' l=some (.tup (oZ t (cS R t)))→D.rt (.ref l) H'
section
variable{P:Program}{w:World}{K:Frag}{mg:Str→aH}{base:Heap}{A:qH}
def Ui(C:Addr):Sp:=fun vs H Q _=>∃(a:HA) (ps ts:aP) (L pk:Nat) (R:Rm) (N:Nat) (rs:aZ) (cs:dO) (t n:Nat),vs=[.ref a.f,.int t,.int n]∧aF C H a ps ts L pk R N rs cs∧cs.length=R.length∧Good ps ts L pk R∧ts[t]? =some none∧1≤n∧n≤6∧R.length≤1000∧N≤9000∧bg ts R+n≤L∧
 ∀EK r H' l,aF C H' {a with own:=EK} ps ts L (max pk (bg ts R+n)) (R++[(t,n)]) (N+2) (rs++[r]) (cs++[List.replicate n .bJ])→(∀c∈a.own,c∈EK)→(∀c∈EK,c∈a.own∨H c=none)→(∀c o,¬c∈a.own→H c=some o→H' c=some o)→(∀c xs,H c=some (.tup xs)→H' c=some (.tup xs))→H l=none→H' l=some (.tup (oZ t (cS R t)))→Q (.ref l) H'
theorem rC(T:Txt K mg A):aV P w K mg base eJ 6 A.oq A.nO ["self","frame","size"] (Ui A.aj):=by
 have bE:=cH (P:=P) (w:=w) (base:=base) T;have ek:=(jE (P:=P) (w:=w) (base:=base) T).mono (by decide:_≤5);have oy:=(rF (P:=P) (w:=w) (base:=base) T).mono (by decide:_≤5);have ir:=(mB (P:=P) (w:=w) (base:=base) T).mono (by decide:_≤5);refine T.Bi.ok i7 (fun vs H Q E h=> ?_) (fun cG Ar outer s H vs Q E hr h=> ?_)
 ·obtain⟨a,ps,ts,L,pk,R,N,rs,cs,t,n,rfl,_⟩:=h;rfl
 ·obtain⟨a,ps,ts,L,pk,R,N,rs,cs,t,n,rfl,F,vk,G,uy,n1,n6,hR,hN,hle,k1⟩:=h;have hu:=dY hr;obtain⟨dx,ho⟩:=F.ob;obtain⟨u1,jC⟩:=T.fq
  have fw:c_ ts (t:Int)=true:=by
   unfold c_;rw[decide_eq_true (show(0:Int)≤t by omega),Int.toNat_natCast,uy];rfl
  refine⟨_,(ak (aY (aR (pv 0) T.ar T.cO bE hr T.cQ .nil aw (aa (pv 1) ah))) (ak (cg (fu (eZ (ay ek hr rfl T.lz T.iY.kp T.kN .nil aw (aa (pv 2) (aa ax (aa (n5 rfl jC.2 jC.1) ah)))))) (aq eN) bj) (ak (a_ (i:=3) i7.nd rfl (Or.inl rfl) (cf (pv 0) T.ar T.uf oy hr T.uc .nil aw)) (ak (cg (bc JA (pv 2) (pv 3) (bu _)) (aq eN) bj) (ak (a_ (i:=4) i7.nd rfl (Or.inl rfl) (pP hu (b9 (pv 0) rfl) (pv 1) ax ⟨rfl,rfl,rfl,rfl⟩)) (ak (a_ (i:=5) i7.nd rfl (Or.inl rfl) (LG (b9 (pv 0) rfl) (pv 1) mN ⟨rfl,rfl,rfl,rfl⟩)) (qG (YF A.aj) (ak (pe hu (pv 5) (pv 4) (bH ED (bO (aa dh ah)) (pv 2)) rfl) (ak (pe hu (b9 (pv 0) rfl) (pv 1) (bH iP (pv 4) (pv 2)) rfl) (ak (kS (pv 0) (aE (qL rfl) (by rfl) T.z9 Boot.«max» (aa (b9 (pv 0) rfl) (aa (cf (pv 0) T.ar T.oP ir hr T.nQ .nil aw) ah))) rfl) (aq (aG (nC (aa (pv 1) (aa (pv 4) ah)))))))) ?Wi))))))),?_⟩
  case Wi=>
   rintro D σ H ⟨a,ps,ts,L,pk,R,N,rs,cs,t,n,x3,b,kv,rfl,F,vk,G,uy,n1,n6,hR,hN,hle,Iz,NH,k⟩
   have lB:∀r∈R,1≤r.2:=fun r hr=>(G.rw r hr).1;obtain⟨dx,ho⟩:=F.ob;obtain⟨of,op,ot,NU,ZY⟩:=F.um;obtain⟨kv0,f1,f2,f3,f4⟩:=F.fl
   have ekv:kv0=kv:=by
    rw[Iz] at f1;injection f1 with f1;injection f1 with f1;exact f1.symm
   subst ekv;obtain⟨kl,Xs,l2',l3'⟩:=F.ln
   have UE:b∈a.own∧b≠a.fa∧b≠a.la∧H b=some (.dK (bG R rs t)):=by
    rcases f3 t with h|⟨b',e1,e2,e3,e4,e5⟩
    ·rw[h.1] at NH;cases NH
    ·rw[e1] at NH;injection NH with NH;injection NH with NH;subst NH;exact⟨e2,e3,e4,e5⟩
   obtain⟨bo,bf,bl,hb⟩:=UE;have DP:=Aj R rs t;refine⟨(show 1≤sizeLine by decide),fun l1 Ae=>⟨_,rfl,l1,(n:Int),_,rfl,rfl,ae,by omega,by omega,?_,fun l2 m6=> ?_⟩⟩
   ·show 1*(n:Int).toNat≤sizeLine;exact Nat.le_of_lt (bY (by omega))
   rw[Int.toNat_natCast,FV];have s1:=(au.upd (o:= .lst [V.bJ]) Ae).trans (au.upd (o:= .lst (List.replicate n .bJ)) m6);have hr2:upd (upd H l1 (.lst [V.bJ])) l2 (.lst (List.replicate n .bJ)) l2=some (.lst (List.replicate n .bJ)):=ae;have Em:H l2=none:=(au.upd (o:= .lst [V.bJ]) Ae).free m6;generalize hH2:upd (upd H l1 (.lst [V.bJ])) l2 (.lst (List.replicate n .bJ))=H2 at s1 hr2;refine⟨_,rfl,_,rfl,b,_,rfl,sM.k (k:= .inl (cS R t:Int)) (s1 _ _ hb) (bY (by omega)),?_⟩;have fb:a.f≠b:=aJ ho hb (by intro z;cases z);have lb:a.la≠b:=bl.symm;have gb:a.fa≠b:=bf.symm;refine⟨_,rfl,_,rfl,_,_,rfl,rfl,_,rfl,a.f,A.aj,dx,_,_,rfl,(by rw[af fb];exact s1 _ _ ho),T.ar,T.dj,A6 _ _ _,_,rfl,a.la,_,rfl,sM.k (k:= .inl (t:Int)) (by rw[af lb];exact s1 _ _ Xs) (bY (by omega)),?_⟩;have fl:a.f≠a.la:=aJ ho Xs (by intro z;cases z);have pal:a.pa≠a.la:=aJ F.pl Xs (by intro z;cases z);have tal:a.ta≠a.la:=aJ F.tl Xs (by intro z;cases z);have pab:a.pa≠b:=aJ F.pl hb (by intro z;cases z);have tab:a.ta≠b:=aJ F.tl hb (by intro z;cases z);dsimp only;rw[tK (.ref l2) (Hs lB rs t),←Ms F.rl t n l2];generalize hv:V.int ((cS R t:Int)+(n:Int))=nv;generalize PB:upd (upd H2 b (.dK (bG (R++[(t,n)]) (rs++[l2]) t))) a.la (.dK (v4 kl (.inl (t:Int)) nv))=H4
   have uw:∀c o,c≠b→c≠a.la→H2 c=some o→H4 c=some o:=fun c o h1 h2 e=>by
    rw[←PB,af h2,af h1];exact e
   have ZV:∀c xs,H2 c=some (.lst xs)→H4 c=some (.lst xs):=fun c xs e=>uw _ _ (aJ e (s1 _ _ hb) (by intro z;cases z)) (aJ e (s1 _ _ Xs) (by intro z;cases z)) e
   have F4:aF A.aj H4 {a with own:=l2::a.own} ps ts L pk (R++[(t,n)]) (N+1) (rs++[l2]) (cs++[List.replicate n .bJ]):=by
    refine⟨⟨dx,uw _ _ fb fl (s1 _ _ ho)⟩,ZV _ _ (s1 _ _ F.pl),ZV _ _ (s1 _ _ F.tl),F.ne,⟨kv0,uw _ _ gb F.IG (s1 _ _ Iz),⟨by omega,f2.2⟩,fun m=> ?_,f4⟩,⟨_,(by rw[←PB];exact ae),?_,fun m=> ?_⟩,F.IG,by rw[List.length_append,List.length_append,F.rl];rfl,fun i c e=> ?_,?_,⟨.tail _ of,.tail _ op,.tail _ ot,.tail _ NU,.tail _ ZY⟩,fun c hc=> ?_⟩
    ·by_cases z:t=m
     ·subst z;exact .inr ⟨b,NH,.tail _ bo,bf,bl,by rw[←PB,af bl];exact ae⟩
     ·rw[xP,if_neg z,JS F.rl z];rcases f3 m with h|⟨c,e1,e2,e3,e4,e5⟩
      ·exact .inl h
      ·refine .inr ⟨c,e1,.tail _ e2,e3,e4,uw _ _ (fun q=> ?_) e4 (s1 _ _ e5)⟩;subst q;exact z (f4 t m c NH e1)
    ·have:=dF kl (.inl (t:Int)) nv;omega
    ·rw[fF,HQ];by_cases z:m=t
     ·subst z;rw[if_pos rfl];show nv=_;rw[←hv];simp
     ·rw[if_neg (fun q=>z (by injection q with q;omega)),l3' m];have:(t==m)=false:=by simp;omega
      rw[this];rfl
    ·by_cases hi:i<rs.length
     ·rw[List.getElem?_append_left hi] at e;obtain⟨e1,e2,e3,vs,e4,e5⟩:=F.rm i c e;refine⟨.tail _ e1,e2,e3,vs,?_,ZV _ _ (s1 _ _ e5)⟩;rw[List.getElem?_append_left (by rw[vk,←F.rl];exact hi)];exact e4
     ·have yn :=(List.getElem?_eq_some_iff.mp e).1;rw[List.length_append] at yn;have hi:i=rs.length:=by simp at yn;omega
      subst hi;rw[List.getElem?_append_right (Nat.le_refl _),Nat.sub_self] at e;cases e;refine⟨.head _,(ag F.pl Em).symm,(ag F.tl Em).symm,List.replicate n .bJ,?_,ZV _ _ hr2⟩;rw[List.getElem?_append_right (by rw[vk,F.rl];exact Nat.le_refl _),vk,F.rl,Nat.sub_self];rfl
    ·refine List.nodup_append.mpr ⟨F.rn,List.nodup_cons.mpr ⟨by simp,.nil⟩,fun x hx y hy=> ?_⟩;simp only[List.mem_singleton] at hy;subst hy;obtain⟨i,hi,rfl⟩:=List.mem_iff_getElem.mp hx;obtain⟨e1,e2,e3,vs,e4,e5⟩:=F.rm i _ (List.getElem?_eq_getElem hi);exact ag e5 Em
    ·rcases List.mem_cons.mp hc with rfl|hc
     ·exact⟨_,ZV _ _ hr2⟩
     ·by_cases z1:c=a.la
      ·exact⟨_,by rw[←PB];exact jA z1⟩
      ·by_cases z2:c=b
       ·exact⟨_,by rw[←PB,af z1];exact jA z2⟩
       ·exact(F.al c hc).imp fun o e=>uw c o z2 z1 (s1 _ _ e)
   have Ua:=uw _ _ fb fl (s1 _ _ ho);refine⟨_,rfl,a.f,A.aj,dx,_,_,rfl,Ua,T.ar,T.fV,En _ _ _,_,rfl,a.f,dx,_,rfl,Ua,aB (by decide+kernel),{a with own:=l2::a.own},ps,ts,L,pk,R++[(t,n)],N+1,_,_,rfl,F4,?_,?_,G.ts,fun H5 s5=> ?_⟩
   ·intro r hr;rcases List.mem_append.mp hr with hr|hr
    ·exact(G.rw r hr).2.1
    ·simp only[List.mem_singleton] at hr;subst hr;exact n6
   ·rw[List.length_append];simp;omega
   have F5:=F4.same s5;obtain⟨U5,G8⟩:=F5.ob;have G8:H5 a.f=_:=G8;refine⟨_,_,rfl,_,rfl,a.f,A.aj,U5,_,rfl,G8,T.ar,T.fV,Nat.lt_of_le_of_lt (qy _ _ _) (by decide),?_⟩;rw[zW,kG R n uy]
   have em:V.int (if((bg ts R+n:Nat):Int)>(pk:Int) then((bg ts R+n:Nat):Int) else(pk:Int))=V.int ((max pk (bg ts R+n):Nat):Int):=by
    congr 1
    split<;>omega
   dsimp only;rw[em];generalize FP:upd H5 a.f (.ins A.aj U5 (dG a.pa a.ta ⟨.int L,.ref a.fa,.ref a.la,.int (max pk (bg ts R+n):Nat)⟩))=H6
   have EN:∀c o,c≠a.f→H5 c=some o→H6 c=some o:=fun c o h1 e=>by
    rw[←FP,af h1];exact e
   have F6:aF A.aj H6 {a with own:=l2::a.own} ps ts L (max pk (bg ts R+n)) (R++[(t,n)]) (N+1) (rs++[l2]) (cs++[List.replicate n .bJ]):=by
    obtain⟨kf5,Sr,Wn,V_,W5⟩:=F5.fl;obtain⟨kl5,Zq,l25,l35⟩:=F5.ln;refine⟨⟨U5,by rw[←FP];exact ae⟩,EN _ _ (aJ F5.pl G8 (by intro z;cases z)) F5.pl,EN _ _ (aJ F5.tl G8 (by intro z;cases z)) F5.tl,F.ne,⟨kf5,EN _ _ (aJ Sr G8 (by intro z;cases z)) Sr,Wn,fun m=> ?_,W5⟩,⟨kl5,EN _ _ (aJ Zq G8 (by intro z;cases z)) Zq,l25,l35⟩,F.IG,F5.rl,fun i c e=> ?_,F5.rn,F5.um,fun c hc=>(if z:c=a.f then⟨_,by rw[←FP];exact jA z⟩ else(F5.al c hc).imp fun o e=>EN c o z e)⟩
    ·rcases V_ m with h|⟨c,e1,e2,e3,e4,e5⟩
     ·exact .inl h
     ·exact .inr ⟨c,e1,e2,e3,e4,EN _ _ (aJ e5 G8 (by intro z;cases z)) e5⟩
    ·obtain⟨e1,e2,e3,vs,e4,e5⟩:=F5.rm i c e;exact⟨e1,e2,e3,vs,e4,EN _ _ (aJ e5 G8 (by intro z;cases z)) e5⟩
   refine⟨_,rfl,_,rfl,(show 2≤sizeLine by decide),fun l hl=> ?_⟩;have s7:=au.upd (o:= .tup [V.int t,V.int (cS R t)]) hl;have kp:∀c o,¬c∈a.own→H c=some o→H6 c=some o:=fun c o hc e=>EN c o (fun z=>hc (z▸of)) (s5 _ _ (uw c o (fun z=>hc (z▸bo)) (fun z=>hc (z▸ZY)) (s1 _ _ e)));refine k l2 _ l Em (F6.same s7) (fun c o hc e=>s7 _ _ (kp c o hc e)) (fun c xs e=>s7 _ _ (EN _ _ (aJ e ho (by intro z;cases z)) (s5 _ _ (uw c _ (aJ e hb (by intro z;cases z)) (aJ e Xs (by intro z;cases z)) (s1 _ _ e))))) ?_ ae
   cases q:H l with
   |none=>rfl
   |some o=>
    by_cases hc:l∈a.own
    ·obtain⟨o',e⟩:=F6.al l (.tail _ hc);rw[hl] at e;cases e
    ·have:=kp l o hc q;rw[hl] at this;cases this
  refine⟨_,rfl,a.f,dx,_,rfl,ho,aB (by decide+kernel),_,rfl,a.f,a.pa,a.ta,ps,ts,t,rfl,F.fr,G.W.len,fw,?_⟩;refine⟨_,rfl,(n:Int),1,6,rfl,_,rfl,?_⟩;rw[decide_eq_true (show(1:Int)≤(n:Int) by omega),decide_eq_true (show(n:Int)≤6 by omega)];refine g9 ?_;refine⟨_,rfl,a.f,dx,_,rfl,ho,aB (by decide+kernel),a,ps,ts,L,pk,R,N,rs,cs,rfl,F,fun r hr=>(G.rw r hr).2.1,by omega,G.ts,fun H1 s1=> ?_⟩;have F1:=F.same s1;obtain⟨pG,Bg⟩:=F1.ob;refine⟨_,rfl,_,rfl,_,_,rfl,rfl,_,rfl,?_⟩;rw[decide_eq_false (show ¬((L:Int) - ((bg ts R:Nat):Int)<(n:Int)) by omega)];refine g9 ?_;obtain⟨kf,f1,f2,f3,f4⟩:=F1.fl;obtain⟨kl,l1,l2,l3⟩:=F1.ln;obtain⟨of,op,ot,NU,ZY⟩:=F1.um;refine⟨_,rfl,a.f,A.aj,pG,_,_,rfl,Bg,T.ar,T.dj,A6 _ _ _,a.la,rfl,.inl ⟨_,.inl l1⟩,_,rfl,_,fg.k (k:= .inl (t:Int)) l1,?_⟩;show _;rw[l3 t];refine⟨_,rfl,a.f,A.aj,pG,_,_,rfl,Bg,T.ar,T.cA,sg _ _ _,a.fa,rfl,.inl ⟨_,.inl f1⟩,_,rfl,fun b hb=> ?_⟩;have s2:=au.upd (o:= .dK []) hb;have F2:=F1.same s2;have bfa:b≠a.fa:=(ag f1 hb).symm;have bla:b≠a.la:=(ag l1 hb).symm;refine⟨kf,.inl (t:Int),s2 _ _ f1,rfl,bY (by omega),fun v hv=> ?_,fun hv=> ?_⟩
  ·have NM :=hv;rcases f3 t with h|⟨c,e1,e2,e3,e4,e5⟩
   ·rw[h.1] at NM;cases NM
   rw[e1] at NM;cases NM;refine⟨a,ps,ts,L,pk,R,N+1,rs,cs,t,n,_,c,kf,rfl,?_,vk,G,uy,n1,n6,hR,by omega,hle,s2 _ _ f1,e1,fun r H' l hr F' kp kt hl e=> ?_⟩
   ·obtain⟨kf2,Wv,Vi,Vq,W7⟩:=F2.fl;obtain⟨kl2,l12,l22,l32⟩:=F2.ln;exact⟨F2.ob,F2.pl,F2.tl,F2.ne,⟨kf2,Wv,⟨by omega,Vi.2⟩,Vq,W7⟩,⟨kl2,l12,by omega,l32⟩,F2.IG,F2.rl,F2.rm,F2.rn,F2.um,F2.al⟩
   ·refine k1 (r::a.own) r H' l F' (fun c hc=> .tail _ hc) (fun c hc=> ?_) (fun c o hc e=>kp c o hc (s2 _ _ (s1 _ _ e))) (fun c xs e=>kt c xs (s2 _ _ (s1 _ _ e))) (s1.free (s2.free hl)) e;rcases List.mem_cons.mp hc with rfl|hc
    ·exact .inr (s1.free (s2.free hr))
    ·exact .inl hc
  ·have h0:bW R t=[]:=by
    rcases f3 t with h|⟨c,e1,_⟩
    ·exact h.2
    ·rw[e1] at hv;cases hv
   have fb:a.f≠b:=ag Bg hb;have ffa:a.f≠a.fa:=aJ Bg f1 (by intro z;cases z);have pfa:a.pa≠a.fa:=aJ F1.pl f1 (by intro z;cases z);have tfa:a.ta≠a.fa:=aJ F1.tl f1 (by intro z;cases z);generalize Xx:upd (upd H1 b (.dK [])) a.fa (.dK (v4 kf (.inl (t:Int)) (.ref b)))=H3
   have ux:∀c o,c≠a.fa→H1 c=some o→H3 c=some o:=fun c o h1 e=>by
    rw[←Xx,af h1];exact s2 _ _ e
   have UW:H3 b=some (.dK []):=by
    rw[←Xx,af bfa];exact ae
   have hf3:H3 a.fa=some (.dK (v4 kf (.inl (t:Int)) (.ref b))):=by
    rw[←Xx];exact ae
   have vb:bA (v4 kf (.inl (t:Int)) (.ref b)) (.inl (t:Int))=some (.ref b):=by
    rw[fF,if_pos rfl]
   have vn:∀m:Nat,m≠t→bA (v4 kf (.inl (t:Int)) (.ref b)) (.inl (m:Int))=bA kf (.inl (m:Int)):=fun m hm=>by
    rw[fF,if_neg (fun q=>hm (by injection q with q;omega))]
   have nob:∀m:Nat,bA kf (.inl (m:Int))≠some (.ref b):=fun m z=>by
    rcases f3 m with h|⟨c,e1,e2,e3,e4,e5⟩
    ·rw[h.1] at z;cases z
    ·rw[e1] at z;cases z;rw[e5] at hb;cases hb
   have F3:aF A.aj H3 {a with own:=b::a.own} ps ts L pk R (N+1) rs cs:=by
    refine⟨⟨pG,ux _ _ ffa Bg⟩,ux _ _ pfa F1.pl,ux _ _ tfa F1.tl,F.ne,⟨_,hf3,?_,fun m=> ?_,fun m m' c e e' => ?_⟩,⟨kl,ux _ _ F.IG.symm l1,by omega,l3⟩,F.IG,F.rl,fun i c e=> ?_,F.rn,⟨.tail _ of,.tail _ op,.tail _ ot,.tail _ NU,.tail _ ZY⟩,fun c hc=> ?_⟩
    ·have:=dF kf (.inl (t:Int)) (.ref b);exact⟨by omega,Jy f2.2 hv⟩
    ·by_cases z:m=t
     ·subst z;refine .inr ⟨b,vb,.head _,bfa,bla,?_⟩;unfold bG;rw[h0];exact UW
     ·rw[vn m z];rcases f3 m with h|⟨c,e1,e2,e3,e4,e5⟩
      ·exact .inl h
      ·exact .inr ⟨c,e1,.tail _ e2,e3,e4,ux _ _ e3 e5⟩
    ·by_cases z:m=t<;>by_cases z' :m' =t
     ·omega
     ·subst z;rw[vb] at e;cases e;rw[vn m' z'] at e';exact absurd e' (nob m')
     ·subst z';rw[vb] at e';cases e';rw[vn m z] at e;exact absurd e (nob m)
     ·rw[vn m z] at e;rw[vn m' z'] at e';exact f4 m m' c e e'
    ·obtain⟨e1,e2,e3,vs,e4,e5⟩:=F1.rm i c e;exact⟨.tail _ e1,e2,e3,vs,e4,ux _ _ (aJ e5 f1 (by intro z;cases z)) e5⟩
    ·rcases List.mem_cons.mp hc with rfl|hc
     ·exact⟨_,UW⟩
     ·by_cases z:c=a.fa
      ·exact⟨_,by rw[←Xx];exact jA z⟩
      ·exact(F1.al c hc).imp fun o e=>ux c o z e
   have Ci:∀c,H3 c=none→H1 c=none:=fun c e=>by
    cases q:H1 c with
    |none=>rfl
    |some o=>
     by_cases z:c=a.fa
     ·rw[z,hf3] at e;cases e
     ·rw[ux c o z q] at e;cases e
   refine⟨{a with own:=b::a.own},ps,ts,L,pk,R,N+1,rs,cs,t,n,_,b,_,rfl,F3,vk,G,uy,n1,n6,hR,by omega,hle,hf3,vb,fun r H' l hr F' kp kt hl e=> ?_⟩;refine k1 (r::b::a.own) r H' l F' (fun c hc=> .tail _ (.tail _ hc)) (fun c hc=> ?_) (fun c o hc e=>kp c o (fun z=> ?_) (ux c o (fun z=>hc (z▸NU)) (s1 _ _ e))) (fun c xs e=>kt c xs (ux c _ (aJ (s1 _ _ e) f1 (by intro z;cases z)) (s1 _ _ e))) (s1.free (Ci l hl)) e
   ·rcases List.mem_cons.mp hc with rfl|hc
    ·exact .inr (s1.free (Ci _ hr))
    ·rcases List.mem_cons.mp hc with rfl|hc
     ·exact .inr (s1.free hb)
     ·exact .inl hc
   ·rcases List.mem_cons.mp z with rfl|z
    ·have:=s1 _ _ e;rw[hb] at this;cases this
    ·exact hc z
end
theorem zN(S:List Nat):(S.map fun n=>((n:Nat):Int)).sum=((S.sum:Nat):Int):=by
 induction S with
 |nil=>rfl
 |cons a S ih=>
  simp only[List.map_cons,List.sum_cons,ih];omega
structure MA where
 d:Addr
 ha:Addr
 tk:Addr
 wl:Addr
 ca:Addr
 own:aZ
abbrev jX(t p:Nat):List wp:=[.inl (t:Int),.inl (p:Int)]
def Sw(ws:aZ)(n:Nat)(v:V):Prop:=v= .bJ∨(∃i:Int,v= .int i∧i.natAbs<10 ^ 40)∨∃i,i<n∧v= .ref (ws.getD i 0)
structure BN(R:Rm)(ws:aZ)(cs:dO):Prop where
 cl:cs.length=R.length
 cz:∀(i:Nat) (vs:az),cs[i]? =some vs→vs.length=(R.getD i (0,0)).2
 vo:∀(i:Nat) (vs:az),cs[i]? =some vs→∀v∈vs,Sw ws R.length v
structure aO(H:Hp)(m:MA)(ps ts:aP)(L top:Nat)(R:Rm)(ws ms:aZ)(cs:dO):Prop where
 ob:H m.d=some (.dK (qV m.ha m.tk ⟨.int L,.int top,.ref m.wl,.ref m.ca⟩))
 hl:H m.ha=some (.lst (ps.map oV))
 tl:H m.tk=some (.lst (ts.map oV))
 ne:m.ha≠m.tk
 wl:H m.wl=some (.lst (ws.map V.ref))
 iB:ws.length=R.length
 way:∀i,i<R.length→ws.getD i 0∈m.own∧H (ws.getD i 0)=some (.tup (oZ (R.getD i (0,0)).1 (aT R i)))
 ca:∃kv,H m.ca=some (.dT kv)∧kv.length≤R.length∧∀i,i<R.length→bA kv (jX (R.getD i (0,0)).1 (aT R i))=some (.ref (ms.getD i 0))
 wn:m.wl≠m.ha∧m.wl≠m.tk
 ml:ms.length=R.length
 mm:∀(i:Nat) (b:Addr),ms[i]? =some b→b∈m.own∧b≠m.ha∧b≠m.tk∧b≠m.wl∧∃vs,cs[i]? =some vs∧H b=some (.lst vs)
 mn:ms.Nodup
 um:m.d∈m.own∧m.ha∈m.own∧m.tk∈m.own∧m.wl∈m.own∧m.ca∈m.own
 al:∀c∈m.own,∃o,H c=some o
section
variable{H H' :Hp}{m:MA}{ps ts Bk zQ :aP}{L top:Nat}{R:Rm}{ws ms:aZ}{cs:dO}
theorem aO.mod(M:aO H m ps ts L top R ws ms cs):fX H m.d m.ha m.tk ps ts:=⟨⟨_,M.ob⟩,M.hl,M.tl,M.ne⟩
theorem aO.kept(M:aO H m ps ts L top R ws ms cs)(k:∀c o,c∈m.own→H c=some o→H' c=some o):aO H' m ps ts L top R ws ms cs:=by
 obtain⟨ob,hl,tl,ne,wl,iB,way,⟨kv,c1,c2,c3⟩,wn,ml,mm,mn,⟨o1,o2,o3,o4,o5⟩,al⟩:=M;refine⟨k _ _ o1 ob,k _ _ o2 hl,k _ _ o3 tl,ne,k _ _ o4 wl,iB,fun i hi=>⟨(way i hi).1,k _ _ (way i hi).1 (way i hi).2⟩,⟨kv,k _ _ o5 c1,c2,c3⟩,wn,ml,fun i b e=> ?_,mn,⟨o1,o2,o3,o4,o5⟩,fun c hc=>(al c hc).imp fun o e=>k c o hc e⟩;obtain⟨e1,e2,e3,e4,vs,e5,e6⟩:=mm i b e;exact⟨e1,e2,e3,e4,vs,e5,k _ _ e1 e6⟩
theorem aO.same(M:aO H m ps ts L top R ws ms cs)(s:au H H'):aO H' m ps ts L top R ws ms cs:=M.kept fun c o _ e=>s c o e
theorem aO.frames(M:aO H m ps ts L top R ws ms cs)(F:fX H' m.d m.ha m.tk Bk zQ)(k:jF m.ha m.tk H H'):aO H' m Bk zQ L top R ws ms cs:=by
 obtain⟨ob,hl,tl,ne,wl,iB,way,⟨kv,c1,c2,c3⟩,wn,ml,mm,mn,o,al⟩:=M;refine⟨k _ _ (aJ ob hl (by intro z;cases z)) (aJ ob tl (by intro z;cases z)) ob,F.hl,F.tl,ne,k _ _ wn.1 wn.2 wl,iB,fun i hi=>⟨(way i hi).1,k _ _ (aJ (way i hi).2 hl (by intro z;cases z)) (aJ (way i hi).2 tl (by intro z;cases z)) (way i hi).2⟩,⟨kv,k _ _ (aJ c1 hl (by intro z;cases z)) (aJ c1 tl (by intro z;cases z)) c1,c2,c3⟩,wn,ml,fun i b e=> ?_,mn,o,fun c hc=> ?_⟩
 ·obtain⟨e1,e2,e3,e4,vs,e5,e6⟩:=mm i b e;exact⟨e1,e2,e3,e4,vs,e5,k _ _ e2 e3 e6⟩
 ·by_cases z1:c=m.ha
  ·exact⟨_,z1▸F.hl⟩
  ·by_cases z2:c=m.tk
   ·exact⟨_,z2▸F.tl⟩
   ·exact(al c hc).imp fun o e=>k c o z1 z2 e
theorem aO.yR(M:aO H m ps ts L top R ws ms cs):fg H m.d (.str "ways") (some (.ref m.wl)):=by
 have:=fg.k (k:=kW) M.ob;rw[abj] at this;exact this
theorem aO.D_(M:aO H m ps ts L top R ws ms cs):fg H m.d (.str "cells") (some (.ref m.ca)):=by
 have:=fg.k (k:=kC) M.ob;rw[Rj] at this;exact this
theorem aO.aak(M:aO H m ps ts L top R ws ms cs):fg H m.d (.str "top") (some (.int top)):=by
 have:=fg.k (k:=kP) M.ob;rw[aa_] at this;exact this
theorem aO.at_(M:aO H m ps ts L top R ws ms cs){i:Nat}(hi:i<R.length):∃b vs,ms[i]? =some b∧cs[i]? =some vs∧H (ws.getD i 0)=some (.tup (oZ (R.getD i (0,0)).1 (aT R i)))∧fg H m.ca (.ref (ws.getD i 0)) (some (.ref b))∧H b=some (.lst vs):=by
 obtain⟨kv,c1,c2,c3⟩:=M.ca;have e:=dz 0 (show i<ms.length by rw[M.ml];exact hi);obtain⟨b1,b2,b3,b4,vs,b5,b6⟩:=M.mm i _ e;have g:=fg.t (k:=jX (R.getD i (0,0)).1 (aT R i)) c1 (M.way i hi).2;rw[c3 i hi] at g;exact⟨_,vs,e,b5,(M.way i hi).2,g,b6⟩
end
def iO(ts:aP)(R:Rm):List Nat:=(List.range R.length).filter fun i=>ts[(R.getD i (0,0)).1]? ==some none
theorem BR{ts:aP}{R:Rm}{i:Nat}(h:i∈iO ts R):i<R.length:=List.mem_range.mp (List.mem_filter.mp h).1
theorem r6{ts:aP}{R:Rm}{i:Nat}(h:i∈iO ts R):ts[(R.getD i (0,0)).1]? =some none:=eq_of_beq (List.mem_filter.mp h).2
theorem ML(ts:aP)(R:Rm):(iO ts R).length≤R.length:=by
 unfold iO;refine Nat.le_trans (List.length_filter_le _ _) ?_;rw[List.length_range];exact Nat.le_refl _
def wf(ws:aZ)(I:List Nat):az:=I.map fun i=>V.ref (ws.getD i 0)
theorem wv{R:Rm}{i:Nat}(hi:i<R.length):R.getD i (0,0)∈R:=List.mem_of_getElem? (dz (0,0) hi)
section
variable{P:Program}{w:World}{K:Frag}{mg:Str→aH}{base:Heap}{A:qH}
def PK:Sp:=fun vs H Q _=>∃m ps ts L top R ws ms cs,∃t:Nat,vs=[.ref m.d,.int t]∧aO H m ps ts L top R ws ms cs∧R.length≤1000∧∀l H',H l=none→au H H'→H' l=some (.lst (wf ws (bW R t)))→Q (.ref l) H'
theorem rp(T:Txt K mg A):aV P w K mg base eJ 1 A.oY A.oH ["_law_model","_law_frame"] PK:=by
 refine T.pw.ok yT (fun vs H Q E h=> ?_) (fun cG Ar outer s H vs Q E hr h=> ?_)
 ·obtain⟨m,ps,ts,L,top,R,ws,ms,cs,t,rfl,_⟩:=h;rfl
 ·obtain⟨m,ps,ts,L,top,R,ws,ms,cs,t,rfl,M,hR,k⟩:=h;have hu:=dY hr;refine⟨_,(aq (aG (dn (N:=["_law_way","_law_frame"]) (k:=1) (js:=[1]) rfl (bQ (by kernel_rfl)) (cy (aN hu (pv 0) aS (fun _ _=>rfl))) (fun _ _ _ _ _=>⟨(ba (i:=0) (show(["_law_way","_law_frame"]:aX).Nodup by decide+kernel) rfl (Or.inl rfl) (Or.inr rfl)),(AD (bc xj (bC (By (K:=K) rfl) (pv 0) ax (fun _ _=>rfl)) (pv 1) (bu _))),(pv 0)⟩)))),?_⟩;refine⟨_,rfl,m.d,_,rfl,M.yR,m.wl,rfl,⟨_,bB.of M.wl⟩,?_⟩;have wC:(ws.map V.ref).length=R.length:=by rw[List.length_map,M.iB]
  refine eX (fun i=>(R.getD i (0,0)).1==t) (fun i=>V.ref (ws.getD i 0)) (cV (bB.of M.wl)).g ?_ ?_ fun p H' hp sm hl=>k p H' hp sm ?_
  ·rw[wC];exact Nat.le_of_lt (bY (by omega))
  ·intro i x H' C1 C0 hi sm hx c1 c0;rw[wC] at hi;have M' :=M.same sm;have e3:=(M'.way i hi).2;rw[List.getElem?_map,dz 0 (by rw[M.iB];exact hi)] at hx;cases hx;refine⟨(gk.refl _).own (by decide),_,rfl,ws.getD i 0,_,0,_,rfl,rfl,qQ.of e3,rfl,_,rfl,rfl,_,rfl,?_⟩
   have eq:decide (nV (R.getD i (0,0)).1=V.int t)=((R.getD i (0,0)).1==t):=by
    by_cases z:(R.getD i (0,0)).1=t
    ·rw[z];simp[nV]
    ·rw[decide_eq_false (fun q=>z (by injection q with q;omega))];simpa using z
   show if decide (nV (R.getD i (0,0)).1=V.int t)=true then _ else _
   rw[eq]
   cases hd:((R.getD i (0,0)).1==t) with
   |true=>exact ka ⟨_,rfl,c1 hd H' (au.refl H')⟩
   |false=>exact g9 (c0 hd H' (au.refl H'))
  ·rw[wC] at hl;exact hl
def UA:Sp:=fun vs H Q _=>∃m ps ts L top R ws ms cs,vs=[.ref m.d]∧aO H m ps ts L top R ws ms cs∧R.length≤1000∧(∀r∈R,r.1<ts.length)∧∀l H',H l=none→au H H'→H' l=some (.lst (wf ws (iO ts R)))→Q (.ref l) H'
theorem oK(T:Txt K mg A):aV P w K mg base eJ 1 A.pX A.qc ["_law_model"] UA:=by
 refine T.jD.ok A0 (fun vs H Q E h=> ?_) (fun cG Ar outer s H vs Q E hr h=> ?_)
 ·obtain⟨m,ps,ts,L,top,R,ws,ms,cs,rfl,_⟩:=h;rfl
 ·obtain⟨m,ps,ts,L,top,R,ws,ms,cs,rfl,M,hR,Ia,k⟩:=h;have hu:=dY hr;refine⟨_,(aq (aG (dn (N:=["_law_way","_law_model"]) (k:=1) (js:=[0]) rfl (bQ (by kernel_rfl)) (cy (aN hu (pv 0) aS (fun _ _=>rfl))) (fun _ _ _ _ _=>⟨(ba (i:=0) (show(["_law_way","_law_model"]:aX).Nodup by decide+kernel) rfl (Or.inl rfl) (Or.inr rfl)),(AD (bc sJ (bC (qp (K:=K) rfl) (aN hu (pv 1) aS (fun _ _=>rfl)) (bC (By (K:=K) rfl) (pv 0) ax (fun _ _=>rfl)) (fun _ _=>rfl)) dh (bu _))),(pv 0)⟩)))),?_⟩;refine⟨_,rfl,m.d,_,rfl,M.yR,m.wl,rfl,⟨_,bB.of M.wl⟩,?_⟩;have wC:(ws.map V.ref).length=R.length:=by rw[List.length_map,M.iB]
  refine eX (fun i=>ts[(R.getD i (0,0)).1]? ==some none) (fun i=>V.ref (ws.getD i 0)) (cV (bB.of M.wl)).g ?_ ?_ fun p H' hp sm hl=>k p H' hp sm ?_
  ·rw[wC];exact Nat.le_of_lt (bY (by omega))
  ·intro i x H' C1 C0 hi sm hx c1 c0;rw[wC] at hi;have M' :=M.same sm;have e3:=(M'.way i hi).2;rw[List.getElem?_map,dz 0 (by rw[M.iB];exact hi)] at hx;cases hx;have eQ:=Ia _ (wv hi);have NQ:ts[(R.getD i (0,0)).1]? =some ts[(R.getD i (0,0)).1]:=by simp[eQ]
   rw[NQ] at c1 c0;refine⟨(gk.refl _).own (by decide),_,rfl,m.d,_,rfl,M'.mod.xk,_,rfl,ws.getD i 0,_,0,_,rfl,rfl,qQ.of e3,rfl,m.tk,_,_,_,rfl,rfl,bB.of M'.tl,jY NQ,rfl,_,rfl,?_⟩
   cases eo:ts[(R.getD i (0,0)).1] with
   |none=>
    rw[eo] at c1;exact ka ⟨_,rfl,c1 rfl H' (au.refl H')⟩
   |some n=>
    rw[eo] at c0;exact g9 (c0 rfl H' (au.refl H'))
  ·rw[wC] at hl;exact hl
def Oh:Sp:=fun vs H Q _=>∃m ps ts L top R ws ms cs,vs=[.ref m.d]∧aO H m ps ts L top R ws ms cs∧(∀(i:Nat) (vs:az),cs[i]? =some vs→vs.length=(R.getD i (0,0)).2)∧R.length≤1100∧(∀r∈R,r.2≤6∧r.1<ts.length)∧∀H',au H H'→Q (.int (bg ts R)) H'
theorem nZ(T:Txt K mg A):aV P w K mg base eJ 1 A.p_ A.pV ["_law_model"] Oh:=by
 refine T.jt.ok AG (fun vs H Q E h=> ?_) (fun cG Ar outer s H vs Q E hr h=> ?_)
 ·obtain⟨m,ps,ts,L,top,R,ws,ms,cs,rfl,_⟩:=h;rfl
 ·obtain⟨m,ps,ts,L,top,R,ws,ms,cs,rfl,M,cz,hR,Ia,k⟩:=h;have hu:=dY hr;refine⟨_,(aq (aG (aE (xo rfl) (by rfl) T.C9 Boot.«sum» (aa (dn (N:=["_law_way","_law_model"]) (k:=1) (js:=[0]) rfl (bQ (by kernel_rfl)) (cy (aN hu (pv 0) aS (fun _ _=>rfl))) (fun _ _ _ _ _=>⟨(ba (i:=0) (show(["_law_way","_law_model"]:aX).Nodup by decide+kernel) rfl (Or.inl rfl) (Or.inr rfl)),(AD (bc sJ (bC (qp (K:=K) rfl) (aN hu (pv 1) aS (fun _ _=>rfl)) (bC (By (K:=K) rfl) (pv 0) ax (fun _ _=>rfl)) (fun _ _=>rfl)) dh (bu _))),(aE (rb (K:=K) rfl) (by rfl) T.eh Boot.«len» (aa (aN hu (aN hu (pv 1) aS (fun _ _=>rfl)) (pv 0) (fun _ _=>rfl)) ah))⟩)) ah)))),?_⟩;refine⟨_,rfl,m.d,_,rfl,M.yR,m.wl,rfl,⟨_,bB.of M.wl⟩,?_⟩;have wC:(ws.map V.ref).length=R.length:=by rw[List.length_map,M.iB]
  refine eX (fun i=>ts[(R.getD i (0,0)).1]? ==some none) (fun i=>V.int ((R.getD i (0,0)).2:Int)) (cV (bB.of M.wl)).g ?_ ?_ fun p H' hp sm hl=> ?_
  ·rw[wC];exact Nat.le_of_lt (bY (by omega))
  ·intro i x H' C1 C0 hi sm hx c1 c0;rw[wC] at hi;have M' :=M.same sm;obtain⟨b,vs,e1,e2,e3,e4,e5⟩:=M'.at_ hi;rw[List.getElem?_map,dz 0 (by rw[M.iB];exact hi)] at hx;cases hx;have er:=wv hi;have eQ:=(Ia _ er).2;have NQ:ts[(R.getD i (0,0)).1]? =some ts[(R.getD i (0,0)).1]:=by simp[eQ]
   rw[NQ] at c1 c0;refine⟨(gk.refl _).own (by decide),_,rfl,m.d,_,rfl,M'.mod.xk,_,rfl,ws.getD i 0,_,0,_,rfl,rfl,qQ.of e3,rfl,m.tk,_,_,_,rfl,rfl,bB.of M'.tl,jY NQ,rfl,_,rfl,?_⟩
   cases eo:ts[(R.getD i (0,0)).1] with
   |none=>
    rw[eo] at c1;refine ka ⟨_,rfl,m.d,_,rfl,M'.D_,_,rfl,m.ca,_,rfl,e4,b,_,rfl,.inl (bB.of e5),?_⟩;rw[cz i vs e2];exact c1 rfl H' (au.refl H')
   |some n=>
    rw[eo] at c0;exact g9 (c0 rfl H' (au.refl H'))
  ·rw[wC] at hl
   have el:((List.range R.length).filter fun i=>ts[(R.getD i (0,0)).1]? ==some none).map (fun i=>V.int ((R.getD i (0,0)).2:Int))=(((R.filter fun r=>ts[r.1]? ==some none).map (·.2)).map fun n=>((n:Nat):Int)).map V.int:=by
    have:=l_ R (0,0) (fun r=>ts[r.1]? ==some none) (fun r=>V.int (r.2:Int));rw[this,List.map_map,List.map_map];rfl
   rw[el] at hl;refine⟨p,_,rfl,hl,?_,?_,?_⟩
   ·rw[List.length_map,List.length_map];exact Nat.le_trans (List.length_filter_le _ _) (by omega)
   ·intro n hn;obtain⟨x,hx,rfl⟩:=List.mem_map.mp hn;obtain⟨r,hr,rfl⟩:=List.mem_map.mp hx;have:=(Ia r (List.mem_filter.mp hr).1).1;omega
   ·rw[zN];exact k H' sm
end
theorem yi{R:Rm}{x:Nat×Nat}{i:Nat}(h:i<(R++[x]).length):i<R.length∨i=R.length:=by
 rw[List.length_append] at h;simp at h;omega
section
variable{P:Program}{w:World}{K:Frag}{mg:Str→aH}{base:Heap}{A:qH}
def Ql:Sp:=fun vs H Q _=>∃m ps ts L top R ws ms cs,∃t n:Nat,vs=[.ref m.d,.int t,.int n]∧aO H m ps ts L top R ws ms cs∧BN R ws cs∧R.length≤1000∧(∀r∈R,1≤r.2∧r.2≤6∧r.1<ts.length)∧t<ts.length∧1≤n∧n≤6∧
 ∀EK wt r l H',aO H' {m with own:=EK} ps ts L (max top (bg ts (R++[(t,n)]))) (R++[(t,n)]) (ws++[wt]) (ms++[r]) (cs++[List.replicate n .bJ])→(∀c∈m.own,c∈EK)→(∀c∈EK,c∈m.own∨H c=none)→(∀c o,¬c∈m.own→H c=some o→H' c=some o)→(∀c xs,H c=some (.tup xs)→H' c=some (.tup xs))→H' l=some (.tup (oZ t (cS R t)))→Q (.ref l) H'
theorem ud(T:Txt K mg A):aV P w K mg base eJ 2 A.qb A.qz ["_law_model","_law_frame","_law_size"] Ql:=by
 have oJ:=rp (P:=P) (w:=w) (base:=base) T;have gY:=nZ (P:=P) (w:=w) (base:=base) T;refine T.qA.ok tZ (fun vs H Q E h=> ?_) (fun cG Ar outer s H vs Q E hr h=> ?_)
 ·obtain⟨m,ps,ts,L,top,R,ws,ms,cs,t,n,rfl,_⟩:=h;rfl
 ·obtain⟨m,ps,ts,L,top,R,ws,ms,cs,t,n,rfl,M,CS,hR,Ia,NS,n1,n6,k⟩:=h;have lB:∀r∈R,1≤r.2:=fun r hr=>(Ia r hr).1;have hu:=dY hr;refine⟨_,(ak (a_ (i:=3) tZ.nd rfl (Or.inl rfl) (nC (aa (pv 1) (aa (aE (xo rfl) (by rfl) T.C9 Boot.«sum» (aa (dn (N:=["_law_other","_law_model"]) (k:=1) (js:=[0]) rfl (bQ (by kernel_rfl)) (cy (ay oJ hr rfl T.tP T.pw.kp T.tJ .nil aw (aa (pv 0) (aa (pv 1) ah)))) (fun _ _ _ _ _=>⟨(ba (i:=0) (show(["_law_other","_law_model"]:aX).Nodup by decide+kernel) rfl (Or.inl rfl) (Or.inr rfl)),zq,(aE (rb (K:=K) rfl) (by rfl) T.eh Boot.«len» (aa (aN hu (aN hu (pv 1) aS (fun _ _=>rfl)) (pv 0) (fun _ _=>rfl)) ah))⟩)) ah)) ah)))) (ak (aY (vC plainAttrs_list PySem.F.slot_list_append PySem.F.type_list_append eW (aN hu (pv 0) aS (fun _ _=>rfl)) (aa (pv 3) ah))) (ak (pe hu (aN hu (pv 0) aS (fun _ _=>rfl)) (pv 3) (bH ED (bO (aa dh ah)) (pv 2)) rfl) (ak (pe hu (pv 0) aS (aE (qL rfl) (by rfl) T.z9 Boot.«max» (aa (aN hu (pv 0) aS (fun _ _=>rfl)) (aa (ay gY hr rfl T.lG T.jt.kp T.lK .nil aw (aa (pv 0) ah)) ah))) rfl) (aq (aG (pv 3))))))),?_⟩;refine⟨_,rfl,_,rfl,_,rfl,m,ps,ts,L,top,R,ws,ms,cs,t,rfl,M,hR,fun gl H1 hgl s1 hg=> ?_⟩;refine⟨gl,rfl,⟨_,bB.of hg⟩,?_⟩;have xO:=qM R t;have Vf:(wf ws (bW R t)).length=(bW R t).length:=List.length_map ..;refine eX (fun _=>true) (fun j=>V.int ((R.getD ((bW R t).getD j 0) (0,0)).2:Int)) (cV (bB.of hg)).g ?_ ?_ fun p H2 hp s2 hl=> ?_
  ·rw[Vf];exact Nat.le_of_lt (bY (by omega))
  ·intro j x H' C1 C0 hj sm hx c1 c0;rw[Vf] at hj;have M' :=(M.same s1).same sm;have ei:=dz 0 hj;have hi:=jQ (List.mem_of_getElem? ei);obtain⟨b,vs,e1,e2,e3,e4,e5⟩:=M'.at_ hi;unfold wf at hx;rw[List.getElem?_map,ei] at hx;cases hx;refine⟨(gk.refl _).own (by decide),ka (B:=C0 H') ⟨_,rfl,m.d,_,rfl,M'.D_,_,rfl,m.ca,_,rfl,e4,b,_,rfl,.inl (bB.of e5),?_⟩⟩;rw[CS.cz _ vs e2];exact c1 rfl H' (au.refl H')
  ·rw[Vf] at hl
   have el:((List.range (bW R t).length).filter fun _=>true).map (fun j=>V.int ((R.getD ((bW R t).getD j 0) (0,0)).2:Int))=(((bW R t).map fun i=>(R.getD i (0,0)).2).map fun n=>((n:Nat):Int)).map V.int:=by
    have:=l_ (bW R t) 0 (fun _=>true) (fun i=>V.int ((R.getD i (0,0)).2:Int));rw[this,List.filter_eq_self.mpr (fun _ _=>rfl),List.map_map,List.map_map];rfl
   rw[el] at hl;refine⟨p,_,rfl,hl,?_,?_,?_⟩
   ·rw[List.length_map,List.length_map];omega
   ·intro x hx;obtain⟨y,hy,rfl⟩:=List.mem_map.mp hx;obtain⟨i,hi,rfl⟩:=List.mem_map.mp hy;have:=(Ia _ (wv (jQ hi))).2.1;omega
   rw[zN,OY];refine⟨(show 2≤sizeLine by decide),fun wt hwt=> ?_⟩;have s3:=au.upd (o:= .tup [V.int t,V.int (cS R t)]) hwt;have NK:=(s1.trans s2).trans s3;have M3:=M.same NK;have Rt:upd H2 wt (.tup [V.int t,V.int (cS R t)]) wt=some (.tup (oZ t (cS R t))):=ae;have anO:H wt=none:=(s1.trans s2).free hwt;generalize upd H2 wt (.tup [V.int t,V.int (cS R t)])=H3 at NK M3 Rt;obtain⟨o1,o2,o3,o4,o5⟩:=M.um;have dw:m.d≠m.wl:=aJ M.ob M.wl (by intro z;cases z);refine⟨_,rfl,m.d,_,rfl,M3.yR,.inl ⟨rfl,_,bB.of M3.wl⟩,_,rfl,m.wl,_,_,rfl,rfl,M3.wl,?_,?_⟩
   ·rw[List.length_map,M.iB];exact bY (by omega)
   generalize PB:upd H3 m.wl (.lst (ws.map V.ref++[V.ref wt]))=H4
   have uw:∀c o,c≠m.wl→H3 c=some o→H4 c=some o:=fun c o h1 e=>by
    rw[←PB,af h1];exact e
   have hd4:=uw _ _ dw M3.ob;have hw4:=uw _ _ (aJ Rt M3.wl (by intro z;cases z)) Rt;obtain⟨kv,c1,c2,c3⟩:=M3.ca;have cw:m.ca≠m.wl:=aJ c1 M3.wl (by intro z;cases z);refine⟨(show 1≤sizeLine by decide),fun l1 Ae=>⟨_,rfl,l1,(n:Int),_,rfl,rfl,ae,by omega,by omega,?_,fun l2 m6=> ?_⟩⟩
   ·show 1*(n:Int).toNat≤sizeLine;exact Nat.le_of_lt (bY (by omega))
   rw[Int.toNat_natCast,FV];have s5:=(au.upd (o:= .lst [V.bJ]) Ae).trans (au.upd (o:= .lst (List.replicate n .bJ)) m6);have Xa:upd (upd H4 l1 (.lst [V.bJ])) l2 (.lst (List.replicate n .bJ)) l2=some (.lst (List.replicate n .bJ)):=ae;have Qx:H4 l2=none:=(au.upd (o:= .lst [V.bJ]) Ae).free m6;generalize upd (upd H4 l1 (.lst [V.bJ])) l2 (.lst (List.replicate n .bJ))=H5 at s5 Xa
   have Uu:H4 m.wl=some (.lst (ws.map V.ref++[V.ref wt])):=by
    rw[←PB];exact ae
   have bw:l2≠m.wl:=(ag Uu Qx).symm;have ha4:=uw _ _ M.wn.1.symm M3.hl;have tk4:=uw _ _ M.wn.2.symm M3.tl;have bh:l2≠m.ha:=(ag ha4 Qx).symm;have bt:l2≠m.tk:=(ag tk4 Qx).symm
   have Em:H l2=none:=by
    cases q:H l2 with
    |none=>rfl
    |some o=>
     have:=uw _ _ bw (NK _ _ q);rw[Qx] at this;cases this
   refine⟨_,rfl,m.d,_,rfl,(by
    have:=fg.k (k:=kC) (s5 _ _ hd4);rw[Rj] at this;exact this),_,rfl,m.ca,_,rfl,sM.t (k:=jX t (cS R t)) (s5 _ _ (uw _ _ cw c1)) (s5 _ _ hw4) (bY (by omega)),?_⟩
   generalize FP:upd H5 m.ca (.dT (v4 kv (jX t (cS R t)) (.ref l2)))=H6
   have EN:∀c o,c≠m.ca→H5 c=some o→H6 c=some o:=fun c o h1 e=>by
    rw[←FP,af h1];exact e
   have kp:∀c o,c≠m.wl→c≠m.ca→H c=some o→H6 c=some o:=fun c o h1 h2 e=>EN _ _ h2 (s5 _ _ (uw _ _ h1 (NK _ _ e)));have ux:∀c o,c≠m.wl→c≠m.ca→H3 c=some o→H6 c=some o:=fun c o h1 h2 e=>EN _ _ h2 (s5 _ _ (uw _ _ h1 e));have NL:∀c xs,H3 c=some (.tup xs)→H6 c=some (.tup xs):=fun c xs e=>ux _ _ (aJ e M3.wl (by intro z;cases z)) (aJ e c1 (by intro z;cases z)) e;have dca:m.d≠m.ca:=aJ M3.ob c1 (by intro z;cases z);have afJ:m.ha≠m.ca:=aJ M3.hl c1 (by intro z;cases z);have tca:m.tk≠m.ca:=aJ M3.tl c1 (by intro z;cases z);have wca:m.wl≠m.ca:=cw.symm;have aam:H6 l2=some (.lst (List.replicate n .bJ)):=EN _ _ (aJ Xa (s5 _ _ (uw _ _ cw c1)) (by intro z;cases z)) Xa
   have M6:aO H6 {m with own:=l2::wt::m.own} ps ts L top (R++[(t,n)]) (ws++[wt]) (ms++[l2]) (cs++[List.replicate n .bJ]):=by
    refine⟨ux _ _ dw dca M3.ob,ux _ _ M.wn.1.symm afJ M3.hl,ux _ _ M.wn.2.symm tca M3.tl,M.ne,?_,?_,fun i hi=> ?_,⟨_,(by rw[←FP];exact ae),?_,fun i hi=> ?_⟩,M.wn,?_,fun i b e=> ?_,?_,⟨.tail _ (.tail _ o1),.tail _ (.tail _ o2),.tail _ (.tail _ o3),.tail _ (.tail _ o4),.tail _ (.tail _ o5)⟩,fun c hc=> ?_⟩
    ·rw[List.map_append];exact EN _ _ wca (s5 _ _ Uu)
    ·rw[List.length_append,List.length_append,M.iB];rfl
    ·rcases yi hi with hi|rfl
     ·rw[ik hi,i8 hi,ik (by rw[M.iB];exact hi)];exact⟨.tail _ (.tail _ (M3.way i hi).1),NL _ _ (M3.way i hi).2⟩
     ·rw[wP,mG,←M.iB,wP];exact⟨.tail _ (.head _),NL _ _ Rt⟩
    ·have:=dF kv (jX t (cS R t)) (.ref l2);rw[List.length_append];show _≤R.length+1;omega
    ·rw[fF];rcases yi hi with hi|rfl
     ·rw[ik hi,i8 hi,ik (by rw[M.ml];exact hi)]
      have jw:¬jX (R.getD i (0,0)).1 (aT R i)=jX t (cS R t):=fun z=>by
       injection z with z1 z2;injection z1 with z1;injection z2 with z2 _;injection z2 with z2;have hm:i∈bW R t:=List.mem_filter.mpr ⟨List.mem_range.mpr hi,beq_iff_eq.mpr (by omega)⟩;have h1:=jab lB hm;omega
      rw[if_neg jw];exact c3 i hi
     ·rw[wP,mG,if_pos rfl,←M.ml,wP]
    ·rw[List.length_append,List.length_append,M.ml];rfl
    ·by_cases hi:i<ms.length
     ·rw[List.getElem?_append_left hi] at e;obtain⟨e1,e2,e3,e4,vs,e5,e6⟩:=M3.mm i b e;refine⟨.tail _ (.tail _ e1),e2,e3,e4,vs,?_,ux _ _ e4 (aJ e6 c1 (by intro z;cases z)) e6⟩;rw[List.getElem?_append_left (by rw[CS.cl,←M.ml];exact hi)];exact e5
     ·have yn :=(List.getElem?_eq_some_iff.mp e).1;rw[List.length_append] at yn;have hi:i=ms.length:=by simp at yn;omega
      subst hi;rw[List.getElem?_append_right (Nat.le_refl _),Nat.sub_self] at e;cases e;refine⟨.head _,bh,bt,bw,List.replicate n .bJ,?_,aam⟩;rw[List.getElem?_append_right (by rw[CS.cl,M.ml];exact Nat.le_refl _),CS.cl,M.ml,Nat.sub_self];rfl
    ·refine List.nodup_append.mpr ⟨M.mn,List.nodup_cons.mpr ⟨by simp,.nil⟩,fun x hx y hy=> ?_⟩;simp only[List.mem_singleton] at hy;subst hy;obtain⟨i,hi,rfl⟩:=List.mem_iff_getElem.mp hx;obtain⟨e1,e2,e3,e4,vs,e5,e6⟩:=M.mm i _ (List.getElem?_eq_getElem hi);exact ag e6 Em
    ·rcases List.mem_cons.mp hc with rfl|hc
     ·exact⟨_,aam⟩
     ·rcases List.mem_cons.mp hc with rfl|hc
      ·exact⟨_,NL _ _ Rt⟩
      ·by_cases z1:c=m.ca
       ·exact⟨_,by rw[←FP];exact jA z1⟩
       ·by_cases z2:c=m.wl
        ·exact⟨_,by rw[z2];exact EN _ _ wca (s5 _ _ Uu)⟩
        ·exact(M3.al c hc).imp fun o e=>ux c o z2 z1 e
   refine⟨_,rfl,m.d,_,rfl,M6.aak,_,rfl,{m with own:=l2::wt::m.own},ps,ts,L,top,R++[(t,n)],ws++[wt],ms++[l2],cs++[List.replicate n .bJ],rfl,M6,fun i vs e=> ?_,?_,?_,fun H7 s7=> ?_⟩
   ·by_cases hi:i<cs.length
    ·rw[List.getElem?_append_left hi] at e;rw[ik (by rw[←CS.cl];exact hi)];exact CS.cz i vs e
    ·have yn :=(List.getElem?_eq_some_iff.mp e).1;rw[List.length_append] at yn;have hi:i=cs.length:=by simp at yn;omega
     subst hi;rw[List.getElem?_append_right (Nat.le_refl _),Nat.sub_self] at e;cases e;rw[CS.cl,wP];exact List.length_replicate
   ·rw[List.length_append];show R.length+1≤1100;omega
   ·intro r hr;rcases List.mem_append.mp hr with hr|hr
    ·exact⟨(Ia r hr).2.1,(Ia r hr).2.2⟩
    ·simp only[List.mem_singleton] at hr;subst hr;exact⟨n6,NS⟩
   have M7:=M6.same s7;have RL:H7 m.d=some (.dK (qV m.ha m.tk ⟨.int L,.int top,.ref m.wl,.ref m.ca⟩)):=M7.ob;refine⟨_,_,rfl,_,rfl,m.d,_,rfl,sM.k (k:=kP) RL (by show 6<sizeLine;decide),?_⟩;have em:∀v,v4 (qV m.ha m.tk ⟨.int L,.int top,.ref m.wl,.ref m.ca⟩) kP v=qV m.ha m.tk ⟨.int L,v,.ref m.wl,.ref m.ca⟩:=fun v=>by kernel_rfl
   rw[em];dsimp only
   have ev:V.int (if((bg ts (R++[(t,n)]):Nat):Int)>(top:Int) then((bg ts (R++[(t,n)]):Nat):Int) else(top:Int))=V.int ((max top (bg ts (R++[(t,n)])):Nat):Int):=by
    congr 1
    split<;>omega
   rw[ev];generalize hH8:upd H7 m.d (.dK (qV m.ha m.tk ⟨.int L,.int (max top (bg ts (R++[(t,n)])):Nat),.ref m.wl,.ref m.ca⟩))=H8
   have NV:∀c o,c≠m.d→H7 c=some o→H8 c=some o:=fun c o h1 e=>by
    rw[←hH8,af h1];exact e
   have hw7:H7 wt=some (.tup (oZ t (cS R t))):=s7 _ _ (NL _ _ Rt);refine⟨_,rfl,k (l2::wt::m.own) wt l2 wt H8 ?_ (fun c hc=> .tail _ (.tail _ hc)) (fun c hc=> ?_) (fun c o hc e=>NV _ _ (fun z=>hc (z▸o1)) (s7 _ _ (kp _ _ (fun z=>hc (z▸o4)) (fun z=>hc (z▸o5)) e))) (fun c xs e=>NV _ _ (aJ e M.ob (by intro z;cases z)) (s7 _ _ (kp _ _ (aJ e M.wl (by intro z;cases z)) (aJ (NK _ _ e) c1 (by intro z;cases z)) e))) (NV _ _ (aJ hw7 RL (by intro z;cases z)) hw7)⟩
   ·obtain⟨ob,hl_,tl_,ne_,wl_,abK,U3,⟨kv7,d1,d2,d3⟩,wn_,ml_,mm_,mn_,o_,al_⟩:=M7;refine⟨by rw[←hH8];exact ae,NV _ _ (aJ hl_ RL (by intro z;cases z)) hl_,NV _ _ (aJ tl_ RL (by intro z;cases z)) tl_,ne_,NV _ _ (aJ wl_ RL (by intro z;cases z)) wl_,abK,fun i hi=>⟨(U3 i hi).1,NV _ _ (aJ (U3 i hi).2 RL (by intro z;cases z)) (U3 i hi).2⟩,⟨kv7,NV _ _ (aJ d1 RL (by intro z;cases z)) d1,d2,d3⟩,wn_,ml_,fun i b e=> ?_,mn_,o_,fun c hc=>(if z:c=m.d then⟨_,by rw[←hH8];exact jA z⟩ else(al_ c hc).imp fun o e=>NV c o z e)⟩;obtain⟨e1,e2,e3,e4,vs,e5,e6⟩:=mm_ i b e;exact⟨e1,e2,e3,e4,vs,e5,NV _ _ (aJ e6 RL (by intro z;cases z)) e6⟩
   ·rcases List.mem_cons.mp hc with rfl|hc
    ·exact .inr Em
    ·rcases List.mem_cons.mp hc with rfl|hc
     ·exact .inr anO
     ·exact .inl hc
end
section
variable{C:Addr}{H:Hp}{a:HA}{m:MA}{ps ts:aP}{L pk:Nat}{R:Rm}{N:Nat}{rs ws ms:aZ}{cs:dO}
theorem zR{l:aZ}(h:l.Nodup){i j:Nat}{b:Addr}(e:l[i]? =some b)(e' :l[j]? =some b):i=j:=by
 have h1:=(List.getElem?_eq_some_iff.mp e).1;exact(List.getElem?_inj h1 h).mp (e.trans e'.symm)
theorem wA{cs:dO}{i j:Nat}{vs vs' :az}(e:cs[i]? =some vs):(cs.set i vs')[j]? =if i=j then some vs' else cs[j]? :=by
 have h1:=(List.getElem?_eq_some_iff.mp e).1;rw[List.getElem?_set];by_cases z:i=j
 ·rw[if_pos z,if_pos z,if_pos h1]
 ·rw[if_neg z,if_neg z]
theorem aF.put(h:aF C H a ps ts L pk R N rs cs){i:Nat}{b:Addr}{vs vs' :az}(hb:rs[i]? =some b)(hc:cs[i]? =some vs):aF C (upd H b (.lst vs')) a ps ts L pk R N rs (cs.set i vs'):=by
 obtain⟨o1,o2,o3,vs0,o4,o5⟩:=h.rm i b hb
 have kp:∀{c:Addr} {o:HO},(∀xs,o≠.lst xs)→H c=some o→upd H b (.lst vs') c=some o:=fun ho e=>by
  rw[af (fun z=>by rw[z,o5] at e;injection e with e;exact ho _ e.symm)];exact e
 obtain⟨⟨dx,ob⟩,pl,tl,ne,⟨kv,f1,f2,f3,f4⟩,⟨kw,l1,l2,l3⟩,IG,rl,rm,rn,ow,al⟩:=h;refine⟨⟨dx,kp (by intro _ z;cases z) ob⟩,by rw[af o2.symm];exact pl,by rw[af o3.symm];exact tl,ne,⟨kv,kp (by intro _ z;cases z) f1,f2,fun n=> ?_,f4⟩,⟨kw,kp (by intro _ z;cases z) l1,l2,l3⟩,IG,rl,fun j c e=> ?_,rn,ow,fun c hc=> ?_⟩
 ·rcases f3 n with h|⟨c,e1,e2,e3,e4,e5⟩
  ·exact .inl h
  ·exact .inr ⟨c,e1,e2,e3,e4,kp (by intro _ z;cases z) e5⟩
 ·rw[wA hc];by_cases z:i=j
  ·subst z;rw[hb] at e;cases e;exact⟨o1,o2,o3,vs',if_pos rfl,ae⟩
  ·obtain⟨e1,e2,e3,us,e4,e5⟩:=rm j c e;refine⟨e1,e2,e3,us,by rw[if_neg z];exact e4,?_⟩;rw[af (fun q=>z (zR rn hb (by rw[←q];exact e)))];exact e5
 ·by_cases z:c=b
  ·exact⟨_,jA z⟩
  ·rw[af z];exact al c hc
theorem aO.put(M:aO H m ps ts L pk R ws ms cs){i:Nat}{b:Addr}{vs vs' :az}(hb:ms[i]? =some b)(hc:cs[i]? =some vs):aO (upd H b (.lst vs')) m ps ts L pk R ws ms (cs.set i vs'):=by
 obtain⟨o1,o2,o3,o4,vs0,o5,o6⟩:=M.mm i b hb
 have kp:∀{c:Addr} {o:HO},(∀xs,o≠.lst xs)→H c=some o→upd H b (.lst vs') c=some o:=fun ho e=>by
  rw[af (fun z=>by rw[z,o6] at e;injection e with e;exact ho _ e.symm)];exact e
 obtain⟨ob,hl,tl,ne,wl,iB,way,⟨kv,c1,c2,c3⟩,wn,ml,mm,mn,ow,al⟩:=M;refine⟨kp (by intro _ z;cases z) ob,by rw[af o2.symm];exact hl,by rw[af o3.symm];exact tl,ne,by rw[af o4.symm];exact wl,iB,fun j hj=>⟨(way j hj).1,kp (by intro _ z;cases z) (way j hj).2⟩,⟨kv,kp (by intro _ z;cases z) c1,c2,c3⟩,wn,ml,fun j c e=> ?_,mn,ow,fun c hc=> ?_⟩
 ·rw[wA hc];by_cases z:i=j
  ·subst z;rw[hb] at e;cases e;exact⟨o1,o2,o3,o4,vs',if_pos rfl,ae⟩
  ·obtain⟨e1,e2,e3,e4,us,e5,e6⟩:=mm j c e;refine⟨e1,e2,e3,e4,us,by rw[if_neg z];exact e5,?_⟩;rw[af (fun q=>z (zR mn hb (by rw[←q];exact e)))];exact e6
 ·by_cases z:c=b
  ·exact⟨_,jA z⟩
  ·rw[af z];exact al c hc
theorem d4{R:Rm}{i:Nat}(hi:i<R.length):i∈bW R (R.getD i (0,0)).1:=List.mem_filter.mpr ⟨List.mem_range.mpr hi,beq_self_eq_true _⟩
theorem aF.floor(h:aF C H a ps ts L pk R N rs cs)(hr:∀r∈R,1≤r.2){i:Nat}(hi:i<R.length):∃kv b,H a.fa=some (.dK kv)∧bA kv (.inl ((R.getD i (0,0)).1:Int))=some (.ref b)∧H b=some (.dK (bG R rs (R.getD i (0,0)).1))∧bA (bG R rs (R.getD i (0,0)).1) (.inl (aT R i:Int))=some (.ref (rs.getD i 0)):=by
 obtain⟨kv,f1,f2,f3,f4⟩:=h.fl;rcases f3 (R.getD i (0,0)).1 with z|⟨b,e1,e2,e3,e4,e5⟩
 ·have:=d4 hi;rw[z.2] at this;cases this
 ·exact⟨kv,b,f1,e1,e5,Hl hr rs (d4 hi)⟩
theorem aF.room(h:aF C H a ps ts L pk R N rs cs){i:Nat}(hi:i<R.length):rs[i]? =some (rs.getD i 0)∧rs.getD i 0∈a.own∧∃vs,cs[i]? =some vs∧H (rs.getD i 0)=some (.lst vs):=by
 have e:=dz 0 (show i<rs.length by rw[h.rl];exact hi);obtain⟨e1,e2,e3,vs,e4,e5⟩:=h.rm i _ e;exact⟨e,e1,vs,e4,e5⟩
def Mf:Sp:=fun vs H Q _=>∃t xs,vs=[.ref t]∧H t=some (.tup xs)∧Q (.bl false) H
theorem me(T:Txt K mg A):aV P w K mg base eJ 1 A.jc A.ji ["thing"] Mf:=by
 refine T.gW.ok tD (fun vs H Q E h=> ?_) (fun cG Ar outer s H vs Q E hr h=> ?_)
 ·obtain⟨t,xs,rfl,_⟩:=h;rfl
 ·obtain⟨t,xs,rfl,e,k⟩:=h;refine⟨_,(aq (aG (o8 (aE jn (by rfl) T.cN Boot.«isinstance» (aa (pv 0) (aa (t7 (v:= .ty "int") rfl T.Fo Boot.«int» rfl) ah))) (mI (MN (aE jn (by rfl) T.cN Boot.«isinstance» (aa (pv 0) (aa (t7 (v:= .ty "bool") rfl T.AE Boot.«bool» rfl) ah)))))))),?_⟩;exact⟨_,rfl,_,_,_,_,rfl,.tup e,rfl,_,rfl,g9 k⟩
def Kw:Sp:=fun vs H Q _=>∃n:Nat,vs=[nV n]∧Q (.bl true) H
theorem C4(T:Txt K mg A):aV P w K mg base eJ 2 A.rP A.sf ["thing"] Kw:=by
 have fk:=kg (P:=P) (w:=w) (base:=base) T;refine T.sD.ok Dh (fun vs H Q E h=> ?_) (fun cG Ar outer s H vs Q E hr h=> ?_)
 ·obtain⟨n,rfl,_⟩:=h;rfl
 ·obtain⟨n,rfl,k⟩:=h;refine⟨_,(aq (aG (o8 (ay fk hr rfl T.lM T.gW.kp T.lP .nil aw (aa (pv 0) ah)) (mI (lS ab4 (pv 0) ax (bu _)))))),?_⟩;refine⟨_,rfl,(n:Int),rfl,_,rfl,ka ⟨_,rfl,(n:Int),0,rfl,rfl,?_⟩⟩;have e:decide ((0:Int)≤(n:Int))=true:=decide_eq_true (by omega);show Q (V.bl (decide ((0:Int)≤(n:Int)))) H;rw[e];exact k
def OE:Sp:=fun vs H Q _=>∃t f p,vs=[.ref t]∧H t=some (.tup (oZ f p))∧Q (.bl true) H
theorem xC(T:Txt K mg A):aV P w K mg base eJ 3 A.uV A.uQ ["thing"] OE:=by
 have w4:=C4 (P:=P) (w:=w) (base:=base) T;refine T.uB.ok EC (fun vs H Q E h=> ?_) (fun cG Ar outer s H vs Q E hr h=> ?_)
 ·obtain⟨t,f,p,rfl,_⟩:=h;rfl
 ·obtain⟨t,f,p,rfl,e,k⟩:=h;refine⟨_,(ak (cg (fu (eZ (aE jn (by rfl) T.cN Boot.«isinstance» (aa (pv 0) (aa (t7 (v:= .ty "tuple") rfl T.kr Boot.«tuple» rfl) ah))))) (aq (aG j9)) bj) (aq (aG (o8 (lS xj (aE aU (by rfl) T.eh Boot.«len» (aa (pv 0) ah)) ax (bu _)) (o8 (ay w4 hr rfl T.yb T.sD.kp T.wK .nil aw (aa (bC ie (pv 0) ax (fun _ _=>rfl)) ah)) (mI (ay w4 hr rfl T.yb T.sD.kp T.wK .nil aw (aa (bC ie (pv 0) ax (fun _ _=>rfl)) ah)))))))),?_⟩;refine⟨_,rfl,_,_,_,_,rfl,.tup e,rfl,_,rfl,?_⟩;refine⟨_,rfl,t,_,rfl,.inr (qQ.of e),rfl,_,rfl,?_⟩;refine ka ⟨_,rfl,t,_,_,nV f,rfl,rfl,qQ.of e,rfl,f,rfl,_,rfl,?_⟩;exact ka ⟨_,rfl,t,_,_,nV p,rfl,rfl,qQ.of e,rfl,p,rfl,k⟩
def OP(C:Addr):Sp:=fun vs H Q _=>∃a ps ts L pk R N rs cs i t,vs=[.ref a.f,.ref t]∧aF C H a ps ts L pk R N rs cs∧(∀r∈R,1≤r.2)∧i<R.length∧H t=some (.tup (oZ (R.getD i (0,0)).1 (aT R i)))∧∀H',au H H'→Q (.bl true) H'
theorem j6(T:Txt K mg A):aV P w K mg base eJ 4 A.h_ A.iy ["self","thing"] (OP A.aj):=by
 have uC:=xC (P:=P) (w:=w) (base:=base) T;refine T.pM.ok pF (fun vs H Q E h=> ?_) (fun cG Ar outer s H vs Q E hr h=> ?_)
 ·obtain⟨a,ps,ts,L,pk,R,N,rs,cs,i,t,rfl,_⟩:=h;rfl
 ·obtain⟨a,ps,ts,L,pk,R,N,rs,cs,i,t,rfl,F,lB,hi,e,k⟩:=h;have hu:=dY hr;obtain⟨dx,ho⟩:=F.ob;obtain⟨kv,b,f1,f2,f3,f4⟩:=F.floor lB hi;refine⟨_,(aq (aG (o8 (ay uC hr rfl T.zY T.uB.kp T.Al .nil aw (aa (pv 1) ah)) (mI (MI (MV hu (bC ie (pv 1) ax (fun _ _=>rfl)) (pP hu (b9 (pv 0) rfl) (bC ie (pv 1) ax (fun _ _=>rfl)) mN ⟨rfl,rfl,rfl,rfl⟩))))))),?_⟩;refine⟨_,rfl,t,_,_,rfl,e,_,rfl,ka ⟨_,rfl,t,_,1,_,rfl,rfl,qQ.of e,rfl,_,rfl,a.f,A.aj,dx,_,_,rfl,ho,T.ar,T.cA,sg _ _ _,a.fa,rfl,.inl ⟨_,.inl f1⟩,_,rfl,t,_,0,_,rfl,rfl,qQ.of e,rfl,fun e0 Hw=> ?_⟩⟩;have s1:=au.upd (o:= .dK []) Hw;refine⟨_,fg.k (k:= .inl ((R.getD i (0,0)).1:Int)) (s1 _ _ f1),?_⟩;rw[f2];refine⟨b,_,rfl,fg.k (k:= .inl (aT R i:Int)) (s1 _ _ f3),?_⟩;rw[f4];exact k _ s1
def Ow(C:Addr):Sp:=fun vs H Q _=>∃a ps ts L pk R N rs cs v,vs=[.ref a.f,v]∧aF C H a ps ts L pk R N rs cs∧(∀r∈R,1≤r.2)∧(v= .bJ∨(∃i:Int,v= .int i)∨∃i t,v= .ref t∧i<R.length∧H t=some (.tup (oZ (R.getD i (0,0)).1 (aT R i))))∧∀H',au H H'→Q (.bl true) H'
def UQ:Sp:=fun vs H Q E=>KN vs H Q E∨Mf vs H Q E
theorem yZ(T:Txt K mg A):aV P w K mg base eJ 1 A.jc A.ji ["thing"] UQ:=
 ⟨fun vs H Q E h=>h.elim ((kg (P:=P) (w:=w) (base:=base) T).len vs H Q E) ((me (P:=P) (w:=w) (base:=base) T).len vs H Q E),fun A outer s H args us vs Q E hr he hb hv hs=>hs.elim ((kg T).run A outer s H args us vs Q E hr he hb hv) ((me T).run A outer s H args us vs Q E hr he hb hv)⟩
theorem tV(T:Txt K mg A):aV P w K mg base eJ 5 A.fR A.fP ["self","thing"] (Ow A.aj):=by
 have cc:=j6 (P:=P) (w:=w) (base:=base) T;have fk:=(yZ (P:=P) (w:=w) (base:=base) T).mono (by decide:_≤4);refine T.ng.ok lL (fun vs H Q E h=> ?_) (fun cG Ar outer s H vs Q E hr h=> ?_)
 ·obtain⟨a,ps,ts,L,pk,R,N,rs,cs,v,rfl,_⟩:=h;rfl
 ·obtain⟨a,ps,ts,L,pk,R,N,rs,cs,v,rfl,F,lB,hv,k⟩:=h;obtain⟨dx,ho⟩:=F.ob;refine⟨_,(aq (aG (Gg (lS sJ (pv 1) dh (bu _)) (Gg (ay fk hr rfl T.lM T.gW.kp T.lP .nil aw (aa (pv 1) ah)) (mI (aR (pv 0) T.ar T.fA cc hr T.fN .nil aw (aa (pv 1) ah))))))),?_⟩;rcases hv with rfl|⟨i,rfl⟩|⟨i,t,rfl,hi,e⟩
  ·exact⟨_,rfl,rfl,_,rfl,ka (k _ (au.refl H))⟩
  ·exact⟨_,rfl,rfl,_,rfl,g9 ⟨_,rfl,.inl ⟨i,rfl,_,rfl,ka (k _ (au.refl H))⟩⟩⟩
  ·exact⟨_,rfl,rfl,_,rfl,g9 ⟨_,rfl,.inr ⟨t,_,rfl,e,_,rfl,g9 ⟨_,rfl,a.f,dx,_,rfl,ho,aB (by decide+kernel),_,rfl,a,ps,ts,L,pk,R,N,rs,cs,i,t,rfl,F,lB,hi,e,k⟩⟩⟩⟩
def EZ(C:Addr):Sp:=fun vs H Q _=>∃a ps ts L pk R N rs cs i t,vs=[.ref a.f,.ref t]∧aF C H a ps ts L pk R N rs cs∧(∀r∈R,1≤r.2)∧ps.length=ts.length∧i<R.length∧ts[(R.getD i (0,0)).1]? =some none∧H t=some (.tup (oZ (R.getD i (0,0)).1 (aT R i)))∧∀H',au H H'→Q (.ref (rs.getD i 0)) H'
theorem cx(T:Txt K mg A):aV P w K mg base eJ 6 A.bS A.bU ["self","thing"] (EZ A.aj):=by
 have cc:=(j6 (P:=P) (w:=w) (base:=base) T).mono (by decide:_≤5);have du:=gN (P:=P) (w:=w) (base:=base) T;refine T.ia.ok df (fun vs H Q E h=> ?_) (fun cG Ar outer s H vs Q E hr h=> ?_)
 ·obtain⟨a,ps,ts,L,pk,R,N,rs,cs,i,t,rfl,_⟩:=h;rfl
 ·obtain⟨a,ps,ts,L,pk,R,N,rs,cs,i,t,rfl,F,lB,hl,hi,fw,e,k⟩:=h;have hu:=dY hr;obtain⟨dx,ho⟩:=F.ob;refine⟨_,(ak (cg (fu (eZ (aR (pv 0) T.ar T.fA cc hr T.fN .nil aw (aa (pv 1) ah)))) (aq eN) bj) (ak (a_ (i:=2) df.nd rfl (Or.inl rfl) (aR (pv 0) T.ar T.iz du hr T.hV .nil aw (aa (bC ie (pv 1) ax (fun _ _=>rfl)) ah))) (ak (cg (bc wu (pv 2) dh (bu _)) (aq eN) bj) (aq (aG (aN hu (aN hu (b9 (pv 0) rfl) (bC ie (pv 1) ax (fun _ _=>rfl)) (fun _ _=>rfl)) (bC ie (pv 1) ax (fun _ _=>rfl)) (fun _ _=>rfl))))))),?_⟩;refine⟨_,rfl,a.f,dx,_,rfl,ho,aB (by decide+kernel),_,rfl,a,ps,ts,L,pk,R,N,rs,cs,i,t,rfl,F,lB,hi,e,fun H1 s1=>⟨_,rfl,?_⟩⟩;have F1:=F.same s1;have e1:=s1 _ _ e;obtain⟨pG,Bg⟩:=F1.ob;obtain⟨kv,b,f1,f2,f3,f4⟩:=F1.floor lB hi;refine⟨_,rfl,a.f,pG,_,rfl,Bg,aB (by decide+kernel),_,rfl,t,_,0,_,rfl,rfl,qQ.of e1,rfl,a.f,a.pa,a.ta,ps,ts,(R.getD i (0,0)).1,none,rfl,F1.fr,hl,fw,?_⟩;refine⟨_,rfl,rfl,_,rfl,?_⟩;refine⟨_,rfl,a.f,A.aj,pG,_,_,rfl,Bg,T.ar,T.cA,sg _ _ _,_,rfl,t,_,0,_,rfl,rfl,qQ.of e1,rfl,a.fa,.ref b,rfl,?_,_,rfl,t,_,1,_,rfl,rfl,qQ.of e1,rfl,b,.ref (rs.getD i 0),rfl,?_,k H1 s1⟩
  ·have:=fg.k (k:= .inl ((R.getD i (0,0)).1:Int)) f1;rw[f2] at this;exact this
  ·have:=fg.k (k:= .inl (aT R i:Int)) f3;rw[f4] at this;exact this
def Eo:Sp:=fun vs H Q _=>∃(b:Addr) (xs:az) (k:Nat),vs=[.ref b,.int k]∧H b=some (.lst xs)∧k<xs.length∧Q .bJ H
theorem pq(T:Txt K mg A):aV P w K mg base eJ 3 A.jk A.jH ["room","thing"] Eo:=by
 have ek:=jE (P:=P) (w:=w) (base:=base) T;refine T.gX.ok s_ (fun vs H Q E h=> ?_) (fun cG Ar outer s H vs Q E hr h=> ?_)
 ·obtain⟨b,xs,k,rfl,_⟩:=h;rfl
 ·obtain⟨b,xs,k,rfl,hb,hk,q⟩:=h;refine⟨_,(aq (cg (fu (eZ (ay ek hr rfl T.lz T.iY.kp T.kN .nil aw (aa (pv 1) (aa ax (aa (bH jV (aE aU (by rfl) T.eh Boot.«len» (aa (pv 0) ah)) ax) ah)))))) (aq eN) bj)),?_⟩;refine⟨_,rfl,_,rfl,b,_,rfl,.inl (bB.of hb),_,1,rfl,rfl,(k:Int),0,_,rfl,_,rfl,?_⟩;rw[decide_eq_true (show(0:Int)≤(k:Int) by omega),decide_eq_true (show(k:Int)≤(xs.length:Int) - 1 by omega)];exact q
structure pz(H:Hp)(ts:aP)(R:Rm)(i:Nat)(t:Addr):Prop where
 hi:i<R.length
 st:ts[(R.getD i (0,0)).1]? =some none
 e:H t=some (.tup (oZ (R.getD i (0,0)).1 (aT R i)))
theorem pz.same{H H' :Hp}{ts:aP}{R:Rm}{i:Nat}{t:Addr}(w:pz H ts R i t)(s:au H H'):pz H' ts R i t:=⟨w.hi,w.st,s _ _ w.e⟩
def Zh(C:Addr):Sp:=fun vs H Q _=>∃a ps ts L pk R N rs cs i t xs k,vs=[.ref a.f,.ref t,.int (k:Nat)]∧aF C H a ps ts L pk R N rs cs∧(∀r∈R,1≤r.2)∧ps.length=ts.length∧pz H ts R i t∧cs[i]? =some xs∧k<xs.length∧∀v H',xs[k]? =some v→au H H'→Q v H'
theorem PD(T:Txt K mg A):aV P w K mg base eJ 7 A.g7 A.gU ["self","way","k"] (Zh A.aj):=by
 have aM:=cx (P:=P) (w:=w) (base:=base) T;have fj:=(pq (P:=P) (w:=w) (base:=base) T).mono (by decide:_≤6);refine T.p8.ok fU (fun vs H Q E h=> ?_) (fun cG Ar outer s H vs Q E hr h=> ?_)
 ·obtain⟨a,ps,ts,L,pk,R,N,rs,cs,i,t,xs,k,rfl,_⟩:=h;rfl
 ·obtain⟨a,ps,ts,L,pk,R,N,rs,cs,i,t,xs,k,rfl,F,lB,hl,wa,hc,hk,q⟩:=h;obtain⟨dx,ho⟩:=F.ob;refine⟨_,(ak (a_ (i:=3) fU.nd rfl (Or.inl rfl) (aR (pv 0) T.ar T.bM aM hr T.bN .nil aw (aa (pv 1) ah))) (ak (aY (ay fj hr rfl T.lJ T.gX.kp T.lT .nil aw (aa (pv 3) (aa (pv 2) ah)))) (aq (aG (bC bp (pv 3) (pv 2) (fun _ _=>rfl)))))),?_⟩;refine⟨_,rfl,a.f,dx,_,rfl,ho,aB (by decide+kernel),_,rfl,a,ps,ts,L,pk,R,N,rs,cs,i,t,rfl,F,lB,hl,wa.hi,wa.st,wa.e,fun H1 s1=> ?_⟩;obtain⟨r1,r2,ys,r3,r4⟩:=(F.same s1).room wa.hi;rw[hc] at r3;cases r3;refine⟨_,rfl,_,rfl,rs.getD i 0,xs,k,rfl,r4,hk,?_⟩;exact⟨_,rfl,_,rfl,rs.getD i 0,_,_,xs[k],rfl,rfl,bB.of r4,dD (by simp[hk]),q _ H1 (by simp[hk]) s1⟩
def KQ(C:Addr):Sp:=fun vs H Q _=>∃a ps ts L pk R N rs cs i t xs,vs=[.ref a.f,.ref t]∧aF C H a ps ts L pk R N rs cs∧(∀r∈R,1≤r.2)∧ps.length=ts.length∧pz H ts R i t∧cs[i]? =some xs∧∀H',au H H'→Q (.int xs.length) H'
theorem q_(T:Txt K mg A):aV P w K mg base eJ 7 A.eI A.eA ["self","way"] (KQ A.aj):=by
 have aM:=cx (P:=P) (w:=w) (base:=base) T;refine T.n_.ok mx (fun vs H Q E h=> ?_) (fun cG Ar outer s H vs Q E hr h=> ?_)
 ·obtain⟨a,ps,ts,L,pk,R,N,rs,cs,i,t,xs,rfl,_⟩:=h;rfl
 ·obtain⟨a,ps,ts,L,pk,R,N,rs,cs,i,t,xs,rfl,F,lB,hl,wa,hc,q⟩:=h;obtain⟨dx,ho⟩:=F.ob;refine⟨_,(aq (aG (aE aU (by rfl) T.eh Boot.«len» (aa (aR (pv 0) T.ar T.bM aM hr T.bN .nil aw (aa (pv 1) ah)) ah)))),?_⟩;refine⟨_,rfl,a.f,dx,_,rfl,ho,aB (by decide+kernel),_,rfl,a,ps,ts,L,pk,R,N,rs,cs,i,t,rfl,F,lB,hl,wa.hi,wa.st,wa.e,fun H1 s1=> ?_⟩;obtain⟨r1,r2,ys,r3,r4⟩:=(F.same s1).room wa.hi;rw[hc] at r3;cases r3;exact⟨rs.getD i 0,_,rfl,.inl (bB.of r4),q H1 s1⟩
def OU(C:Addr):Sp:=fun vs H Q _=>∃a ps ts L pk R N rs cs i t xs,vs=[.ref a.f,.ref t]∧aF C H a ps ts L pk R N rs cs∧(∀r∈R,1≤r.2)∧ps.length=ts.length∧pz H ts R i t∧cs[i]? =some xs∧∀l H',H l=none→au H H'→H' l=some (.lst xs)→Q (.ref l) H'
theorem qe(T:Txt K mg A):aV P w K mg base eJ 7 A.mq A.mw ["self","way"] (OU A.aj):=by
 have aM:=cx (P:=P) (w:=w) (base:=base) T;refine T.zh.ok yk (fun vs H Q E h=> ?_) (fun cG Ar outer s H vs Q E hr h=> ?_)
 ·obtain⟨a,ps,ts,L,pk,R,N,rs,cs,i,t,xs,rfl,_⟩:=h;rfl
 ·obtain⟨a,ps,ts,L,pk,R,N,rs,cs,i,t,xs,rfl,F,lB,hl,wa,hc,q⟩:=h;obtain⟨dx,ho⟩:=F.ob;refine⟨_,(aq (aG (ck iA (by rfl) T.oM Boot.«list» (aa (aR (pv 0) T.ar T.bM aM hr T.bN .nil aw (aa (pv 1) ah)) ah)))),?_⟩;refine⟨_,rfl,a.f,dx,_,rfl,ho,aB (by decide+kernel),_,rfl,a,ps,ts,L,pk,R,N,rs,cs,i,t,rfl,F,lB,hl,wa.hi,wa.st,wa.e,fun H1 s1=> ?_⟩;obtain⟨r1,r2,ys,r3,r4⟩:=(F.same s1).room wa.hi;rw[hc] at r3;cases r3;exact⟨rs.getD i 0,_,rfl,.inl (bB.of r4),fun l hl=>q l _ (s1.free hl) (s1.trans (au.upd hl)) ae⟩
def DU(H:Hp)(R:Rm)(v:V):Prop:=v= .bJ∨(∃i:Int,v= .int i)∨∃i t,v= .ref t∧i<R.length∧H t=some (.tup (oZ (R.getD i (0,0)).1 (aT R i)))
theorem DU.same{H H' :Hp}{R:Rm}{v:V}(h:DU H R v)(s:au H H'):DU H' R v:=by
 rcases h with h|h|⟨i,t,h1,h2,h3⟩
 ·exact .inl h
 ·exact .inr (.inl h)
 ·exact .inr (.inr ⟨i,t,h1,h2,s _ _ h3⟩)
def aa8(C:Addr):Sp:=fun vs H Q _=>∃a ps ts L pk R N rs cs i t xs k v,vs=[.ref a.f,.ref t,.int (k:Nat),v]∧aF C H a ps ts L pk R N rs cs∧(∀r∈R,1≤r.2)∧ps.length=ts.length∧pz H ts R i t∧cs[i]? =some xs∧k<xs.length∧DU H R v∧∀H2,au H H2→Q .bJ (upd H2 (rs.getD i 0) (.lst (xs.set k v)))
theorem BJ(T:Txt K mg A):aV P w K mg base eJ 7 A.jo A.jh ["self","way","k","value"] (aa8 A.aj):=by
 have aM:=cx (P:=P) (w:=w) (base:=base) T;have fj:=(pq (P:=P) (w:=w) (base:=base) T).mono (by decide:_≤6);have iV:=(tV (P:=P) (w:=w) (base:=base) T).mono (by decide:_≤6);refine T.vy.ok km (fun vs H Q E h=> ?_) (fun cG Ar outer s H vs Q E hr h=> ?_)
 ·obtain⟨a,ps,ts,L,pk,R,N,rs,cs,i,t,xs,k,v,rfl,_⟩:=h;rfl
 ·obtain⟨a,ps,ts,L,pk,R,N,rs,cs,i,t,xs,k,v,rfl,F,lB,hl,wa,hc,hk,hv,q⟩:=h;obtain⟨dx,ho⟩:=F.ob;refine⟨_,(ak (a_ (i:=4) km.nd rfl (Or.inl rfl) (aR (pv 0) T.ar T.bM aM hr T.bN .nil aw (aa (pv 1) ah))) (ak (aY (ay fj hr rfl T.lJ T.gX.kp T.lT .nil aw (aa (pv 4) (aa (pv 2) ah)))) (ak (cg (fu (eZ (aR (pv 0) T.ar T.mV iV hr T.m8 .nil aw (aa (pv 3) ah)))) (aq eN) bj) (aq (nG (pv 3) (oA (pv 4) (pv 2) ww)))))),?_⟩;refine⟨_,rfl,a.f,dx,_,rfl,ho,aB (by decide+kernel),_,rfl,a,ps,ts,L,pk,R,N,rs,cs,i,t,rfl,F,lB,hl,wa.hi,wa.st,wa.e,fun H1 s1=> ?_⟩;have F1:=F.same s1;obtain⟨r1,r2,ys,r3,r4⟩:=F1.room wa.hi;rw[hc] at r3;cases r3;refine⟨_,rfl,_,rfl,rs.getD i 0,xs,k,rfl,r4,hk,?_⟩;obtain⟨pG,Bg⟩:=F1.ob;refine⟨_,rfl,a.f,pG,_,rfl,Bg,aB (by decide+kernel),_,rfl,a,ps,ts,L,pk,R,N,rs,cs,v,rfl,F1,lB,hv.same s1,fun H2 s2=>⟨_,rfl,?_⟩⟩;have F2:=F1.same s2;refine⟨_,rfl,_,rfl,_,rfl,rs.getD i 0,xs,_,k,rfl,rfl,s2 _ _ r4,qN hk,?_⟩;exact q H2 (s1.trans s2)
end
open PySem.SeqAt
theorem cX.kept{b:Addr}{k:Nat}{H H' :Hp}(B:cX H b k)(h:∀o,H b=some o→H' b=some o):cX H' b k:=by
 obtain⟨x,y,z,hb,r⟩:=B;exact⟨x,y,z,h _ hb,r⟩
theorem cX.lst{b:Addr}{k:Nat}{H:Hp}(B:cX H b k):∃xs,H b=some (.lst xs):=by
 obtain⟨x,y,z,hb,_⟩:=B;exact⟨_,hb⟩
def gS(f p:Nat):PyData:= .tuple [.int f,.int p]
theorem CQ:∀xs:List (Nat×Nat),PyData.canLayAll0 (xs.map fun x=>gS x.1 x.2)=true
 |[]=>by simp[PyData.canLayAll0]
 |x::r=>by
  have ih:=CQ r;simp only[List.map_cons,PyData.canLayAll0,gS,PyData.canLay0] at ih ⊢;rw[ih];rfl
theorem Dr:∀xs:List (Nat×Nat),PyData.depthAll (xs.map fun x=>gS x.1 x.2)≤2
 |[]=>by simp[PyData.depthAll]
 |x::r=>by
  have ih:=Dr r;simp only[List.map_cons,PyData.depthAll,gS,PyData.depth] at ih ⊢;omega
theorem DO(xs:List (Nat×Nat)):shaped (.list (xs.map fun x=>gS x.1 x.2))=true:=by
 show(PyData.canLay0 (.list (xs.map fun x=>gS x.1 x.2))&&decide (PyData.depth (.list (xs.map fun x=>gS x.1 x.2))≤64))=true;rw[Bool.and_eq_true];refine⟨?_,decide_eq_true ?_⟩
 ·simp only[PyData.canLay0];exact CQ xs
 ·have:=Dr xs;simp only[PyData.depth];omega
theorem MM(ds:List PyData):noMix (.list ds) (.list [])=true:=by
 simp only[noMix];cases ds<;>simp only[noMixAll]
theorem Hj(ds:List PyData):PySem.Spec.same (.list ds) (.list [])=ds.isEmpty:=by
 simp only[PySem.Spec.same];cases ds<;>simp[PySem.Spec.sameAll]
theorem Er:shaped (.list [])=true:=by decide+kernel
def Ol(R:Rm)(I:List Nat):List (Nat×Nat):=I.map fun i=>((R.getD i (0,0)).1,aT R i)
theorem Dw{H:Hp}{m:MA}{ps ts:aP}{L top:Nat}{R:Rm}{ws ms:aZ}{cs:dO}(M:aO H m ps ts L top R ws ms cs):∀{I:List Nat},(∀i∈I,i<R.length)→DatAll H (wf ws I) ((Ol R I).map fun x=>gS x.1 x.2)
 |[],_=> .nil
 |i::I,h=> .cons (.tup (M.way i (h i List.mem_cons_self)).2 (.cons (.int _) (.cons (.int _) .nil))) (Dw M fun j hj=>h j (List.mem_cons_of_mem _ hj))
theorem Kv(ws:aZ):ws.map V.ref=wf ws (List.range ws.length):=by
 unfold wf
 conv=>lhs;rw[vh ws 0]
 rw[List.map_map];rfl
def aap(b:Addr)(H0:Hp):TS:=fun D σ H=>∃(k:Nat) (way:Int) (x1 x3:Option V),σ=[some (.ref b),x1,some (.int way),x3]∧0≤way∧way<5∧cX H b k∧k≤1100∧∀v H',(v= .bJ∨∃i:Int,v= .int i∧i.natAbs<10 ^ 40)→cX H' b (k+1)→Kept b H H'→D.rt v H'
section
variable{P:Program}{w:World}{K:Frag}{mg:Str→aH}{base:Heap}{A:qH}
def U1:Sp:=fun vs H Q _=>∃(b l:Addr) (k:Nat) (S:az),vs=[.ref b,.ref l]∧cX H b k∧k+2≤2000∧H l=some (.lst S)∧l≠b∧S≠[]∧S.length≤1000∧
 ∀v H',v∈S→cX H' b (k+2)→Kept b H H'→Q v H'
theorem tU(T:Txt K mg A):aV P w K mg base eJ 2 A.sq A.r_ ["_law_box_here","_law_some"] U1:=by
 have bL:=kc (P:=P) (w:=w) (base:=base) T;refine T.ny.ok qu (fun vs H Q E h=> ?_) (fun cG Ar outer s H vs Q E hr h=> ?_)
 ·obtain⟨b,l,k,S,rfl,_⟩:=h;rfl
 ·obtain⟨b,l,k,S,rfl,B,hk,hl,lb,hS,hlen,q⟩:=h;have AJ:0<S.length:=List.length_pos_iff.mpr hS;refine⟨_,(ak (a_ (i:=2) qu.nd rfl (Or.inl rfl) (ay bL hr rfl T.bX T.bT.kp T.b8 .nil aw (aa (pv 0) (aa ax ah)))) (ak (a_ (i:=3) qu.nd rfl (Or.inl rfl) (ay bL hr rfl T.bX T.bT.kp T.b8 .nil aw (aa (pv 0) (aa (aE aU (by rfl) T.eh Boot.«len» (aa (pv 1) ah)) ah)))) (aq (aG (bC bp (pv 1) (bC bp (bO (aa (pv 3) (aa (bH jV (aE aU (by rfl) T.eh Boot.«len» (aa (pv 1) ah)) ax) (aa (pv 3) ah)))) (pv 2) (fun _ _=>rfl)) (fun _ _=>rfl)))))),?_⟩;refine⟨_,rfl,b,3,k,rfl,B,by omega,by decide,by decide,fun way H1 w0 w1 B1 O1=> ?_⟩;have Ae:=O1.kept _ _ lb hl;refine⟨_,rfl,_,rfl,l,_,rfl,.inl (bB.of Ae),b,_,k+1,rfl,B1,by omega,by omega,by omega,fun at_ H2 a0 a1 B2 O2=> ?_⟩;have m6:=O2.kept _ _ lb Ae;refine⟨_,rfl,_,rfl,_,rfl,l,_,rfl,.inl (bB.of m6),_,1,rfl,rfl,_,rfl,(show 3≤sizeLine by decide),fun p hp=> ?_⟩;have sp:=au.upd (o:= .lst [V.int at_,V.int ((S.length:Int) - 1),V.int at_]) hp;refine⟨_,rfl,?_⟩;refine AK (fun v=>∃i:Nat,v= .int i∧i<S.length) ae w0 w1 ?_ fun v hv=> ?_
  ·intro x hx;simp only[List.mem_cons,List.not_mem_nil,or_false] at hx;rcases hx with rfl|rfl|rfl
   ·exact⟨at_.toNat,by congr 1;omega,by omega⟩
   ·exact⟨S.length - 1,by congr 1;omega,by omega⟩
   ·exact⟨at_.toNat,by congr 1;omega,by omega⟩
  obtain⟨i,rfl,hi⟩:=hv;have hx:S[i]? =some S[i]:=by simp[hi]
  exact⟨l,_,_,_,rfl,rfl,bB.of (sp _ _ m6),dD hx,q _ _ (List.getElem_mem hi) (B2.same sp) ((O1.kept.trans O2.kept).trans sp.kept)⟩
def OA:Sp:=fun vs H Q _=>∃b k m ps ts L top R ws ms cs,vs=[.ref b,.ref m.d]∧cX H b k∧k≤1000∧aO H m ps ts L top R ws ms cs∧¬b∈m.own∧R.length≤1000∧∀v H',Sw ws R.length v→cX H' b (k+3)→Kept b H H'→Q v H'
theorem zo(T:Txt K mg A):aV P w K mg base eJ 3 A.oW A.oB ["_law_box_here","_law_model"] OA:=by
 have bL:=(kc (P:=P) (w:=w) (base:=base) T).mono (by decide:_≤2);have nz:=tU (P:=P) (w:=w) (base:=base) T;refine T.t_.ok mz (fun vs H Q E h=> ?_) (fun cG Ar outer s H vs Q E hr h=> ?_)
 ·obtain⟨b,k,m,ps,ts,L,top,R,ws,ms,cs,rfl,_⟩:=h;rfl
 ·obtain⟨b,k,m,ps,ts,L,top,R,ws,ms,cs,rfl,B,hk,M,nb,hR,q⟩:=h;have hu:=dY hr;have sP:_+100<cLine:=Nat.lt_of_le_of_lt (Nat.add_le_add_left (by decide:100≤16*2+200) _) (by have:=hr.un;omega);refine⟨_,(ak (a_ (i:=2) mz.nd rfl (Or.inl rfl) (ay bL hr rfl T.bX T.bT.kp T.b8 .nil aw (aa (pv 0) (aa ax ah)))) (ak (cg (PW.pt (jaa (bc De (pv 2) ax (bu _)) (Wp (bc (u9 sP) (aN hu (pv 1) aS (fun _ _=>rfl)) (bO ah) (bu _))))) (aq (aG (ay nz hr rfl T.rZ T.ny.kp T.sL .nil aw (aa (pv 0) (aa (aN hu (pv 1) aS (fun _ _=>rfl)) ah))))) bj) (qG (aap b H) (ak (a_ (i:=3) mz.nd rfl (Or.inl rfl) (bH jV (ay bL hr rfl T.bX T.bT.kp T.b8 .nil aw (aa (pv 0) (aa ax ah))) ax)) (aq (aG (bC bp (bO (aa dh (aa (pv 3) (aa (pv 3) (aa dh (aa (bH iP (bH xw (bH jV (bH AR ax ax) ax) (bC bp (bO (aa ax (aa (RW J7 ax) ah))) (bH rO (pv 3) ax) (fun _ _=>rfl))) (pv 3)) ah)))))) (pv 2) (fun _ _=>rfl))))) ?ahu))),?_⟩
  case ahu=>
   rintro D σ H1 ⟨k,way,x1,x3,rfl,w0,w1,B,hk,q⟩
   refine⟨_,rfl,b,12,k,rfl,B,by omega,by decide,by decide,fun r H2 r0 r1 B2 O2=>⟨_,4,rfl,rfl,?_⟩⟩;dsimp only;generalize hn:r - 4=n;have n0: -4≤n:=by omega
   have n1:n<8:=by omega
   refine⟨_,rfl,_,rfl,10,30,rfl,rfl,⟨by decide,by decide,by decide⟩,_,20,rfl,rfl,1,rfl,(show 2≤sizeLine by decide),fun p hp=>⟨_,rfl,n,2,rfl,rfl,(show(0:Int)<2 by decide),?_⟩⟩;have s3:=au.upd (o:= .lst [V.int 1,V.int (-1)]) hp;refine AK (fun v=>v= .int 1∨v= .int (-1)) ae (Int.emod_nonneg _ (by decide)) (Int.emod_lt_of_pos _ (by decide)) (by simp) fun v hv=> ?_
   have fin:∀(i:Int),i.natAbs<10 ^ 40→∀(H3:Hp),au (upd H2 p (.lst [V.int 1,V.int (-1)])) H3→∀(p2:Addr) (xs:az),H3 p2=some (.lst [.bJ,.int n,.int n,.bJ,.int i])→OT K (.ref p2) (.int way) H3 D.rt:=fun i hi H3 s p2 xs h2=>by
    refine AK (fun v=>v= .bJ∨∃i:Int,v= .int i∧i.natAbs<10 ^ 40) h2 w0 (by show way<((5:Nat):Int);omega) ?_ fun v hv=>q v _ hv ((B2.same s3).same s) ((O2.kept.trans s3.kept).trans s.kept);have hnn:n.natAbs<10 ^ 40:=Nat.lt_of_le_of_lt (show n.natAbs≤8 by omega) (by decide+kernel);intro x hx;simp only[List.mem_cons,List.not_mem_nil,or_false] at hx;rcases hx with rfl|rfl|rfl|rfl|rfl
    ·exact .inl rfl
    ·exact .inr ⟨n,rfl,hnn⟩
    ·exact .inr ⟨n,rfl,hnn⟩
    ·exact .inl rfl
    ·exact .inr ⟨i,rfl,hi⟩
   have big:(10:Int) ^ (30:Int).toNat - 20=999999999999999999999999999980:=by decide+kernel
   rcases hv with rfl|rfl
   ·refine⟨_,1,rfl,rfl,.inr ⟨by decide,by decide⟩,_,rfl,_,_,rfl,rfl,(show 5≤sizeLine by decide),fun p2 wX=>⟨_,rfl,?_⟩⟩;refine fin _ ?_ _ (au.upd wX) p2 [] ae;rw[big];have:(10:Nat) ^ 40=10000000000000000000000000000000000000000:=by decide+kernel
    rw[this];omega
   ·refine⟨_, -1,rfl,rfl,.inr ⟨by decide,by decide⟩,_,rfl,_,_,rfl,rfl,(show 5≤sizeLine by decide),fun p2 wX=>⟨_,rfl,?_⟩⟩;refine fin _ ?_ _ (au.upd wX) p2 [] ae;rw[big];have:(10:Nat) ^ 40=10000000000000000000000000000000000000000:=by decide+kernel
    rw[this];omega
  refine⟨_,rfl,b,5,k,rfl,B,by omega,by decide,by decide,fun way H1 w0 w1 B1 O1=> ?_⟩;have M1:aO H1 m ps ts L top R ws ms cs:=M.kept fun c o hc e=>O1.kept c o (fun z=>nb (z▸hc)) e;have rest:∀(H2:Hp) (x3:Option V),au H1 H2→aap b H {nx:=fun _ H' =>Q .bJ H',rt:=Q} [some (.ref b),some (.ref m.d),some (.int way),x3] H2:=fun H2 x3 s=>⟨k+1,way,_,_,rfl,w0,w1,B1.same s,by omega,fun v H' hv B' K' =>q v H' (hv.imp id .inl) (B'.mono (by omega)) ((O1.kept.trans s.kept).trans K')⟩;refine⟨_,rfl,way,3,rfl,rfl,_,rfl,?_⟩;refine zm (fun _=> ?_) (fun _=>rest H1 _ (au.refl H1));refine⟨_,rfl,m.d,_,rfl,M1.yR,(show 0≤sizeLine by decide),fun e0 Hw=> ?_⟩;have s2:=au.upd (o:= .lst []) Hw;have M2:=M1.same s2
  have hI:∀i∈List.range ws.length,i<R.length:=fun i hi=>by
   have:=List.mem_range.mp hi;rw[M.iB] at this;exact this
  have D2:=Dw M2 hI;rw[←Kv] at D2;refine⟨_,_,.lst M2.wl D2,.lst ae .nil,DO _,Er,MM _,_,rfl,?_⟩;rw[Hj];by_cases hw:ws=[]
  ·have:((Ol R (List.range ws.length)).map fun x=>gS x.1 x.2).isEmpty=true:=by rw[hw];rfl
   rw[this];exact rest _ _ s2
  ·have:((Ol R (List.range ws.length)).map fun x=>gS x.1 x.2).isEmpty=false:=by
    unfold Ol;rw[List.isEmpty_eq_false_iff];intro z;have z:=List.map_eq_nil_iff.mp (List.map_eq_nil_iff.mp z);have hz:(List.range ws.length).length=0:=by rw[z];rfl
    rw[List.length_range] at hz;exact hw (List.length_eq_zero_iff.mp hz)
   rw[this];refine ka ?_;have B2:=B1.same s2;have lb:m.wl≠b:=fun z=>nb (z▸M.um.2.2.2.1);refine⟨_,rfl,_,rfl,m.d,_,rfl,M2.yR,b,m.wl,k+1,ws.map V.ref,rfl,B2,by omega,M2.wl,lb,(fun z=>hw (List.map_eq_nil_iff.mp z)),(by rw[List.length_map,M.iB];exact hR),fun v H3 hv B3 K3=> ?_⟩;obtain⟨t,ht,rfl⟩:=List.mem_map.mp hv;obtain⟨i,hi,rfl⟩:=List.mem_iff_getElem.mp ht;refine q _ H3 (.inr (.inr ⟨i,by rw[←M.iB];exact hi,?_⟩)) (B3.mono (by omega)) ((O1.kept.trans s2.kept).trans K3);rw[List.getD_eq_getElem?_getD,List.getElem?_eq_getElem hi];rfl
end
theorem WF.begun{ps ts:aP}(W:WF ps ts){t:Nat}(ht:t<ps.length)(hle:ps.length≤100):WF (ps++[some t]) (ts++[none]):=by
 have hl:=W.len;refine⟨by simp[hl],by simp,by simp;omega,?_,fun i h0 hi=> ?_,fun i j e=> ?_⟩
 ·rw[List.getElem?_append_left W.pos];exact W.root
 ·by_cases hi2:i<ps.length
  ·rw[List.getElem?_append_left hi2];exact W.par i h0 hi2
  ·have e:i=ps.length:=by simp at hi;omega
   subst e;exact⟨t,by simp,ht⟩
 ·rw[List.length_append];by_cases hi2:i<ts.length
  ·rw[List.getElem?_append_left hi2] at e;have:=W.tk i j e;omega
  ·rw[List.getElem?_append_right (by omega)] at e
   cases q:i - ts.length with
   |zero=>rw[q] at e;cases e
   |succ m=>rw[q] at e;simp at e
theorem wV(t:Nat):∀(E:List Nat) (ts:aP) (i:Nat),(xz t E ts)[i]? =ts[i]?∨(i∈E∧(xz t E ts)[i]? =some (some t))
 |[],ts,i=> .inl rfl
 |n::r,ts,i=>by
  rcases wV t r (ts.set n (some t)) i with h|⟨h1,h2⟩
  ·by_cases e:n=i
   ·subst e;by_cases hn:n<ts.length
    ·exact .inr ⟨List.mem_cons_self,by show(xz t r (ts.set n (some t)))[n]? =_;rw[h,List.getElem?_set_self hn]⟩
    ·refine .inl ?_;show(xz t r (ts.set n (some t)))[n]? =_;rw[h,List.getElem?_eq_none (by rw[List.length_set];omega),List.getElem?_eq_none (by omega)]
   ·refine .inl ?_;show(xz t r (ts.set n (some t)))[i]? =_;rw[h,List.getElem?_set_ne e]
  ·exact .inr ⟨List.mem_cons_of_mem _ h1,h2⟩
theorem WF.ended{ps ts:aP}(W:WF ps ts){t:Nat}(ht:t<ps.length)(E:List Nat):WF ps (xz t E ts):=by
 refine⟨by rw[pY];exact W.len,W.pos,W.le,W.root,W.par,fun i j e=> ?_⟩;rcases wV t E ts i with h|⟨_,h⟩
 ·rw[h] at e;exact W.tk i j e
 ·rw[h] at e;cases e;exact ht
theorem Mp{ps ts:aP}(W:WF ps ts){t:Nat}(h:t≠0):¬0∈iQ ps ts t:=fun hm=>by
 have h1:=(List.mem_filter.mp hm).2;have h1:=of_decide_eq_true h1
 have e:ma ps 0=[0]:=by
  show(AU ps 0 0).reverse=[0];rfl
 rw[e] at h1;simp at h1;exact h h1
structure Fits(B k:Nat)(d:PyData):Prop where
 sh:d.showable=true
 dp:d.depth≤k
 ln:d.shown.length≤B
theorem Fits.mono{B B' k k' :Nat}{d:PyData}(g:Fits B k d)(h:B≤B')(h' :k≤k'):Fits B' k' d:=⟨g.sh,Nat.le_trans g.dp h',Nat.le_trans g.ln h⟩
theorem wO{B k:Nat}:∀{ds:List PyData},(∀d∈ds,Fits B k d)→PyData.showableAll ds=true∧PyData.depthAll ds≤k∧((PyData.shownAll ds).map (·.length)).sum≤B*ds.length∧(PyData.shownAll ds).length=ds.length
 |[],_=>by simp[PyData.showableAll,PyData.depthAll,PyData.shownAll]
 |d::r,h=>by
  obtain⟨h1,h2,h3,h4⟩:=wO (ds:=r) fun x hx=>h x (List.mem_cons_of_mem _ hx);have g:=h d List.mem_cons_self;have gl:=g.ln;refine⟨?_,?_,?_,?_⟩
  ·simp only[PyData.showableAll,g.sh,h1,Bool.and_self]
  ·simp only[PyData.depthAll];exact Nat.max_le.mpr ⟨g.dp,h2⟩
  ·simp only[PyData.shownAll,List.map_cons,List.sum_cons,List.length_cons,Nat.mul_add,Nat.mul_one];omega
  ·simp only[PyData.shownAll,List.length_cons,h4]
theorem Fits.list{B k:Nat}{ds:List PyData}(h:∀d∈ds,Fits B k d):Fits (B*ds.length+2*ds.length+3) (k+1) (.list ds):=by
 obtain⟨h1,h2,h3,h4⟩:=wO h;refine⟨?_,?_,?_⟩
 ·simp only[PyData.showable,h1]
 ·simp only[PyData.depth];omega
 ·simp only[PyData.shown];have:=listText_len_le (PyData.shownAll ds);rw[h4] at this;omega
theorem jr{n:Nat}(h:n≤1000):Fits 5 1 (.int n):=by
 refine⟨?_,?_,?_⟩
 ·simp only[PyData.showable];exact decide_eq_true (HW h)
 ·simp[PyData.depth]
 ·simp only[PyData.shown];rw[PySem.ofString_length];exact PySem.int_text_length_le10 (k:=4) (by decide) (by rw[Int.natAbs_natCast];omega)
theorem Fits.tup{B k:Nat}{ds:List PyData}(h:∀d∈ds,Fits B k d):Fits (B*ds.length+2*ds.length+3) (k+1) (.tuple ds):=by
 obtain⟨h1,h2,h3,h4⟩:=wO h;refine⟨?_,?_,?_⟩
 ·simp only[PyData.showable,h1]
 ·simp only[PyData.depth];omega
 ·simp only[PyData.shown];have:=tupleText_len_le (PyData.shownAll ds);rw[h4] at this;omega
theorem Fits.rep{B k:Nat}{d:PyData}(g:Fits B k d)(hB:B≤100000)(hk:k≤90):d.showable=true∧d.depth≤90∧d.shown.length≤sizeLine:=⟨g.sh,Nat.le_trans g.dp hk,Nat.le_trans g.ln (Nat.le_of_lt (bY hB))⟩
theorem XZ{n p:Nat}(h1:n≤1000)(h2:p≤1000):Fits 100 3 (.tuple [.int n,.int p]):=by
 refine(Fits.tup (B:=5) (k:=1) fun d hd=> ?_).mono (by show 5*2+2*2+3≤100;decide) (by decide);simp only[List.mem_cons,List.not_mem_nil,or_false] at hd;rcases hd with rfl|rfl
 ·exact jr h1
 ·exact jr h2
theorem tM{i:Int}(h:i.natAbs<10 ^ 40):Fits 100 3 (.int i):=by
 refine⟨?_,?_,?_⟩
 ·simp only[PyData.showable];refine decide_eq_true ?_;by_cases h0:i.natAbs=0
  ·rw[h0];decide
  ·refine(Nat.log2_lt h0).mpr (Nat.lt_trans h ?_);decide+kernel
 ·simp[PyData.depth]
 ·simp only[PyData.shown];rw[PySem.ofString_length];exact Nat.le_trans (PySem.int_text_length_le10 (k:=40) (by decide) h) (by decide)
theorem Ap:Fits 100 3 .none:=by
 refine⟨?_,?_,?_⟩
 ·simp only[PyData.showable]
 ·simp[PyData.depth]
 ·simp only[PyData.shown];decide+kernel
theorem Lo{f p:Nat}(h1:f≤100000)(h2:p≤100000):Fits 1000 4 (gS f p):=by
 have h:∀n:Nat,n≤100000→Fits 100 3 (.int (n:Int)):=fun n hn=>tM (Nat.lt_of_le_of_lt (show(n:Int).natAbs≤100000 by rw[Int.natAbs_natCast];exact hn) (by decide+kernel));refine(Fits.tup (B:=100) (k:=3) fun d hd=> ?_).mono (by show 100*2+2*2+3≤1000;decide) (by decide);simp only[List.mem_cons,List.not_mem_nil,or_false] at hd;rcases hd with rfl|rfl
 ·exact h f h1
 ·exact h p h2
structure nr(C:Addr)(H:Hp)(a:HA)(m:MA)(ps ts:aP)(L pk:Nat)(R:Rm)(N:Nat)(rs ws ms:aZ)(cs:dO):Prop where
 h:aF C H a ps ts L pk R N rs cs
 mo:aO H m ps ts L pk R ws ms cs
 G:Good ps ts L pk R
 ok:BN R ws cs
 ap:∀c∈a.own,¬c∈m.own
section
variable{C:Addr}{H H' H4 H5 H6:Hp}{a:HA}{m:MA}{ps ts:aP}{L pk:Nat}{R:Rm}{N:Nat}{rs ws ms:aZ}{cs:dO}{t:Nat}
theorem nr.same(t:nr C H a m ps ts L pk R N rs ws ms cs)(s:au H H'):nr C H' a m ps ts L pk R N rs ws ms cs:=⟨t.h.same s,t.mo.same s,t.G,t.ok,t.ap⟩
theorem nr.kept(t:nr C H a m ps ts L pk R N rs ws ms cs)(k:∀c o,c∈a.own∨c∈m.own→H c=some o→H' c=some o):nr C H' a m ps ts L pk R N rs ws ms cs:=⟨t.h.kept fun c o hc e=>k c o (.inl hc) e,t.mo.kept fun c o hc e=>k c o (.inr hc) e,t.G,t.ok,t.ap⟩
theorem nr.r1(t:nr C H a m ps ts L pk R N rs ws ms cs):∀r∈R,1≤r.2:=fun r hr=>(t.G.rw r hr).1
theorem nr.rt(t:nr C H a m ps ts L pk R N rs ws ms cs):∀r∈R,r.1<ts.length:=fun r hr=>by
 have:=(t.G.rw r hr).2.2;have:=t.G.W.len;omega
theorem nr.Ca(t:nr C H a m ps ts L pk R N rs ws ms cs){i:Nat}(hi:i<R.length)(st:ts[(R.getD i (0,0)).1]? =some none):pz H ts R i (ws.getD i 0):=⟨hi,st,(t.mo.way i hi).2⟩
theorem nr.valAt(t:nr C H a m ps ts L pk R N rs ws ms cs){v:V}(h:Sw ws R.length v):DU H R v:=by
 rcases h with h|⟨i,h,_⟩|⟨i,hi,h⟩
 ·exact .inl h
 ·exact .inr (.inl ⟨i,h⟩)
 ·exact .inr (.inr ⟨i,_,h,hi,(t.mo.way i hi).2⟩)
theorem CT(R:Rm)(h:∀r∈R,r.2≤6)(i:Nat):aT R i≤6*R.length:=by
 unfold aT;refine Nat.le_trans (Gk (R:=R.take i) (fun r hr=>h r (List.mem_of_mem_take hr)) _) ?_;rw[List.length_take];omega
theorem nr.dat(t:nr C H a m ps ts L pk R N rs ws ms cs)(hR:R.length≤1000):∀{xs:az},(∀v∈xs,Sw ws R.length v)→∃ds,ds.length=xs.length∧DatAll H xs ds∧∀d∈ds,Fits 1000 4 d
 |[],_=>⟨[],rfl,.nil,fun d hd=>by cases hd⟩
 |v::xs,h=>by
  obtain⟨ds,h1,h2,h3⟩:=nr.dat t hR (xs:=xs) fun u hu=>h u (List.mem_cons_of_mem _ hu)
  have hv:∃d,Dat H v d∧Fits 1000 4 d:=by
   rcases h v List.mem_cons_self with rfl|⟨i,rfl,hi⟩|⟨i,hi,rfl⟩
   ·exact⟨.none,.bJ,Ap.mono (by decide) (by decide)⟩
   ·exact⟨.int i,.int i,(tM hi).mono (by decide) (by decide)⟩
   ·refine⟨_,.tup (t.mo.way i hi).2 (.cons (.int _) (.cons (.int _) .nil)),Lo ?_ ?_⟩
    ·have:=t.rt _ (wv hi);have:=t.G.ts;omega
    ·have:=CT R (fun r hr=>(t.G.rw r hr).2.1) i;omega
  obtain⟨d,d1,d2⟩:=hv;refine⟨d::ds,by rw[List.length_cons,List.length_cons,h1],.cons d1 h2,fun e he=> ?_⟩;rcases List.mem_cons.mp he with rfl|he
  ·exact d2
  ·exact h3 e he
theorem BN.put{i k:Nat}{xs:az}{v:V}(c:BN R ws cs)(hc:cs[i]? =some xs)(hv:Sw ws R.length v):BN R ws (cs.set i (xs.set k v)):=by
 refine⟨by rw[List.length_set];exact c.cl,fun j vs e=> ?_,fun j vs e u hu=> ?_⟩
 ·rw[wA hc] at e;by_cases z:i=j
  ·rw[if_pos z] at e;cases e;subst z;rw[List.length_set];exact c.cz i xs hc
  ·rw[if_neg z] at e;exact c.cz j vs e
 ·rw[wA hc] at e;by_cases z:i=j
  ·rw[if_pos z] at e;cases e;rcases List.mem_or_eq_of_mem_set hu with h|rfl
   ·exact c.vo i xs hc u h
   ·exact hv
  ·rw[if_neg z] at e;exact c.vo j vs e u hu
theorem BN.snoc{t n:Nat}{wt:Addr}(c:BN R ws cs)(hw:ws.length=R.length):BN (R++[(t,n)]) (ws++[wt]) (cs++[List.replicate n .bJ]):=by
 have up:∀{v:V},Sw ws R.length v→Sw (ws++[wt]) (R++[(t,n)]).length v:=fun h=>by
  rcases h with h|h|⟨i,hi,h⟩
  ·exact .inl h
  ·exact .inr (.inl h)
  ·exact .inr (.inr ⟨i,by rw[List.length_append];omega,by rw[ik (by omega)];exact h⟩)
 refine⟨by rw[List.length_append,List.length_append,c.cl];rfl,fun j vs e=> ?_,fun j vs e u hu=> ?_⟩
 ·by_cases hj:j<cs.length
  ·rw[List.getElem?_append_left hj] at e;rw[ik (by rw[←c.cl];exact hj)];exact c.cz j vs e
  ·have yn :=(List.getElem?_eq_some_iff.mp e).1;rw[List.length_append] at yn;have hj:j=cs.length:=by simp at yn;omega
   subst hj;rw[List.getElem?_append_right (Nat.le_refl _),Nat.sub_self] at e;cases e;rw[c.cl,wP];exact List.length_replicate
 ·by_cases hj:j<cs.length
  ·rw[List.getElem?_append_left hj] at e;exact up (c.vo j vs e u hu)
  ·have yn :=(List.getElem?_eq_some_iff.mp e).1;rw[List.length_append] at yn;have hj:j=cs.length:=by simp at yn;omega
   subst hj;rw[List.getElem?_append_right (Nat.le_refl _),Nat.sub_self] at e;cases e;exact .inl (List.eq_of_mem_replicate hu)
theorem nr.finish(Z:nr C H4 a m ps ts L pk R N rs ws ms cs)(h0:t≠0)(ht:t<ps.length)(F5:kj C H5 a.f a.pa a.ta ps (xz t (iQ ps ts t) ts))(K5:jF a.pa a.ta H4 H5)
 (M6:fX H6 m.d m.ha m.tk ps (xz t (iQ ps ts t) ts)) (K6:jF m.ha m.tk H5 H6):nr C H6 a m ps (xz t (iQ ps ts t) ts) L pk R N rs ws ms cs∧∀c o,¬c∈a.own→¬c∈m.own→H4 c=some o→H6 c=some o:=by
 obtain⟨o1,o2,o3,o4,o5⟩:=Z.h.um;obtain⟨q1,q2,q3,q4,q5⟩:=Z.mo.um;have h5:=Z.h.frames F5 K5;have m5:aO H5 m ps ts L pk R ws ms cs:=Z.mo.kept fun c o hc e=>K5 c o (fun z=>Z.ap _ o2 (z▸hc)) (fun z=>Z.ap _ o3 (z▸hc)) e;have h6:aF C H6 a ps (xz t (iQ ps ts t) ts) L pk R N rs cs:=h5.kept fun c o hc e=>K6 c o (fun z=>Z.ap c hc (z▸q2)) (fun z=>Z.ap c hc (z▸q3)) e;refine⟨⟨h6,m5.frames M6 K6,⟨Z.G.W.ended ht (iQ ps ts t),?_,Z.G.rw,Z.G.lo,Z.G.hi,Nat.le_trans (A2 _ _ _ _) Z.G.use,Z.G.pk⟩,Z.ok,Z.ap⟩,fun c o h1 h2 e=>K6 c o (fun z=>h2 (z▸q2)) (fun z=>h2 (z▸q3)) (K5 c o (fun z=>h1 (z▸o2)) (fun z=>h1 (z▸o3)) e)⟩;rcases wV t (iQ ps ts t) ts 0 with h|⟨h,_⟩
 ·rw[h];exact Z.G.g
 ·exact absurd h (Mp Z.G.W h0)
theorem nr.begin(Z:nr C H4 a m ps ts L pk R N rs ws ms cs)(ht:t<ps.length)(P4:ps.length≤100)(F5:kj C H5 a.f a.pa a.ta (ps++[some t]) (ts++[none]))(K5:jF a.pa a.ta H4 H5)
 (M6:fX H6 m.d m.ha m.tk (ps++[some t]) (ts++[none])) (K6:jF m.ha m.tk H5 H6):nr C H6 a m (ps++[some t]) (ts++[none]) L pk R N rs ws ms cs∧∀c o,¬c∈a.own→¬c∈m.own→H4 c=some o→H6 c=some o:=by
 obtain⟨o1,o2,o3,o4,o5⟩:=Z.h.um;obtain⟨q1,q2,q3,q4,q5⟩:=Z.mo.um;have h5:=Z.h.frames F5 K5;have m5:aO H5 m ps ts L pk R ws ms cs:=Z.mo.kept fun c o hc e=>K5 c o (fun z=>Z.ap _ o2 (z▸hc)) (fun z=>Z.ap _ o3 (z▸hc)) e;have h6:aF C H6 a (ps++[some t]) (ts++[none]) L pk R N rs cs:=h5.kept fun c o hc e=>K6 c o (fun z=>Z.ap c hc (z▸q2)) (fun z=>Z.ap c hc (z▸q3)) e;have hW:=Z.G.W.len;have AJ:=Z.G.W.pos;refine⟨⟨h6,m5.frames M6 K6,⟨Z.G.W.begun ht P4,?_,fun r hr=> ?_,Z.G.lo,Z.G.hi,?_,Z.G.pk⟩,Z.ok,Z.ap⟩,fun c o h1 h2 e=>K6 c o (fun z=>h2 (z▸q2)) (fun z=>h2 (z▸q3)) (K5 c o (fun z=>h1 (z▸o2)) (fun z=>h1 (z▸o3)) e)⟩
 ·rw[List.getElem?_append_left (by omega)];exact Z.G.g
 ·obtain⟨r1,r2,r3⟩:=Z.G.rw r hr;refine⟨r1,r2,?_⟩;rw[List.length_append];omega
 ·rw[Co ts fun r hr=>by have:=(Z.G.rw r hr).2.2;omega];exact Z.G.use
def NC:Sp:=fun vs H Q _=>∃L:Nat,vs=[.int L]∧∀m H',(∀c∈m.own,H c=none)→aO H' m [none] [none] L 0 [] [] [] []→au H H'→Q (.ref m.d) H'
theorem zl(T:Txt K mg A):aV P w K mg base eJ 1 A.nu A.oO ["_law_limit"] NC:=by
 refine T.ko.ok yq (fun vs H Q E h=> ?_) (fun cG Ar outer s H vs Q E hr h=> ?_)
 ·obtain⟨L,rfl,_⟩:=h;rfl
 ·obtain⟨L,rfl,k⟩:=h;refine⟨_,(aq (aG (OF (mQ aS (bO (aa dh ah)) (mQ aS (bO (aa dh ah)) (mQ aS (pv 0) (mQ aS ax (mQ aS (bO ah) (mQ aS Jl Oi)))))) rfl rfl (by simp) (by decide)))),?_⟩;intro d hd;have s0:=au.upd (o:= .dK []) hd;refine⟨(show 1≤sizeLine by decide),fun ha hha=>⟨(show 1≤sizeLine by decide),fun tk U4=>⟨_,rfl,(show 0≤sizeLine by decide),fun wl wC=>fun ca PR=> ?_⟩⟩⟩;have s1:=au.upd (o:= .lst [.bJ]) hha;have s2:=au.upd (o:= .lst [.bJ]) U4;have s3:=au.upd (o:= .lst []) wC;have s4:=au.upd (o:= .dT []) PR;have d0:upd H d (.dK []) d=some (.dK []):=ae;have h1:upd (upd H d (.dK [])) ha (.lst [.bJ]) ha=some (.lst [.bJ]):=ae;have h2:upd (upd (upd H d (.dK [])) ha (.lst [.bJ])) tk (.lst [.bJ]) tk=some (.lst [.bJ]):=ae;have h3:upd (upd (upd (upd H d (.dK [])) ha (.lst [.bJ])) tk (.lst [.bJ])) wl (.lst []) wl=some (.lst []):=ae;have nd1:ha≠d:=(ag d0 hha).symm;have nd2:tk≠d:=(ag (s1 _ _ d0) U4).symm;have nd3:wl≠d:=(ag (s2 _ _ (s1 _ _ d0)) wC).symm;have nd4:ca≠d:=(ag (s3 _ _ (s2 _ _ (s1 _ _ d0))) PR).symm;have n12:ha≠tk:=ag h1 U4;have n13:wl≠ha:=(ag (s2 _ _ h1) wC).symm;have n23:wl≠tk:=(ag h2 wC).symm;refine⟨s4 _ _ (s3 _ _ (s2 _ _ (s1 _ _ d0))),[(kH,.ref ha),(kT,.ref tk),(kL,.int L),(kP,.int 0),(kW,.ref wl),(kC,.ref ca)],(by kernel_rfl),by show 6≤15;decide,?_⟩;have em:mr [] [(kH,V.ref ha),(kT,.ref tk),(kL,.int L),(kP,.int 0),(kW,.ref wl),(kC,.ref ca)]=qV ha tk ⟨.int L,.int 0,.ref wl,.ref ca⟩:=by kernel_rfl
  rw[em]
  have nf:∀{c:Addr},c≠d→∀{o},upd (upd (upd (upd (upd H d (.dK [])) ha (.lst [.bJ])) tk (.lst [.bJ])) wl (.lst [])) ca (.dT []) c=some o→upd (upd (upd (upd (upd (upd H d (.dK [])) ha (.lst [.bJ])) tk (.lst [.bJ])) wl (.lst [])) ca (.dT [])) d (.dK (qV ha tk ⟨.int L,.int 0,.ref wl,.ref ca⟩)) c=some o:=fun h _ e=>by
   rw[af h];exact e
  refine k ⟨d,ha,tk,wl,ca,[d,ha,tk,wl,ca]⟩ _ ?_ ⟨ae,nf nd1 (s4 _ _ (s3 _ _ (s2 _ _ h1))),nf nd2 (s4 _ _ (s3 _ _ h2)),n12,nf nd3 (s4 _ _ h3),rfl,(fun i hi=>absurd hi (Nat.not_lt_zero _)),⟨[],nf nd4 ae,Nat.le_refl _,(fun i hi=>absurd hi (Nat.not_lt_zero _))⟩,⟨n13,n23⟩,rfl,(fun i b e=>by cases e),.nil,(by simp),fun c hc=> ?_⟩ fun c o e=> ?_
  ·intro c hc;simp only[List.mem_cons,List.not_mem_nil,or_false] at hc;rcases hc with rfl|rfl|rfl|rfl|rfl
   ·exact hd
   ·exact s0.free hha
   ·exact s0.free (s1.free U4)
   ·exact s0.free (s1.free (s2.free wC))
   ·exact s0.free (s1.free (s2.free (s3.free PR)))
  ·simp only[List.mem_cons,List.not_mem_nil,or_false] at hc;rcases hc with rfl|rfl|rfl|rfl|rfl
   ·exact⟨_,ae⟩
   ·exact⟨_,nf nd1 (s4 _ _ (s3 _ _ (s2 _ _ h1)))⟩
   ·exact⟨_,nf nd2 (s4 _ _ (s3 _ _ h2))⟩
   ·exact⟨_,nf nd3 (s4 _ _ h3)⟩
   ·exact⟨_,nf nd4 ae⟩
  ·exact nf (ag e hd) (s4 _ _ (s3 _ _ (s2 _ _ (s1 _ _ (s0 _ _ e)))))
end
theorem yh{J:It}{n k:Nat}{js:List Nat}{Y:Nat→V→Hp→Prop}{g:TG}{te:TE}{σ:L2.St}{H:Hp}{Q:VK}(E:Nat→V→(Addr→Prop)→Hp→Prop)(F:pR J H n Y)(hlen:n≤sizeLine)
 (fw:∀i v M H1 H2,(∀c o,M c→H1 c=some o→H2 c=some o)→E i v M H1→E i v M H2) (hal:∀i v M H1,E i v M H1→∀c,M c→∃o,H1 c=some o)
 (ll:∀(i:Nat) (x:V) (H' :Hp) (C1:V→Hp→Prop),i<n→au H H'→Y i x H'→(∀v lC M,au H' lC→(∀c,M c→H' c=none)→E i v M lC→C1 v lC)→
  g x (v7 k js σ) H' fun nT H2=>gk (v7 k js σ) nT∧te nT H2 C1)
 (hq:∀p H' ys (M:Nat→Addr→Prop),H p=none→au H H'→H' p=some (.lst ys)→ys.length=n→(∀i v,ys[i]? =some v→E i v (M i) H'∧∀c,M i c→c≠p∧H c=none)→(∀i j,i<j→j<n→∀c,M i c→¬M j c)→Q (.ref p) H'):
 mY J k js g VW te σ H Q:=by
 intro p hp
 refine⟨fun i m ys H' =>m=n - i∧i≤n∧ys.length=i∧H' p=some (.lst ys)∧au H H'∧∃M:Nat→Addr→Prop,(∀j v,ys[j]? =some v→E j v (M j) H'∧∀c,M j c→c≠p∧H c=none)∧∀j1 j2,j1<j2→j2<i→∀c,M j1 c→¬M j2 c,
  ⟨n,rfl,Nat.zero_le _,rfl,ae,au.upd hp,fun _ _=>False,fun j v e=>by simp at e,fun j1 j2 _ h=>by omega⟩,?_⟩
 rintro i m ys H' ⟨rfl,hi,rX,hl,hs,M,hE,hM⟩
 refine⟨hl,?_⟩;by_cases eQ:i<n
 ·refine .inr ⟨F.go i _ hs eQ,by omega,fun x lC hy=> ?_⟩;obtain⟨s1,y1⟩:=F.wd i _ x lC hs eQ hy;refine ll i x lC (fun v H4=>H4 p=some (.lst ys)∧∃m',m' <n - i∧(m' =n - (i+1)∧i+1≤n∧(ys++[v]).length=i+1∧upd H4 p (.lst (ys++[v])) p=some (.lst (ys++[v]))∧au H (upd H4 p (.lst (ys++[v])))∧∃M:Nat→Addr→Prop,(∀j v',(ys++[v])[j]? =some v'→E j v' (M j) (upd H4 p (.lst (ys++[v])))∧∀c,M j c→c≠p∧H c=none)∧∀j1 j2,j1<j2→j2<i+1→∀c,M j1 c→¬M j2 c)) eQ (hs.trans s1) y1 ?_;intro v H4 M4 s4 f4 e4;have hp4:H4 p=some (.lst ys):=s4 _ _ (s1 _ _ hl)
  have np:∀c,lC c=none→c≠p:=fun c z z' =>by
   rw[z',s1 _ _ hl] at z;cases z
  refine⟨hp4,n - (i+1),by omega,rfl,eQ,by simp[rX],ae,fun c o e=> ?_,fun j=>if j=i then M4 else M j,fun j v' e=> ?_,fun j1 j2 h12 h2 c=> ?_⟩
  ·rw[af (ag e hp)];exact s4 _ _ (s1 _ _ (hs _ _ e))
  ·by_cases hj:j<ys.length
   ·rw[List.getElem?_append_left hj] at e;obtain⟨h1,h2⟩:=hE j v' e;dsimp only;rw[if_neg (by omega)];refine⟨fw _ _ _ _ _ (fun c o z q=> ?_) h1,h2⟩;rw[af (h2 c z).1];exact s4 _ _ (s1 _ _ q)
   ·rw[List.getElem?_append_right (by omega)] at e
    have QA:j - ys.length=0:=by
     have:=(List.getElem?_eq_some_iff.mp e).1;simp at this;omega
    rw[QA] at e;cases e;have:j=i:=by omega
    subst this;dsimp only;rw[if_pos rfl];refine⟨fw _ _ _ _ _ (fun c o z q=> ?_) e4,fun c z=>⟨np c (f4 c z),(hs.trans s1).free (f4 c z)⟩⟩;rw[af (np c (f4 c z))];exact q
  ·dsimp only;by_cases z2:j2=i
   ·rw[if_neg (by omega),if_pos z2];intro h1 h4;have Rn:∃v1,ys[j1]? =some v1:=⟨ys[j1],by simp⟩;obtain⟨v1,e1⟩:=Rn;obtain⟨o,eo⟩:=hal _ _ _ _ (hE j1 v1 e1).1 c h1;have:=s1 _ _ eo;rw[f4 c h4] at this;cases this
   ·rw[if_neg (by omega),if_neg z2];exact hM j1 j2 h12 (by omega) c
 ·have e:i=n:=by omega
  subst e;exact .inl ⟨F.stop _ _ hs (Nat.le_refl _),hq p H' ys M hp hs hl rX hE hM⟩
theorem z5(R:Rm)(n:Nat):(bW R n).Nodup:=List.Pairwise.filter _ List.nodup_range
def gQ(R:Rm)(g:Nat→Addr)(n:Nat):bK:=(bW R n).map fun i=>(Sum.inl (aT R i:Int),V.ref (g i))
theorem xm{α:Type}(f:α→wp)(h:α→V):∀(l:List α) (acc:bK),(l.map f).Nodup→(∀x∈l,bA acc (f x)=none)→mr acc (l.map fun x=>(f x,h x))=acc++l.map fun x=>(f x,h x)
 |[],acc,_,_=>by
  show acc=acc++[];rw[List.append_nil]
 |x::r,acc,hn,hv=>by
  rw[List.map_cons,List.nodup_cons] at hn;have e:=tK (h x) (hv x (.head _))
  have hh:=xm f h r (v4 acc (f x) (h x)) hn.2 fun y hy=>by
   rw[fF,if_neg (show ¬f y=f x from fun z=>hn.1 (by rw[←z];exact List.mem_map_of_mem hy))];exact hv y (.tail _ hy)
  show mr (v4 acc (f x) (h x)) (r.map fun x=>(f x,h x))=_;rw[hh,e,List.append_assoc];rfl
theorem DJ{R:Rm}(hr:∀r∈R,1≤r.2)(g:Nat→Addr)(n:Nat):mr [] (gQ R g n)=gQ R g n:=by
 refine(xm (fun i=>(Sum.inl (aT R i:Int):wp)) (fun i=>V.ref (g i)) (bW R n) [] ?_ fun x _=>rfl).trans (List.nil_append _);refine List.pairwise_map.mpr (List.Pairwise.imp_of_mem (fun{a b} ha hb jw z=>jw (m_ hr ha hb ?_)) (z5 R n));have:(aT R a:Int)=aT R b:=Sum.inl.inj z;omega
structure TwI(H4 H' :Hp)(fa:Addr)(R:Rm)(cs:dO)(S:Nat→Prop)(kv:bK)(g:Nat→Addr):Prop where
 fl:H' fa=some (.dK kv)
 ok:Bv kv
 on:∀n,S n→∃d,bA kv (.inl (n:Int))=some (.ref d)∧H4 d=none∧H' d=some (.dK (gQ R g n))
 off:∀n,¬S n→bA kv (.inl (n:Int))=none
 inj:∀(n n' :Nat) d,bA kv (.inl (n:Int))=some (.ref d)→bA kv (.inl (n' :Int))=some (.ref d)→n=n'
 rm:∀n,S n→∀m∈bW R n,H4 (g m)=none∧∃vs,cs[m]? =some vs∧H' (g m)=some (.lst vs)
 gi:∀n n',S n→S n'→∀m∈bW R n,∀m'∈bW R n',g m=g m'→m=m'
theorem HC{kv:bK}(h:Bv kv){t:Nat}{b:Addr}:Bv (v4 kv (.inl (t:Int)) (.ref b)):=by
 have Za:bA (v4 kv (.inl (t:Int)) (.ref b)) (.inl (t:Int))=some (.ref b):=by rw[fF,if_pos rfl]
 have old:∀p∈kv,p∈v4 kv (.inl (t:Int)) (.ref b)→¬p.1= .inl (t:Int)→∃(n:Nat) (c:Addr),p=(.inl (n:Int),.ref c)∧bA (v4 kv (.inl (t:Int)) (.ref b)) (.inl (n:Int))=some (.ref c):=fun p hp _ jw=>by
  obtain⟨n,c,e1,e2⟩:=h p hp;refine⟨n,c,e1,?_⟩;rw[fF,if_neg (fun z=>jw (by rw[e1];exact z))];exact e2
 intro p hp;have hp' :=hp;unfold v4 at hp
 split at hp
 ·obtain⟨p0,h0,e0⟩:=List.mem_map.mp hp;by_cases z:p0.1= .inl (t:Int)
  ·rw[if_pos z] at e0;exact⟨t,b,by rw[←e0,z],Za⟩
  ·rw[if_neg z] at e0;subst e0;exact old _ h0 hp' z
 ·rename_i Y2;rcases List.mem_append.mp hp with hp|hp
  ·by_cases z:p.1= .inl (t:Int)
   ·obtain⟨n,c,e1,e2⟩:=h p hp;rw[e1] at z;have hn:(n:Int)=t:=Sum.inl.inj z;rw[nj,←hn,e2] at Y2;exact absurd rfl Y2
   ·exact old p hp hp' z
  ·have hp:p=(.inl (t:Int),.ref b):=by simpa using hp
   exact⟨t,b,hp,Za⟩
theorem TwI.step{H4 H5 H9:Hp}{fa:Addr}{R:Rm}{cs:dO}{S:Nat→Prop}{kv:bK}{g g2:Nat→Addr}(h:TwI H4 H5 fa R cs S kv g){n:Nat}{d:Addr}{q4:HO}(e4:H4 fa=some q4)(k:∀c o,H5 c=some o→H9 c=some o)(hd:H5 d=none)(ed:H9 d=some (.dK (gQ R g2 n)))(fr:∀c,H5 c=none→H4 c=none)
 (hg:∀m∈bW R n,H5 (g2 m)=none∧∃vs,cs[m]? =some vs∧H9 (g2 m)=some (.lst vs)) (gi:∀m∈bW R n,∀m'∈bW R n,g2 m=g2 m'→m=m'):
 TwI H4 (upd H9 fa (.dK (v4 kv (.inl (n:Int)) (.ref d)))) fa R cs (fun x=>S x∨x=n) (v4 kv (.inl (n:Int)) (.ref d)) (fun m=>if(R.getD m (0,0)).1=n then g2 m else g m):=by
 have UI:fa≠d:=ag h.fl hd
 have k' :∀c o,c≠fa→H9 c=some o→upd H9 fa (.dK (v4 kv (.inl (n:Int)) (.ref d))) c=some o:=fun c o hc e=>by
  rw[af hc];exact e
 have WN:∀c,H5 c=none→c≠fa:=fun c e z=>by
  rw[z,h.fl] at e;cases e
 have kne:∀x:Nat,¬x=n→¬(Sum.inl (x:Int):wp)=Sum.inl (n:Int):=fun x hx z=>hx (by have:(x:Int)=n:=Sum.inl.inj z;omega);have VF:bA (v4 kv (.inl (n:Int)) (.ref d)) (.inl (n:Int))=some (.ref d):=by rw[fF,if_pos rfl]
 have Hx:∀x:Nat,¬x=n→bA (v4 kv (.inl (n:Int)) (.ref d)) (.inl (x:Int))=bA kv (.inl (x:Int)):=fun x hx=>by rw[fF,if_neg (kne x hx)]
 have dN:∀(x:Nat) (e:Addr),bA kv (.inl (x:Int))=some (.ref e)→S x→e≠d:=fun x e hv hs=>by
  obtain⟨d0,e1,_,e3⟩:=h.on x hs;rw[hv] at e1;cases e1;exact ag e3 hd
 have gn:∀m∈bW R n,(if(R.getD m (0,0)).1=n then g2 m else g m)=g2 m:=fun m hm=>if_pos (oh hm);have go:∀x,¬x=n→∀m∈bW R x,(if(R.getD m (0,0)).1=n then g2 m else g m)=g m:=fun x hx m hm=>if_neg (fun z=>hx ((oh hm).symm.trans z));have fn:gQ R (fun m=>if(R.getD m (0,0)).1=n then g2 m else g m) n=gQ R g2 n:=List.map_congr_left fun m hm=>by simp only[gn m hm]
 have fo:∀x,¬x=n→gQ R (fun m=>if(R.getD m (0,0)).1=n then g2 m else g m) x=gQ R g x:=fun x hx=>List.map_congr_left fun m hm=>by simp only[go x hx m hm]
 have sx:∀x,(S x∨x=n)→¬x=n→S x:=fun x h hx=>h.elim id fun z=>absurd z hx;refine⟨ae,HC h.ok,fun x hx=> ?_,fun x hx=> ?_,fun x x' e h1 h2=> ?_,fun x hx m hm=> ?_,fun x x' hx Sd m hm m' Iu e=> ?_⟩
 ·by_cases z:x=n
  ·subst z;rw[fn];exact⟨d,VF,fr d hd,k' _ _ UI.symm ed⟩
  ·obtain⟨d0,e1,e2,e3⟩:=h.on x (sx x hx z);rw[fo x z];exact⟨d0,(Hx x z).trans e1,e2,k' _ _ (ag e4 e2).symm (k _ _ e3)⟩
 ·rw[Hx x fun z=>hx (.inr z)];exact h.off x fun z=>hx (.inl z)
 ·by_cases z:x=n<;>by_cases z' :x' =n
  ·rw[z,z']
  ·subst z;rw[VF] at h1;cases h1;rw[Hx x' z'] at h2;by_cases hs:S x'
   ·exact absurd rfl (dN x' d h2 hs)
   ·rw[h.off x' hs] at h2;cases h2
  ·subst z';rw[VF] at h2;cases h2;rw[Hx x z] at h1;by_cases hs:S x
   ·exact absurd rfl (dN x d h1 hs)
   ·rw[h.off x hs] at h1;cases h1
  ·rw[Hx x z] at h1;rw[Hx x' z'] at h2;exact h.inj x x' e h1 h2
 ·by_cases z:x=n
  ·subst z;rw[gn m hm];obtain⟨e1,vs,e2,e3⟩:=hg m hm;exact⟨fr _ e1,vs,e2,k' _ _ (WN _ e1) e3⟩
  ·rw[go x z m hm];obtain⟨e1,vs,e2,e3⟩:=h.rm x (sx x hx z) m hm;exact⟨e1,vs,e2,k' _ _ (aJ e3 h.fl (by intro z;cases z)) (k _ _ e3)⟩
 ·by_cases z:x=n<;>by_cases z' :x' =n
  ·subst z;subst z';rw[gn m hm,gn m' Iu] at e;exact gi m hm m' Iu e
  ·subst z;rw[gn m hm,go x' z' m' Iu] at e;obtain⟨_,vs,_,e3⟩:=h.rm x' (sx x' Sd z') m' Iu;rw[←e,(hg m hm).1] at e3;cases e3
  ·subst z';rw[go x z m hm,gn m' Iu] at e;obtain⟨_,vs,_,e3⟩:=h.rm x (sx x hx z) m hm;rw[e,(hg m' Iu).1] at e3;cases e3
  ·rw[go x z m hm,go x' z' m' Iu] at e;exact h.gi x x' (sx x hx z) (sx x' Sd z') m hm m' Iu e
def xV(kv:bK)(i n:Nat):Prop:=∃j b,j<i∧kv[j]? =some (.inl (n:Int),V.ref b)
theorem sG(kv:bK)(n:Nat):¬xV kv 0 n:=fun⟨j,b,h,_⟩=>Nat.not_lt_zero j h
theorem El{kv:bK}{i n:Nat}{b:Addr}(h:kv[i]? =some (.inl (n:Int),V.ref b)):(fun x=>xV kv i x∨x=n)=xV kv (i+1):=by
 funext x
 refine propext ⟨fun z=> ?_,fun⟨j,c,hj,e⟩=> ?_⟩
 ·rcases z with⟨j,c,hj,e⟩|rfl
  ·exact⟨j,c,by omega,e⟩
  ·exact⟨i,b,by omega,h⟩
 ·by_cases z:j=i
  ·subst z;rw[h] at e
   have:(n:Int)=x:=by
    have:=congrArg Prod.fst (Option.some.inj e);exact Sum.inl.inj this
   exact .inr (by omega)
  ·exact .inl ⟨j,c,by omega,e⟩
def dOf(p:wp×V):Option Addr:=match p.2 with| .ref d=>some d|_=>none
theorem FO{kv:bK}(h:Bv kv){c:Addr}(hc:c∈kv.filterMap dOf):∃n:Nat,bA kv (.inl (n:Int))=some (.ref c):=by
 obtain⟨p,hp,e⟩:=List.mem_filterMap.mp hc;obtain⟨n,b,e1,e2⟩:=h p hp;rw[e1] at e;cases e;exact⟨n,e2⟩
theorem x_{kv:bK}{k:wp}{v:V}(h:bA kv k=some v):(k,v)∈kv:=by
 unfold bA at h
 cases e:kv.find? fun kv=>decide (kv.1=k) with
 |none=>rw[e] at h;cases h
 |some p=>
  rw[e] at h;cases h;have h1:=List.mem_of_find?_eq_some e;have h2:=List.find?_some e;have h2:p.1=k:=by simpa using h2
  rw[←h2];exact h1
theorem Wj{kv:bK}{k:wp}{c:Addr}(h:bA kv k=some (.ref c)):c∈kv.filterMap dOf:=List.mem_filterMap.mpr ⟨_,x_ h,rfl⟩
theorem Dz{kv:bK}(_:Bv kv){n:Nat}{b:Addr}(h:bA kv (.inl (n:Int))=some (.ref b)):xV kv kv.length n:=by
 obtain⟨j,hj⟩:=List.mem_iff_getElem?.mp (x_ h);exact⟨j,b,(List.getElem?_eq_some_iff.mp hj).1,hj⟩
theorem G5{kv:bK}(h:Bv kv){j n:Nat}{b:Addr}(e:kv[j]? =some (.inl (n:Int),V.ref b)):bA kv (.inl (n:Int))=some (.ref b):=by
 obtain⟨n',c,e1,e2⟩:=h _ (List.mem_of_getElem? e);cases e1;exact e2
theorem MR(x pa ta:Addr)(z:HX):cu "parents" (.ref x) (dG pa ta z)=dG x ta z:=by kernel_rfl
theorem K4(x pa ta:Addr)(z:HX):cu "takers" (.ref x) (dG pa ta z)=dG pa x z:=by kernel_rfl
theorem He(pa ta:Addr)(z:HX)(v:V):cu "lengths" v (dG pa ta z)=dG pa ta {z with la:=v}:=by kernel_rfl
section
variable{P:Program}{w:World}{K:Frag}{mg:Str→aH}{base:Heap}{A:qH}
def Uj(C:Addr):Sp:=fun vs H Q _=>∃a ps ts L pk R N rs cs,vs=[.ref a.f]∧aF C H a ps ts L pk R N rs cs∧1≤L∧L≤1000∧ps.length≤1000∧ts.length≤1000∧R.length≤1000000∧N≤1000000∧(∀r∈R,1≤r.2)∧
 ∀a2 Xv H',(∀c∈a2.own,H c=none)→aF C H' a2 ps ts L pk R N Xv cs→au H H'→Q (.ref a2.f) H'
theorem yy(T:Txt K mg A):aV P w K mg base eJ 5 A.oG A.oF ["self"] (Uj A.aj):=by
 have d8:=lH (P:=P) (w:=w) (base:=base) T;refine T.Bm.ok jb (fun vs H Q E h=> ?_) (fun cG Ar outer s H vs Q E hr h=> ?_)
 ·obtain⟨a,ps,ts,L,pk,R,N,rs,cs,rfl,_⟩:=h;rfl
 ·obtain⟨a,ps,ts,L,pk,R,N,rs,cs,rfl,F,L1,L2,GO,ht1,hR1,hN1,lB,q⟩:=h;have hu:=dY hr;have hL:sizeLine=16777216:=by decide
  have Dq:(2:Nat)≤sizeLine:=by decide
  obtain⟨dx,ho⟩:=F.ob;refine⟨_,(ak (a_ (i:=1) jb.nd rfl (Or.inl rfl) (wy T.wq d8 hr rfl T.tm T.fW .nil aw (aa (b9 (pv 0) rfl) ah))) (ak (kS (pv 1) (ck iA (by rfl) T.oM Boot.«list» (aa (b9 (pv 0) rfl) ah)) rfl) (ak (kS (pv 1) (ck iA (by rfl) T.oM Boot.«list» (aa (b9 (pv 0) rfl) ah)) rfl) (ak (Ph (gR PassesOwn.never rfl (Ce (EH plainAttrs_dict slot_dict_items type_dict_items Cq (b9 (pv 0) rfl))) (J1 rfl (jy (ba (i:=2) jb.nd rfl (Or.inl rfl) (Or.inl rfl)) (jy (ba (i:=3) jb.nd rfl (Or.inl rfl) (Or.inl rfl)) we))) (aq (pe hu (b9 (pv 1) rfl) (pv 2) (ck (v5 rfl) (by rfl) T.uS Boot.«dict» (aa (Fz (dn (N:=["place","room"]) (k:=2) (js:=[]) rfl (bQ (by kernel_rfl)) (Ce (EH plainAttrs_dict slot_dict_items type_dict_items Cq (pv 3))) (fun _ _ _ _ _=>⟨(AM (K:=K) (n:=2) rfl rfl (jy (ba (i:=0) (show(["place","room"]:aX).Nodup by decide+kernel) rfl (Or.inl rfl) (Or.inr rfl)) (jy (ba (i:=1) (show(["place","room"]:aX).Nodup by decide+kernel) rfl (Or.inl rfl) (Or.inr rfl)) we)) rfl rfl),zq,(nC (aa (pv 0) (aa (ck (rq (K:=K) rfl) (by rfl) T.oM Boot.«list» (aa (pv 1) ah)) ah)))⟩))) ah)) rfl)))) (ak (kS (pv 1) (ck qx (by rfl) T.uS Boot.«dict» (aa (b9 (pv 0) rfl) ah)) rfl) (ak (kS (pv 1) (b9 (pv 0) rfl) rfl) (aq (aG (pv 1))))))))),?_⟩;refine⟨_,rfl,a.f,A.aj,dx,_,_,rfl,ho,T.ar,T.gu,Bw _ _ _,?_⟩;intro p dp np nd ne
  have s0:au H (upd (upd H dp (.own p)) p (.ins A.aj dp [])):=fun c o e=>by
   rw[af (ag e np),af (ag e nd)];exact e
  refine⟨p,dp,L,rfl,ae,L1,L2,fun a' H1 ea' fr' F1 kp1=>⟨rfl,?_⟩⟩;subst ea';have s1:au H H1:=fun c o e=>kp1 c o (s0 c o e) (ag e np)
  have wz:∀c∈a'.own,H c=none:=fun c hc=>by
   rcases fr' c hc with z|z
   ·rw[z];exact np
   ·exact s0.free z
  obtain⟨of,op,ot,NU,ZY⟩:=F1.um;obtain⟨pG,Bg⟩:=F1.ob;obtain⟨kv1,g1,g2,_⟩:=F1.fl;have aiU:kv1=[]:=List.length_eq_zero_iff.mp (by have:=g2.1;omega);subst aiU;have Fa:=F.same s1;obtain⟨dxa,hoa⟩:=Fa.ob;refine⟨_,rfl,a.f,A.aj,dxa,_,_,rfl,hoa,T.ar,T.cJ,xH _ _ _,a.pa,_,rfl,.inl (bB.of Fa.pl),fun l1 Ae=> ?_⟩;have YE:a'.f≠l1:=ag Bg Ae;refine⟨_,rfl,a'.f,A.aj,pG,_,rfl,(by rw[af YE];exact Bg),T.ar,T.cJ,Nat.lt_of_le_of_lt (qy _ _ _) (by decide),?_⟩;rw[MR]
  have s2:au H (upd (upd H1 l1 (.lst (ps.map oV))) a'.f (.ins A.aj pG (dG l1 a'.ta ⟨.int L,.ref a'.fa,.ref a'.la,.int (0:Nat)⟩))):=fun c o e=>by
   rw[af (ag e (wz _ of)),af (ag (s1 _ _ e) Ae)];exact s1 _ _ e
  have o2:upd (upd H1 l1 (.lst (ps.map oV))) a'.f (.ins A.aj pG (dG l1 a'.ta ⟨.int L,.ref a'.fa,.ref a'.la,.int (0:Nat)⟩)) a'.f=some (.ins A.aj pG (dG l1 a'.ta ⟨.int L,.ref a'.fa,.ref a'.la,.int (0:Nat)⟩)):=ae;have e2:upd (upd H1 l1 (.lst (ps.map oV))) a'.f (.ins A.aj pG (dG l1 a'.ta ⟨.int L,.ref a'.fa,.ref a'.la,.int (0:Nat)⟩)) l1=some (.lst (ps.map oV)):=by rw[af YE.symm,ae]
  have f2:upd (upd H1 l1 (.lst (ps.map oV))) a'.f (.ins A.aj pG (dG l1 a'.ta ⟨.int L,.ref a'.fa,.ref a'.la,.int (0:Nat)⟩)) a'.fa=some (.dK []):=by
   rw[af (aJ g1 Bg (by intro z;cases z)),af (ag g1 Ae)];exact g1
  have fl1:H l1=none:=s1.free Ae;generalize upd (upd H1 l1 (.lst (ps.map oV))) a'.f (.ins A.aj pG (dG l1 a'.ta ⟨.int L,.ref a'.fa,.ref a'.la,.int (0:Nat)⟩))=H2 at s2 o2 e2 f2;have F2:=F.same s2;obtain⟨dxb,XM⟩:=F2.ob;refine⟨_,rfl,a.f,A.aj,dxb,_,_,rfl,XM,T.ar,T.cC,uR _ _ _,a.ta,_,rfl,.inl (bB.of F2.tl),fun l2 m6=> ?_⟩;have n2f:a'.f≠l2:=ag o2 m6;have n12:l1≠l2:=ag e2 m6;refine⟨_,rfl,a'.f,A.aj,pG,_,rfl,(by rw[af n2f];exact o2),T.ar,T.cC,Nat.lt_of_le_of_lt (qy _ _ _) (by decide),?_⟩;rw[K4];generalize hz:(⟨.int L,.ref a'.fa,.ref a'.la,.int (0:Nat)⟩:HX)=z at o2;have zf:z.fa= .ref a'.fa:=by rw[←hz]
  have s3:au H (upd (upd H2 l2 (.lst (ts.map oV))) a'.f (.ins A.aj pG (dG l1 l2 z))):=fun c o e=>by
   rw[af (ag e (wz _ of)),af (ag (s2 _ _ e) m6)];exact s2 _ _ e
  have o3:upd (upd H2 l2 (.lst (ts.map oV))) a'.f (.ins A.aj pG (dG l1 l2 z)) a'.f=some (.ins A.aj pG (dG l1 l2 z)):=ae;have e31:upd (upd H2 l2 (.lst (ts.map oV))) a'.f (.ins A.aj pG (dG l1 l2 z)) l1=some (.lst (ps.map oV)):=by rw[af YE.symm,af n12];exact e2
  have e32:upd (upd H2 l2 (.lst (ts.map oV))) a'.f (.ins A.aj pG (dG l1 l2 z)) l2=some (.lst (ts.map oV)):=by rw[af n2f.symm,ae]
  have WT :upd (upd H2 l2 (.lst (ts.map oV))) a'.f (.ins A.aj pG (dG l1 l2 z)) a'.fa=some (.dK []):=by
   rw[af (aJ f2 o2 (by intro z;cases z)),af (ag f2 m6)];exact f2
  have fl2:H l2=none:=s2.free m6;generalize upd (upd H2 l2 (.lst (ts.map oV))) a'.f (.ins A.aj pG (dG l1 l2 z))=H3 at s3 o3 e31 e32 WT;have F3:=F.same s3;obtain⟨dxc,hoc⟩:=F3.ob;obtain⟨kv,k1,⟨k2,kOk⟩,k3,k4⟩:=F3.fl;refine⟨_,rfl,a.f,A.aj,dxc,_,_,rfl,hoc,T.ar,T.cA,sg _ _ _,.inr (.inr (.inl ⟨rfl,.inl ⟨_,k1⟩⟩)),a.fa,kv,rfl,rfl,k1,fun v hv=> ?_⟩;have s4:=au.upd (o:=lQ v a.fa) hv;refine⟨v,a.fa,kv,rfl,ae,s4 _ _ k1,fun o nf=> ?_⟩
  have WN:a.fa≠a'.fa:=by
   obtain⟨_,kz,_⟩:=F.fl;exact ag kz (wz _ NU)
  generalize PB:upd H3 v (lQ v a.fa)=H4 at s4;have k14:=s4 _ _ k1;have e4f:H4 a'.fa=some (.dK []):=s4 _ _ WT;refine GX (d:=a.fa) (o:=o) (kvs:=kv) (fun i σ H' =>∃(x2 x3:Option V) (Pb :bK) (g:Nat→Addr),σ=[some (.ref a.f),some (.ref a'.f),x2,x3]∧TwI H4 H' a'.fa R cs (xV kv i) Pb g∧Pb.length≤i∧∀c oo,c≠a'.fa→upd H4 a.fa (.gz o (.dK kv)) c=some oo→H' c=some oo) ⟨_,_,[],fun _=>0,rfl,⟨?_,(fun p hp=>nomatch hp),(fun n hn=>absurd hn (sG kv n)),(fun n _=>rfl),(fun n n' d e=>nomatch e),(fun n hn=>absurd hn (sG kv n)),(fun n n' hn=>absurd hn (sG kv n))⟩,Nat.le_refl _,fun _ _ _ e=>e⟩ ?_ ?_ ?_
  ·rw[af WN.symm];exact e4f
  ·rintro i σ H' ⟨x2,x3,Pb,g,_,_,_,kk⟩
   exact kk _ _ WN ae
  ·rintro i k w T' σ H5 hi hT ⟨x2,x3,Pb,g,rfl,tw,l5,kk⟩
   have f5:=tw.fl;have xO:i<kv.length:=(List.getElem?_eq_some_iff.mp hi).1;obtain⟨n,b,ekw,N3⟩:=kOk _ (List.mem_of_getElem? hi);cases ekw
   have UW:b∈a.own∧b≠a.fa∧H3 b=some (.dK (bG R rs n)):=by
    rcases k3 n with h|⟨b',e1,e2,e3,e4,e5⟩
    ·rw[h.1] at N3;cases N3
    ·rw[e1] at N3;cases N3;exact⟨e2,e3,e5⟩
   obtain⟨bo,bf,UW⟩:=UW;have Vd:∀{c:Addr} {oo:HO},H3 c=some oo→c≠a'.fa→c≠a.fa→H5 c=some oo:=fun{c oo} e h1 h2=>kk c oo h1 (by rw[af h2];exact s4 _ _ e)
   have anB :b≠a'.fa:=by
    obtain⟨ob',eb'⟩:=F.al b bo;exact ag eb' (wz _ NU)
   have Xa:=Vd UW anB bf;have s6:=au.upd (o:= .tup [kV (.inl (n:Int)),.ref b]) hT;refine⟨T',_,rfl,qQ.of ae,rfl,?_⟩;refine⟨_,_,rfl,_,_,rfl,rfl,?_⟩;generalize upd H5 T' (.tup [kV (.inl (n:Int)),.ref b])=H6 at s6;have hb6:=s6 _ _ Xa;refine⟨_,rfl,.inr (.inr (.inl ⟨rfl,.inl ⟨_,hb6⟩⟩)),b,_,rfl,rfl,hb6,fun v2 hv2=> ?_⟩;have s7:=au.upd (o:=lQ v2 b) hv2;refine⟨v2,b,_,rfl,ae,s7 _ _ hb6,fun o2 nf2=> ?_⟩;generalize upd H6 v2 (lQ v2 b)=H7 at s7;have hb7:=s7 _ _ hb6;have DY:upd H7 b (.gz o2 (.dK (bG R rs n))) b=some (.gz o2 (.dK (bG R rs n))):=ae;have DP:=Aj R rs n
   have back:∀{c:Addr} {oo:HO},H5 c=some oo→c≠b→upd H7 b (.gz o2 (.dK (bG R rs n))) c=some oo:=fun{c oo} e h1=>by
    rw[af h1];exact s7 _ _ (s6 _ _ e)
   refine yh (fun j v M H' =>∃m t l vs,(bW R n)[j]? =some m∧v= .ref t∧M t∧M l∧(∀c,M c→c=t∨c=l)∧H' t=some (.tup [kV (.inl (aT R m:Int)),.ref l])∧H' l=some (.lst vs)∧cs[m]? =some vs) (Cu DY) (by omega) ?_ ?_ ?_ ?_
   ·rintro j v M Ha Hb kt ⟨m,t,l,vs,h1,h2,h3,h4,h5,h6,h7,h8⟩
    exact⟨m,t,l,vs,h1,h2,h3,h4,h5,kt _ _ h3 h6,kt _ _ h4 h7,h8⟩
   ·rintro j v M Ha ⟨m,t,l,vs,h1,h2,h3,h4,h5,h6,h7,h8⟩ c hc
    rcases h5 c hc with rfl|rfl
    ·exact⟨_,h6⟩
    ·exact⟨_,h7⟩
   ·intro j x H' C1 hj sm hY c1;obtain⟨T2,k2',w2,rfl,Zj,Iz⟩:=hY;unfold bG at Iz;rw[List.getElem?_map] at Iz
    cases hix:(bW R n)[j]? with
    |none=>rw[hix] at Iz;cases Iz
    |some m=>
     rw[hix] at Iz;cases Iz;have hm:m<R.length:=jQ (List.mem_of_getElem? hix)
     have hrs:rs[m]? =some (rs.getD m 0):=by
      rw[List.getD_eq_getElem?_getD];simp[show m<rs.length by rw[F3.rl];exact hm]
     obtain⟨ro,_,_,vs,hcs,WS⟩:=F3.rm m _ hrs
     have rfa:rs.getD m 0≠a'.fa:=by
      obtain⟨ob',eb'⟩:=F.al _ ro;exact ag eb' (wz _ NU)
     have NM :=sm _ _ (back (Vd WS rfa (aJ WS k1 (by intro z;cases z))) (aJ WS UW (by intro z;cases z)));refine⟨T2,_,rfl,qQ.of Zj,rfl,_,_,rfl,_,_,rfl,rfl,((gk.refl _).own (by decide)).own (by decide),?_⟩;refine⟨_,rfl,_,rfl,rs.getD m 0,_,rfl,.inl (bB.of NM),fun l hl=>⟨Dq,fun t ht=> ?_⟩⟩;have sl:=au.upd (o:= .lst vs) hl
     exact c1 _ _ (fun c=>c=t∨c=l) (sl.trans (au.upd ht)) (fun c hc=>by
      rcases hc with rfl|rfl
      ·exact sl.free ht
      ·exact hl) ⟨m,t,l,vs,hix,rfl,.inl rfl,.inr rfl,fun c hc=>hc,ae,(au.upd ht) _ _ ae,hcs⟩
   ·intro pl H8 ys M rK sm Vw rX hE hM;have pb:pl≠b:=fun z=>by rw[z,DY] at rK;cases rK
    have ah_ :ys.length=(bW R n).length:=by
     rw[rX];unfold bG;rw[List.length_map]
    refine⟨b,o2,_,sm _ _ DY,nf2,?_⟩
    have ex:∀m,∃l,m∈bW R n→∃j t vs,(bW R n)[j]? =some m∧ys[j]? =some (.ref t)∧M j l∧H8 t=some (.tup [kV (.inl (aT R m:Int)),.ref l])∧H8 l=some (.lst vs)∧cs[m]? =some vs∧upd H7 b (.gz o2 (.dK (bG R rs n))) l=none:=fun m=>by
     by_cases hm:m∈bW R n
     ·obtain⟨j,hj⟩:=List.mem_iff_getElem?.mp hm;have FN:=(List.getElem?_eq_some_iff.mp hj).1;have hyj:ys[j]? =some ys[j]:=by simp[show j<ys.length by omega]
      obtain⟨⟨m',t,l,vs,h1,h2,h3,h4,h5,h6,h7,h8⟩,hf⟩:=hE j _ hyj;rw[hj] at h1;cases h1;exact⟨l,fun _=>⟨j,t,vs,hj,by rw[hyj,h2],h4,h6,h7,h8,(hf l h4).2⟩⟩
     ·exact⟨0,fun z=>absurd z hm⟩
    obtain⟨g2,hg2⟩:=Classical.axiomOfChoice ex
    have ZQ:∀{c:Addr},upd H7 b (.gz o2 (.dK (bG R rs n))) c=none→c≠b:=fun e z=>by
     rw[z,DY] at e;cases e
    have ixn:∀{i j:Nat} {m:Nat},(bW R n)[i]? =some m→(bW R n)[j]? =some m→i=j:=fun{i j m} e1 e2=>by
     obtain⟨h1,U0⟩:=List.getElem?_eq_some_iff.mp e1;obtain⟨h2,TR⟩:=List.getElem?_eq_some_iff.mp e2;exact(List.getElem_inj (z5 R n)).mp (U0.trans TR.symm)
    have V7:FR (upd H8 b (.dK (bG R rs n))) ys (gQ R g2 n):=by
     refine⟨by unfold gQ;rw[List.length_map];exact ah_,fun i k v e=> ?_⟩;unfold gQ at e;rw[List.getElem?_map] at e
     cases ym :(bW R n)[i]? with
     |none=>rw[ym] at e;cases e
     |some m=>
      rw[ym] at e;cases e;obtain⟨j,t,vs,h1,h2,h3,h4,h5,h6,h7⟩:=hg2 m (List.mem_of_getElem? ym);have:=ixn ym h1;subst this;refine⟨t,h2,?_⟩;rw[af (aJ h4 (sm _ _ DY) (by intro z;cases z))];exact h4
    have rA:∀{c:Addr} {oo:HO},H5 c=some oo→upd H8 b (.dK (bG R rs n)) c=some oo:=fun{c oo} e=>by
     by_cases z:c=b
     ·subst z;rw[ae,←Xa];exact e
     ·rw[af z];exact sm _ _ (back e z)
    refine⟨pl,ys,gQ R g2 n,rfl,(by rw[af pb];exact Vw),V7,fun d' zj => ?_⟩;rw[DJ lB];have s9:=au.upd (o:= .dK (gQ R g2 n)) zj;have o9:=s9 _ _ (rA (Vd o3 (aJ o3 WT (by intro z;cases z)) (aJ o3 k1 (by intro z;cases z))));have f9:=s9 _ _ (rA f5)
    have WO:∀c,upd H7 b (.gz o2 (.dK (bG R rs n))) c=none→H5 c=none:=fun c e=>by
     cases z:H5 c with
     |none=>rfl
     |some q5=>
      rw[back z (ZQ e)] at e;cases e
    have hd5:H5 d' =none:=by
     cases z:H5 d' with
     |none=>rfl
     |some q5=>
      rw[rA z] at zj;cases zj
    have fr4:∀c,H5 c=none→H4 c=none:=fun c e=>by
     cases z:H4 c with
     |none=>rfl
     |some q4=>
      by_cases z1:c=a'.fa
      ·rw[z1,f5] at e;cases e
      ·by_cases z2:c=a.fa
       ·rw[kk c _ z1 (by rw[z2,ae])] at e;cases e
       ·rw[kk c _ z1 (by rw[af z2];exact z)] at e;cases e
    refine⟨_,rfl,a'.f,A.aj,pG,_,_,rfl,o9,T.ar,T.cA,sg _ _ _,_,rfl,a'.fa,_,zf,sM.k (k:= .inl (n:Int)) f9 (by omega),?_⟩
    have st:=tw.step (n:=n) (d:=d') (g2:=g2) e4f (fun c q e=>s9 _ _ (rA e)) hd5 ae fr4 (fun m hm=>by
     obtain⟨j,t,vs,h1,h2,h3,h4,h5,h6,h7⟩:=hg2 m hm;refine⟨WO _ h7,vs,h6,s9 _ _ ?_⟩;rw[af (ZQ h7)];exact h5) (fun m hm m' Iu e=>by
     obtain⟨j,t,vs,h1,h2,h3,h4,h5,h6,h7⟩:=hg2 m hm;obtain⟨j',t',vs',U0,TR,W_,h4',h5',h6',h7'⟩:=hg2 m' Iu;have FN:=(List.getElem?_eq_some_iff.mp h1).1;have U6 :=(List.getElem?_eq_some_iff.mp U0).1;rcases Nat.lt_trichotomy j j' with eQ|heq|W0
     ·exact absurd (e▸W_) (hM j j' eQ (by unfold bG;rw[List.length_map];exact U6) _ h3)
     ·subst heq;rw[h1] at U0;cases U0;rfl
     ·exact absurd (e▸h3) (hM j' j W0 (by unfold bG;rw[List.length_map];exact FN) _ W_))
    refine⟨_,_,_,_,rfl,El hi▸st,?_,fun c oo h1 e=> ?_⟩
    ·have:=dF Pb (.inl (n:Int)) (.ref d');omega
    ·rw[af h1];exact s9 _ _ (rA (kk c oo h1 e))
  ·rintro σ H5 ⟨x2,x3,Pb,g,rfl,tw,l5,kk⟩
   have f5:=tw.fl;refine⟨a.fa,o,kv,kk _ _ WN ae,nf,?_⟩
   have Fx:∀{c:Addr} {oo:HO},H3 c=some oo→c≠a'.fa→upd H5 a.fa (.dK kv) c=some oo:=fun{c oo} e h1=>by
    by_cases z:c=a.fa
    ·subst z;rw[ae,←k1];exact e
    ·rw[af z];exact kk c oo h1 (by rw[af z];exact s4 _ _ e)
   have s6:au H (upd H5 a.fa (.dK kv)):=fun c oo e=>Fx (s3 _ _ e) (ag e (wz _ NU));have o6:=Fx o3 (aJ o3 WT (by intro z;cases z));have e61:=Fx e31 (aJ e31 WT (by intro z;cases z));have e62:=Fx e32 (aJ e32 WT (by intro z;cases z))
   have Ag:∀c oo,c≠a.fa→H5 c=some oo→upd H5 a.fa (.dK kv) c=some oo:=fun c oo h e=>by
    rw[af h];exact e
   generalize upd H5 a.fa (.dK kv)=H6 at s6 o6 e61 e62 Ag;have F6:=F.same s6;obtain⟨dxd,hod⟩:=F6.ob;obtain⟨kl,m1,m2,m3⟩:=F6.ln;refine⟨_,rfl,a.f,A.aj,dxd,_,_,rfl,hod,T.ar,T.dj,A6 _ _ _,a.la,kl,rfl,m1,fun d2 hd2=> ?_⟩;have s7:=au.upd (o:= .dK kl) hd2;have o7:=s7 _ _ o6;refine⟨_,rfl,a'.f,A.aj,pG,_,rfl,o7,T.ar,T.dj,Nat.lt_of_le_of_lt (qy _ _ _) (by decide),?_⟩;rw[He];have d7:upd H6 d2 (.dK kl) d2=some (.dK kl):=ae;generalize upd H6 d2 (.dK kl)=H7 at s7 o7 d7;have anL:=s7 _ _ hod;have naf:a.f≠a'.f:=ag ho (wz _ of);refine⟨_,rfl,a.f,A.aj,dxd,_,_,rfl,(by rw[af naf];exact anL),T.ar,T.fV,En _ _ _,?_⟩;refine⟨_,rfl,a'.f,A.aj,pG,_,rfl,ae,T.ar,T.fV,Nat.lt_of_le_of_lt (qy _ _ _) (by decide),?_⟩;rw[zW];subst hz;have fd2:H d2=none:=s6.free hd2;have ahn :∃q4,H4 a.fa=some q4:=⟨_,k14⟩;obtain⟨q4,eq4⟩:=ahn;have n4:∀c,H4 c=none→c≠a.fa∧c≠a'.f∧c≠a'.fa∧c≠l1∧c≠l2∧H c=none:=fun c e=>⟨(ag eq4 e).symm,(ag (s4 _ _ o3) e).symm,(ag e4f e).symm,(ag (s4 _ _ e31) e).symm,(ag (s4 _ _ e32) e).symm,s3.free (s4.free e)⟩;have nf2:d2≠a'.f:=(ag o6 hd2).symm
   have kF:∀c oo,c≠a'.f→H7 c=some oo→upd (upd H7 a'.f (.ins A.aj pG (dG l1 l2 ⟨.int L,.ref a'.fa,.ref d2,.int (0:Nat)⟩))) a'.f (.ins A.aj pG (dG l1 l2 ⟨.int L,.ref a'.fa,.ref d2,.int pk⟩)) c=some oo:=fun c oo h e=>by
    rw[af h,af h];exact e
   have f6:=Ag _ _ WN.symm f5;have n6d:∀c oo,H6 c=some oo→c≠d2:=fun c oo e=>ag e hd2
   have Bj:∀n,bW R n≠[]→xV kv kv.length n:=fun n jw=>by
    rcases k3 n with h|⟨b,e1,_⟩
    ·exact absurd h.2 jw
    ·exact Dz kOk e1
   have F0:∀n,bG R ((List.range R.length).map g) n=gQ R g n:=fun n=>List.map_congr_left fun m hm=>by
    have:=jQ hm;rw[List.getD_eq_getElem?_getD,List.getElem?_map,List.getElem?_range this];rfl
   have rmF:∀m,m<R.length→H4 (g m)=none∧∃vs,cs[m]? =some vs∧H5 (g m)=some (.lst vs):=fun m hm=>tw.rm _ (Bj _ fun z=>by
    have:=d4 hm;rw[z] at this;cases this) m (d4 hm)
   have onF:∀(n:Nat) (d:Addr),bA Pb (.inl (n:Int))=some (.ref d)→H4 d=none∧H5 d=some (.dK (gQ R g n)):=fun n d e=>by
    by_cases hs:xV kv kv.length n
    ·obtain⟨d0,e1,e2,e3⟩:=tw.on n hs;rw[e] at e1;cases e1;exact⟨e2,e3⟩
    ·rw[tw.off n hs] at e;cases e
   refine⟨_,rfl,?_⟩;refine q ⟨a'.f,l1,l2,a'.fa,d2,[a'.f,l1,l2,a'.fa,d2]++Pb.filterMap dOf++(List.range R.length).map g⟩ ((List.range R.length).map g) _ (fun c hc=> ?_) ⟨⟨pG,ae⟩,kF _ _ YE.symm (s7 _ _ e61),kF _ _ n2f.symm (s7 _ _ e62),n12,⟨Pb,kF _ _ (aJ e4f (s4 _ _ o3) (by intro z;cases z)) (s7 _ _ f6),⟨by omega,tw.ok⟩,fun n=> ?_,tw.inj⟩,⟨kl,kF _ _ nf2 d7,m2,m3⟩,n6d _ _ f6,by rw[List.length_map,List.length_range],fun i b e=> ?_,?_,⟨by simp,by simp,by simp,by simp,by simp⟩,fun c hc=> ?_⟩ fun c oo e=> ?_
   ·rcases List.mem_append.mp hc with hc|hc
    ·rcases List.mem_append.mp hc with hc|hc
     ·simp only[List.mem_cons,List.not_mem_nil,or_false] at hc;rcases hc with rfl|rfl|rfl|rfl|rfl
      ·exact wz _ of
      ·exact fl1
      ·exact fl2
      ·exact wz _ NU
      ·exact fd2
     ·obtain⟨n,hn⟩:=FO tw.ok hc;exact(n4 c (onF n c hn).1).2.2.2.2.2
    ·obtain⟨m,hm,rfl⟩:=List.mem_map.mp hc;exact(n4 _ (rmF m (List.mem_range.mp hm)).1).2.2.2.2.2
   ·rw[F0];rcases k3 n with h|⟨b,e1,_⟩
    ·exact .inl ⟨tw.off n (fun⟨j,b,hj,e⟩=>by
      have h1:=h.1;rw[G5 kOk e] at h1;cases h1),h.2⟩
    ·obtain⟨d,e2,e3,e5⟩:=tw.on n (Dz kOk e1);have hn:=n4 d e3;have e6:=Ag _ _ hn.1 e5;exact .inr ⟨d,e2,List.mem_append_left _ (List.mem_append_right _ (Wj e2)),hn.2.2.1,n6d _ _ e6,kF _ _ hn.2.1 (s7 _ _ e6)⟩
   ·rw[List.getElem?_map] at e
    cases hi:(List.range R.length)[i]? with
    |none=>rw[hi] at e;cases e
    |some m=>
     rw[hi] at e;cases e;obtain⟨xO,him⟩:=List.getElem?_eq_some_iff.mp hi;rw[List.length_range] at xO;rw[List.getElem_range] at him;subst him;obtain⟨h1,vs,h2,h3⟩:=rmF i xO;have hn:=n4 _ h1;exact⟨List.mem_append_right _ (List.mem_map_of_mem (List.mem_range.mpr xO)),hn.2.2.2.1,hn.2.2.2.2.1,vs,h2,kF _ _ hn.2.1 (s7 _ _ (Ag _ _ hn.1 h3))⟩
   ·refine List.pairwise_map.mpr (List.Pairwise.imp_of_mem (fun{x y} hx hy jw z=>jw ?_) List.nodup_range);have hx:=List.mem_range.mp hx;have hy:=List.mem_range.mp hy
    have ne0:∀{m},m<R.length→bW R (R.getD m (0,0)).1≠[]:=fun hm z=>by
     have:=d4 hm;rw[z] at this;cases this
    exact tw.gi _ _ (Bj _ (ne0 hx)) (Bj _ (ne0 hy)) x (d4 hx) y (d4 hy) z
   ·rcases List.mem_append.mp hc with hc|hc
    ·rcases List.mem_append.mp hc with hc|hc
     ·simp only[List.mem_cons,List.not_mem_nil,or_false] at hc;rcases hc with rfl|rfl|rfl|rfl|rfl
      ·exact⟨_,ae⟩
      ·exact⟨_,kF _ _ YE.symm (s7 _ _ e61)⟩
      ·exact⟨_,kF _ _ n2f.symm (s7 _ _ e62)⟩
      ·exact⟨_,kF _ _ (aJ e4f (s4 _ _ o3) (by intro z;cases z)) (s7 _ _ f6)⟩
      ·exact⟨_,kF _ _ nf2 d7⟩
     ·obtain⟨n,hn⟩:=FO tw.ok hc;obtain⟨h1,h2⟩:=onF n c hn;exact⟨_,kF _ _ (n4 c h1).2.1 (s7 _ _ (Ag _ _ (n4 c h1).1 h2))⟩
    ·obtain⟨m,hm,rfl⟩:=List.mem_map.mp hc;obtain⟨h1,vs,h2,h3⟩:=rmF m (List.mem_range.mp hm);exact⟨_,kF _ _ (n4 _ h1).2.1 (s7 _ _ (Ag _ _ (n4 _ h1).1 h3))⟩
   ·exact kF _ _ (ag e (wz _ of)) (s7 _ _ (s6 _ _ e))
end
theorem kt2{p q:Addr}{x y:az}{H H' :Hp}(k:jF p q H H')(hp:H p=some (.lst x))(hq:H q=some (.lst y))(c:Addr)(xs:az)(e:H c=some (.tup xs)):H' c=some (.tup xs):=k c _ (aJ e hp (by intro z;cases z)) (aJ e hq (by intro z;cases z)) e
theorem ktb{b:Addr}{k:Nat}{H H' :Hp}(K:Kept b H H')(B:cX H b k)(c:Addr)(xs:az)(e:H c=some (.tup xs)):H' c=some (.tup xs):=by
 obtain⟨x,y,z,hb,_⟩:=B;exact K c _ (aJ e hb (by intro z;cases z)) e
theorem aO.getL{H:Hp}{m:MA}{ps ts:aP}{L top:Nat}{R:Rm}{ws ms:aZ}{cs:dO}(M:aO H m ps ts L top R ws ms cs):fg H m.d (.str "limit") (some (.int L)):=by
 have:=fg.k (k:=kL) M.ob;rw[aaD] at this;exact this
def Dl(C b:Addr)(L k:Nat)(H:Hp)(a:HA)(m:MA)(r N:Nat)(Z:Hp→Prop):Prop:=∀a' m' Bk zQ u7 R' N' xW vL vQ uO H',nr C H' a' m' Bk zQ L u7 R' N' xW vL vQ uO→a'.f=a.f→m'.d=m.d→(∀c∈a'.own,c∈a.own∨H c=none)→(∀c∈m'.own,c∈m.own∨H c=none)→(∀c o,c≠b→¬c∈a.own→¬c∈m.own→H c=some o→H' c=some o)→(∀c xs,H c=some (.tup xs)→H' c=some (.tup xs))→cX H' b (k+8)→R'.length+zQ.length≤r+1→N'≤N+2→Z H'
def zI(C:Addr):TS:=fun D σ H=>∃(b:Addr) (k:Nat) (a:HA) (m:MA) (ps ts:aP) (L pk:Nat) (R:Rm) (N:Nat) (rs ws ms:aZ) (cs:dO) (t n:Nat) (i3:Int) (x6 x7 x8:Option V),σ=[some (.ref b),some (.ref a.f),some (.ref m.d),some (.int i3),some (.int t),some (.int n),x6,x7,x8]∧cX H b k∧k≤900∧¬b∈a.own∧¬b∈m.own∧nr C H a m ps ts L pk R N rs ws ms cs∧ts[t]? =some none∧1≤n∧n≤6∧R.length≤998∧N≤8000∧Dl C b L k H a m (R.length+ts.length) N fun H' =>∀y6 y7 y8,D.nx [some (.ref b),some (.ref a.f),some (.ref m.d),some (.int i3),some (.int t),some (.int n),y6,y7,y8] H'
section
variable{P:Program}{w:World}{K:Frag}{mg:Str→aH}{base:Heap}{A:qH}
def U2(C:Addr):Sp:=fun vs H Q _=>∃b k a m ps ts L pk R N rs ws ms cs,vs=[.ref b,.ref a.f,.ref m.d]∧cX H b k∧k≤800∧nr C H a m ps ts L pk R N rs ws ms cs∧¬b∈a.own∧¬b∈m.own∧R.length≤998∧N≤8000∧Dl C b L (k+4) H a m (R.length+ts.length) N fun H' =>Q .bJ H'
theorem A3(T:Txt K mg A):aV P w K mg base eJ 9 A.qj A.pN ["_law_box_here","_law_house_here","_law_model"] (U2 A.aj):=by
 have bL:=(kc (P:=P) (w:=w) (base:=base) T).mono (by decide:_≤8);have nz:=(tU (P:=P) (w:=w) (base:=base) T).mono (by decide:_≤8);have cn:=(fO (P:=P) (w:=w) (base:=base) T).mono (by decide:_≤8);have yI:=(w_ (P:=P) (w:=w) (base:=base) T).mono (by decide:_≤8);have BE:=(zx (P:=P) (w:=w) (base:=base) T).mono (by decide:_≤8);have gZ:=(oK (P:=P) (w:=w) (base:=base) T).mono (by decide:_≤8);have gY:=(nZ (P:=P) (w:=w) (base:=base) T).mono (by decide:_≤8);have qd:=(ud (P:=P) (w:=w) (base:=base) T).mono (by decide:_≤8);have AS:=(zo (P:=P) (w:=w) (base:=base) T).mono (by decide:_≤8);have wb:=(uH (P:=P) (w:=w) (base:=base) T).mono (by decide:_≤8);have wN:=(vY (P:=P) (w:=w) (base:=base) T).mono (by decide:_≤8);have nX:=(rC (P:=P) (w:=w) (base:=base) T).mono (by decide:_≤8);have qr:=(BJ (P:=P) (w:=w) (base:=base) T).mono (by decide:_≤8);refine T.vA.ok eG (fun vs H Q E h=> ?_) (fun cG Ar outer s H vs Q E hr h=> ?_)
 ·obtain⟨b,k,a,m,ps,ts,L,pk,R,N,rs,ws,ms,cs,rfl,_⟩:=h;rfl
 ·obtain⟨b,k,a,m,ps,ts,L,pk,R,N,rs,ws,ms,cs,rfl,B,hk,Z,IJ,GY,hR,hN,q⟩:=h;have hu:=dY hr;have sP:_+100<cLine:=Nat.lt_of_le_of_lt (Nat.add_le_add_left (by decide:100≤16*8+200) _) (by have:=hr.un;omega);have Xp:_<cLine:=Nat.lt_of_le_of_lt (Nat.le_add_right _ _) sP;refine⟨_,(ak (a_ (i:=3) eG.nd rfl (Or.inl rfl) (ay bL hr rfl T.bX T.bT.kp T.b8 .nil aw (aa (pv 0) (aa ax ah)))) (ak (a_ (i:=4) eG.nd rfl (Or.inl rfl) (ay nz hr rfl T.rZ T.ny.kp T.sL .nil aw (aa (pv 0) (aa (ay cn hr rfl T.eV T.dk.kp T.eL .nil aw (aa (pv 2) ah)) ah)))) (ak (a_ (i:=5) eG.nd rfl (Or.inl rfl) (bH iP ax (ay bL hr rfl T.bX T.bT.kp T.b8 .nil aw (aa (pv 0) (aa ax ah))))) (aq (cg (PW.pt (jaa (bc xj (pv 3) ax (bu _)) (Wp (bc JA (pv 4) ax (bu _))))) (ak (aY (aR (pv 1) T.ar T.vJ wb hr T.vP .nil aw (aa (pv 4) ah))) (aq (aY (ay yI hr rfl T.yU T.rf.kp T.za .nil aw (aa (pv 2) (aa (pv 4) ah)))))) (qG (zI A.aj) (aq (cg (PW.pt (jaa (bc De (pv 3) ax (bu _)) (Wp (bc GA (aE aU (by rfl) T.eh Boot.«len» (aa (aN hu (pv 2) aS (fun _ _=>rfl)) ah)) ax (bu _))))) (ak (aY (aR (pv 1) T.ar T.wL wN hr T.yg .nil aw (aa (pv 4) ah))) (aq (aY (ay BE hr rfl T.BL T.tR.kp T.Bp .nil aw (aa (pv 2) (aa (pv 4) ah)))))) (qG (zI A.aj) (aq (cg (PW.pt (jak (bc De (pv 3) ax (bu _)) (jag (bc (xE Xp) (ay gZ hr rfl T.lR T.jD.kp T.lO .nil aw (aa (pv 2) ah)) (bO ah) (bu _))))) (qG (zI A.aj) (aq (cg (bc GA (pv 5) (bH jV (aN hu (pv 2) aS (fun _ _=>rfl)) (ay gY hr rfl T.lG T.jt.kp T.lK .nil aw (aa (pv 2) ah))) (bu _)) (ak (aY (aR (pv 1) T.ar T.tF nX hr T.uv .nil aw (aa (pv 4) (aa (pv 5) ah)))) (aq (aY (ay qd hr rfl T.vx T.qA.kp T.vp .nil aw (aa (pv 2) (aa (pv 4) (aa (pv 5) ah))))))) bj)) ?aou) (ak (a_ (i:=6) eG.nd rfl (Or.inl rfl) (ay nz hr rfl T.rZ T.ny.kp T.sL .nil aw (aa (pv 0) (aa (ay gZ hr rfl T.lR T.jD.kp T.lO .nil aw (aa (pv 2) ah)) ah)))) (ak (a_ (i:=7) eG.nd rfl (Or.inl rfl) (ay bL hr rfl T.bX T.bT.kp T.b8 .nil aw (aa (pv 0) (aa (aE aU (by rfl) T.eh Boot.«len» (aa (aN hu (aN hu (pv 2) aS (fun _ _=>rfl)) (pv 6) (fun _ _=>rfl)) ah)) ah)))) (ak (a_ (i:=8) eG.nd rfl (Or.inl rfl) (ay AS hr rfl T.BP T.t_.kp T.Bo .nil aw (aa (pv 0) (aa (pv 2) ah)))) (ak (aY (aR (pv 1) T.ar T.vw qr hr T.vB .nil aw (aa (pv 6) (aa (pv 7) (aa (pv 8) ah))))) (aq (nG (pv 8) (oA (aN hu (aN hu (pv 2) aS (fun _ _=>rfl)) (pv 6) (fun _ _=>rfl)) (pv 7) ww))))))))) ?Ww))) ?Ul)))))),?_⟩
  case aou=>
   rintro D σ H1 ⟨b,k,a,m,ps,ts,L,pk,R,N,rs,ws,ms,cs,t,n,i3,x6,x7,x8,rfl,B,hk,IJ,GY,Z,uy,n1,n6,hR,hN,q⟩
   have hW:=Z.G.W.len;have NS:t<ts.length:=(List.getElem?_eq_some_iff.mp uy).1;refine⟨_,rfl,_,rfl,m.d,_,rfl,Z.mo.getL,_,rfl,m,ps,ts,L,pk,R,ws,ms,cs,rfl,Z.mo,Z.ok.cz,by omega,fun r hr=>⟨(Z.G.rw r hr).2.1,Z.rt r hr⟩,fun H2 s2=>⟨(L:Int),_,rfl,rfl,_,_,rfl,rfl,_,rfl,?_⟩⟩;refine zm (fun W0=> ?_) (fun _=> ?_)
   rotate_left
   ·exact q a m ps ts pk R N rs ws ms cs H2 (Z.same s2) rfl rfl (fun c hc=> .inl hc) (fun c hc=> .inl hc) (fun c o _ _ _ e=>s2 _ _ e) (fun c xs e=>s2 _ _ e) ((B.same s2).mono (by omega)) (Nat.le_succ _) (by omega) _ _ _
   ·have W0:=of_decide_eq_true W0;have hle:bg ts R+n≤L:=by omega
    have Z2:=Z.same s2;obtain⟨dx,ho⟩:=Z2.h.ob;refine⟨_,rfl,a.f,dx,_,rfl,ho,aB (by decide+kernel),_,rfl,_,rfl,a,ps,ts,L,pk,R,N,rs,cs,t,n,rfl,Z2.h,Z.ok.cl,Z.G,uy,n1,n6,by omega,by omega,hle,fun oa r H3 l F3 sa ga ux NL Ct Xn=> ?_⟩;have M3:aO H3 m ps ts L pk R ws ms cs:=Z2.mo.kept fun c o hc e=>ux c o (fun z=>Z.ap c z hc) e;refine⟨_,rfl,_,rfl,_,rfl,m,ps,ts,L,pk,R,ws,ms,cs,t,n,rfl,M3,Z.ok,by omega,fun r hr=>⟨(Z.G.rw r hr).1,(Z.G.rw r hr).2.1,Z.rt r hr⟩,NS,n1,n6,fun om wt rr l' H4 M4 sm gm uw WU hl4=> ?_⟩;rw[kG R n uy] at M4
    have nm:∀c∈oa,¬c∈m.own:=fun c hc z=>by
     rcases ga c hc with h|h
     ·exact Z.ap c h z
     ·obtain⟨o,e⟩:=Z2.mo.al c z;rw[h] at e;cases e
    have F4:aF A.aj H4 {a with own:=oa} ps ts L (max pk (bg ts R+n)) (R++[(t,n)]) (N+2) (rs++[r]) (cs++[List.replicate n .bJ]):=F3.kept fun c o hc e=>uw c o (nm c hc) e
    have G4:Good ps ts L (max pk (bg ts R+n)) (R++[(t,n)]):=by
     refine⟨Z.G.W,Z.G.g,fun r hr=> ?_,Z.G.lo,Z.G.hi,by rw[kG R n uy];exact hle,by have:=Z.G.pk;have:=Z.G.hi;omega⟩;rcases List.mem_append.mp hr with hr|hr
     ·exact Z.G.rw r hr
     ·simp only[List.mem_singleton] at hr;subst hr;exact⟨n1,n6,by show t<ps.length;omega⟩
    have ap4:∀c∈oa,¬c∈om:=fun c hc z=>by
     rcases gm c z with h|h
     ·exact nm c hc h
     ·obtain⟨o,e⟩:=F3.al c hc;rw[h] at e;cases e
    refine q {a with own:=oa} {m with own:=om} ps ts _ (R++[(t,n)]) (N+2) _ (ws++[wt]) _ _ H4 ⟨F4,M4,G4,Z.ok.snoc Z.mo.iB,ap4⟩ rfl rfl (fun c hc=> ?_) (fun c hc=> ?_) (fun c o _ h1 h2 e=>uw c o h2 (ux c o h1 (s2 _ _ e))) (fun c xs e=>WU c xs (NL c xs (s2 _ _ e))) ?_ (by rw[List.length_append];show R.length+1+_≤_;omega) (Nat.le_refl _) _ _ _
    ·rcases ga c hc with h|h
     ·exact .inl h
     ·exact .inr (s2.free h)
    ·rcases gm c hc with h|h
     ·exact .inl h
     ·refine .inr ?_
      cases e:H1 c with
      |none=>rfl
      |some o=>
       by_cases z:c∈a.own
       ·obtain⟨o',e'⟩:=F3.al c (sa c z);rw[h] at e';cases e'
       ·have:=ux c o z (s2 _ _ e);rw[h] at this;cases this
    ·exact(B.kept fun o e=>uw b o GY (ux b o IJ (s2 _ _ e))).mono (by omega)
  case Ul=>
   rintro D σ H1 ⟨b,k,a,m,ps,ts,L,pk,R,N,rs,ws,ms,cs,t,n,i3,x6,x7,x8,rfl,B,hk,IJ,GY,Z,uy,n1,n6,hR,hN,q⟩
   have next:∀(D:Ends),Dl A.aj b L k H1 a m (R.length+ts.length) N (fun H' =>∀y6 y7 y8,D.nx [some (.ref b),some (.ref a.f),some (.ref m.d),some (.int i3),some (.int t),some (.int n),y6,y7,y8] H')→zI A.aj D [some (.ref b),some (.ref a.f),some (.ref m.d),some (.int i3),some (.int t),some (.int n),x6,x7,x8] H1:=fun D q=>⟨b,k,a,m,ps,ts,L,pk,R,N,rs,ws,ms,cs,t,n,i3,x6,x7,x8,rfl,B,hk,IJ,GY,Z,uy,n1,n6,hR,hN,q⟩;have hl:=Z.G.W.len
   have NS:t<ps.length:=by
    have:=(List.getElem?_eq_some_iff.mp uy).1;omega
   have hsn:c_ ts (t:Int)=true:=by
    unfold c_;rw[decide_eq_true (show(0:Int)≤t by omega),Int.toNat_natCast,uy];rfl
   refine⟨_,rfl,_,3,rfl,rfl,_,rfl,?_⟩;refine zm (fun _=> ?_) (fun _=>next _ q);refine⟨_,rfl,m.d,_,rfl,Z.mo.mod.BB,m.ha,_,rfl,.inl (bB.of Z.mo.hl),_,100,rfl,rfl,_,rfl,?_⟩;rw[List.length_map];by_cases P4:(ps.length:Int)≤100
   ·rw[decide_eq_true P4];obtain⟨dx,ho⟩:=Z.h.ob;refine⟨_,rfl,a.f,dx,_,rfl,ho,aB (by decide+kernel),_,rfl,a.f,a.pa,a.ta,ps,ts,t,rfl,Z.h.fr,hl,hsn,by omega,fun H5 F5 K5=> ?_⟩;obtain⟨o1,o2,o3,o4,o5⟩:=Z.h.um;have m5:aO H5 m ps ts L pk R ws ms cs:=Z.mo.kept fun c o hc e=>K5 c o (fun z=>Z.ap _ o2 (z▸hc)) (fun z=>Z.ap _ o3 (z▸hc)) e;refine⟨_,rfl,_,rfl,m.d,m.ha,m.tk,ps,ts,t,rfl,m5.mod,by omega,by omega,fun H6 M6 K6=> ?_⟩;obtain⟨Z6,v6⟩:=Z.begin NS (by omega) F5 K5 M6 K6;exact q a m _ _ pk R N rs ws ms cs H6 Z6 rfl rfl (fun c hc=> .inl hc) (fun c hc=> .inl hc) (fun c o _ h1 h2 e=>v6 c o h1 h2 e) (fun c xs e=>kt2 K6 m5.hl m5.tl c xs (kt2 K5 Z.h.pl Z.h.tl c xs e)) ((B.kept fun o e=>v6 b o IJ GY e).mono (by omega)) (by rw[List.length_append];exact Nat.le_refl _) (by omega) _ _ _
   ·rw[decide_eq_false P4];exact next _ q
  case Ww=>
   rintro D σ H1 ⟨b,k,a,m,ps,ts,L,pk,R,N,rs,ws,ms,cs,t,n,i3,x6,x7,x8,rfl,B,hk,IJ,GY,Z,uy,n1,n6,hR,hN,q⟩
   have mk:∀(D:Ends) (H2:Hp),au H1 H2→Dl A.aj b L k H1 a m (R.length+ts.length) N (fun H' =>∀y6 y7 y8,D.nx [some (.ref b),some (.ref a.f),some (.ref m.d),some (.int i3),some (.int t),some (.int n),y6,y7,y8] H')→zI A.aj D [some (.ref b),some (.ref a.f),some (.ref m.d),some (.int i3),some (.int t),some (.int n),x6,x7,x8] H2:=fun D H2 s q=>
    ⟨b,k,a,m,ps,ts,L,pk,R,N,rs,ws,ms,cs,t,n,i3,x6,x7,x8,rfl,B.same s,hk,IJ,GY,Z.same s,uy,n1,n6,hR,hN,fun a' m' Bk zQ u7 R' N' xW vL vQ uO H' Z' ef ed ga gm kp kt=>q a' m' Bk zQ u7 R' N' xW vL vQ uO H' Z' ef ed (fun c hc=>(ga c hc).imp id s.free) (fun c hc=>(gm c hc).imp id s.free) (fun c o hc h1 h2 e=>kp c o hc h1 h2 (s _ _ e)) fun c xs e=>kt c xs (s _ _ e)⟩
   refine⟨_,rfl,_,6,rfl,rfl,_,rfl,?_⟩;refine zm (fun _=>mk _ H1 (au.refl H1) q) (fun _=> ?_);refine⟨_,rfl,m,ps,ts,L,pk,R,ws,ms,cs,rfl,Z.mo,by omega,Z.rt,fun l H2 Ct s2 m6=> ?_⟩;refine⟨(show 0≤sizeLine by decide),fun e0 Hw=> ?_⟩;have s3:=au.upd (o:= .lst []) Hw;have WQ:=s2.trans s3;refine⟨l,e0,_,[],rfl,rfl,s3 _ _ m6,ae,?_⟩;by_cases hh:iO ts R=[]
   ·refine .inr ⟨by rw[hh];rfl,by rw[hh];rfl,rfl,_,rfl,?_⟩;rw[hh];exact mk _ _ WQ q
   refine .inl ⟨fun z=>hh (List.map_eq_nil_iff.mp (List.length_eq_zero_iff.mp z)),_,rfl,?_⟩;have Z0:=Z.same WQ;have B0:=B.same WQ;generalize upd H2 e0 (.lst [])=H3 at WQ Z0 B0;have kb:∀{H' :Hp},Kept b H3 H'→nr A.aj H' a m ps ts L pk R N rs ws ms cs:=fun K' =>Z0.kept fun c o hc e=>K' c o (fun z=>by rcases hc with h|h;exact IJ (z▸h);exact GY (z▸h)) e;have hhl:=ML ts R;refine⟨_,rfl,_,rfl,m,ps,ts,L,pk,R,ws,ms,cs,rfl,Z0.mo,by omega,Z.rt,fun l H4 Ct s4 hl4=> ?_⟩;have B4:=B0.same s4;refine⟨b,l,k,_,rfl,B4,by omega,hl4,B0.ne Ct,(fun z=>hh (List.map_eq_nil_iff.mp z)),(by show((iO ts R).map fun i=>V.ref (ws.getD i 0)).length≤1000;rw[List.length_map];omega),fun v H5 hv B5 K5=> ?_⟩;obtain⟨i,Rv,rfl⟩:=List.mem_map.mp hv;have hi:=BR Rv;have st:=r6 Rv;have K35:Kept b H3 H5:=s4.kept.trans K5;have Z5:=kb K35;obtain⟨b',xs,e1,e2,e3,e4,e5⟩:=Z5.mo.at_ hi;have hxl:=Z.ok.cz i xs e2;have hx1:=(Z.G.rw _ (wv hi)).1;have hx6:=(Z.G.rw _ (wv hi)).2.1;refine⟨_,rfl,_,rfl,m.d,_,rfl,Z5.mo.D_,_,rfl,m.ca,_,rfl,e4,b',_,rfl,.inl (bB.of e5),b,_,k+2,rfl,B5,by omega,by omega,by omega,fun r H6 r0 r1 B6 O6=> ?_⟩;obtain⟨kk,rfl⟩:∃kk:Nat,r=kk:=⟨r.toNat,by omega⟩;have hkk:kk<xs.length:=by omega
   have K36:Kept b H3 H6:=K35.trans O6.kept;have Z6:=kb K36;refine⟨_,rfl,_,rfl,b,k+2+1,m,ps,ts,L,pk,R,ws,ms,cs,rfl,B6,by omega,Z6.mo,GY,by omega,fun v3 H7 WS B7 K7=> ?_⟩;have K37:Kept b H3 H7:=K36.trans K7;have Z7:=kb K37;obtain⟨dx,ho⟩:=Z7.h.ob;refine⟨_,rfl,a.f,dx,_,rfl,ho,aB (by decide+kernel),_,rfl,_,rfl,_,rfl,a,ps,ts,L,pk,R,N,rs,cs,i,_,xs,kk,v3,rfl,Z7.h,Z.r1,Z.G.W.len,Z7.Ca hi st,e2,hkk,Z7.valAt WS,fun H8 s8=> ?_⟩;have Z8:=Z7.same s8;obtain⟨r1',r2',ys,r3',r4'⟩:=Z8.h.room hi;rw[e2] at r3';cases r3';have F9:=Z8.h.put (vs' :=xs.set kk v3) r1' e2
   have M9:aO (upd H8 (rs.getD i 0) (.lst (xs.set kk v3))) m ps ts L pk R ws ms cs:=Z8.mo.kept fun c o hc e=>by
    rw[af (fun z=>Z.ap _ r2' (by rw[←z];exact hc))];exact e
   have kp9:∀c o,¬c∈a.own→H8 c=some o→upd H8 (rs.getD i 0) (.lst (xs.set kk v3)) c=some o:=fun c o hc e=>by
    rw[af (fun z=>hc (by rw[z];exact r2'))];exact e
   have kt9:∀c ys,H8 c=some (.tup ys)→upd H8 (rs.getD i 0) (.lst (xs.set kk v3)) c=some (.tup ys):=fun c ys e=>by
    rw[af (aJ e r4' (by intro z;cases z))];exact e
   generalize upd H8 (rs.getD i 0) (.lst (xs.set kk v3))=H9 at F9 M9 kp9 kt9;obtain⟨b'',xs',f1,f2,f3,f4,f5⟩:=M9.at_ hi;rw[e2] at f2;cases f2;refine⟨_,rfl,_,rfl,m.d,_,rfl,M9.D_,_,rfl,m.ca,_,rfl,f4,_,rfl,b'',_,_,kk,rfl,rfl,f5,qN hkk,?_⟩;have M10:=M9.put (vs' :=xs.set kk v3) f1 e2;obtain⟨g1,g2,g3,g4,_⟩:=M9.mm i b'' f1
   have F10:aF A.aj (upd H9 b'' (.lst (xs.set kk v3))) a ps ts L pk R N rs (cs.set i (xs.set kk v3)):=F9.kept fun c o hc e=>by
    rw[af (fun z=>Z.ap c hc (by rw[z];exact g1))];exact e
   have ab3:∀c o,¬c∈a.own→¬c∈m.own→H7 c=some o→upd H9 b'' (.lst (xs.set kk v3)) c=some o:=fun c o h1 h2 e=>by
    rw[af (fun z=>h2 (by rw[z];exact g1))];exact kp9 c o h1 (s8 _ _ e)
   have ahc:∀c ys,H7 c=some (.tup ys)→upd H9 b'' (.lst (xs.set kk v3)) c=some (.tup ys):=fun c ys e=>by
    rw[af (aJ (kt9 c ys (s8 _ _ e)) f5 (by intro z;cases z))];exact kt9 c ys (s8 _ _ e)
   exact q a m ps ts pk R N rs ws ms _ _ ⟨F10,M10,Z.G,Z.ok.put e2 WS,Z.ap⟩ rfl rfl (fun c hc=> .inl hc) (fun c hc=> .inl hc) (fun c o hc h1 h2 e=>ab3 c o h1 h2 (K37 c o hc (WQ _ _ e))) (fun c xs e=>ahc c xs (ktb K37 B0 c xs (WQ _ _ e))) ((B7.kept fun o e=>ab3 b o IJ GY e).mono (by omega)) (Nat.le_succ _) (by omega) _ _ _
  refine⟨_,rfl,b,9,k,rfl,B,by omega,by decide,by decide,fun r1 H1 _ _ B1 O1=> ?_⟩;have kb:∀{H' :Hp},Kept b H H'→nr A.aj H' a m ps ts L pk R N rs ws ms cs:=fun K' =>Z.kept fun c o hc e=>K' c o (fun z=>by rcases hc with h|h;exact IJ (z▸h);exact GY (z▸h)) e;have Z1:=kb O1.kept;have Gs:=Z.G.ts;refine⟨_,rfl,_,rfl,m.d,m.ha,m.tk,ps,ts,rfl,Z1.mo.mod,by omega,fun sl H2 Q2 s2 Xy=> ?_⟩;have B2:=B1.same s2
  have jw:aQ ts≠[]:=fun z=>by
   have:0∈aQ ts:=fT.mpr (by rw[Z.G.g];rfl);rw[z] at this;cases this
  have Zd:(aQ ts).length≤1000:=Nat.le_trans (ib ts) (by omega);refine⟨b,sl,k+1,(aQ ts).map nV,rfl,B2,by omega,Xy,B1.ne Q2,(fun z=>jw (List.map_eq_nil_iff.mp z)),(by rw[List.length_map];exact Zd),fun vt H3 hvt B3 K3=> ?_⟩;obtain⟨t,Yj,rfl⟩:=List.mem_map.mp hvt;have K13:Kept b H H3:=(O1.kept.trans s2.kept).trans K3;have uy:ts[t]? =some none:=eq_of_beq (fT.mp Yj);refine⟨_,rfl,b,6,k+1+2,rfl,B3,by omega,by decide,by decide,fun r5 H6 h0 h1 B6 O6=>⟨1,r5,rfl,rfl,?_⟩⟩;have K16:Kept b H H6:=K13.trans O6.kept;have Z6:=kb K16;obtain⟨bx,UE⟩:=B6.lst
  have fr:∀c,H6 c=none→H c=none:=fun c e=>by
   cases z:H c with
   |none=>rfl
   |some o=>
    by_cases hc:c=b
    ·rw[hc,UE] at e;cases e
    ·rw[K16 c o hc z] at e;cases e
  have post:Dl A.aj b L (k+4) H6 a m (R.length+ts.length) N fun H' =>Q .bJ H' :=fun a' m' Bk zQ u7 R' N' xW vL vQ uO H' Z' ef ed ga gm kp kt B' h1 h2=>
   q a' m' Bk zQ u7 R' N' xW vL vQ uO H' Z' ef ed (fun c hc=>(ga c hc).imp id (fr c)) (fun c hc=>(gm c hc).imp id (fr c)) (fun c o hc h1 h2 e=>kp c o hc h1 h2 (K16 c o hc e)) (fun c xs e=>kt c xs (ktb K16 B c xs e)) B' h1 h2
  have en:V.int (1+r5)=V.int (((1+r5).toNat:Nat):Int):=by
   congr 1
   omega
  dsimp only;rw[en];generalize hn:(1+r5).toNat=n;have n1:1≤n:=by omega
  have n6:n≤6:=by omega
  have rest:∀(D:Ends),(∀H',Q .bJ H'→∀y6 y7 y8,D.nx [some (.ref b),some (.ref a.f),some (.ref m.d),some (.int r1),some (.int t),some (.int n),y6,y7,y8] H')→zI A.aj D [some (.ref b),some (.ref a.f),some (.ref m.d),some (.int r1),some (.int t),some (.int n),none,none,none] H6:=fun D hD=>⟨b,k+4,a,m,ps,ts,L,pk,R,N,rs,ws,ms,cs,t,n,r1,_,_,_,rfl,B6.mono (by omega),by omega,IJ,GY,Z6,uy,n1,n6,hR,hN,fun a' m' Bk zQ u7 R' N' xW vL vQ uO H' Z' ef ed ga gm kp kt B' h1 h2=>hD H' (post a' m' Bk zQ u7 R' N' xW vL vQ uO H' Z' ef ed ga gm kp kt B' h1 h2)⟩;have hl:=Z.G.W.len
  have NS:t<ps.length:=by
   have:=(List.getElem?_eq_some_iff.mp uy).1;omega
  have hsn:c_ ts (t:Int)=true:=by
   unfold c_;rw[decide_eq_true (show(0:Int)≤t by omega),Int.toNat_natCast,uy];rfl
  refine⟨_,rfl,rfl,_,rfl,?_⟩;refine zm (fun _=> ?_) (fun _=>rest _ fun H' h _ _ _=>h);refine⟨_,rfl,_,0,rfl,rfl,_,rfl,?_⟩;by_cases ht0:(0:Int)<(t:Int)
  ·rw[decide_eq_true ht0];obtain⟨dx,ho⟩:=Z6.h.ob;refine⟨_,rfl,a.f,dx,_,rfl,ho,aB (by decide+kernel),_,rfl,a.f,a.pa,a.ta,ps,ts,t,rfl,Z6.h.fr,Z.G.W,hsn,by omega,fun l H7 hl7 hL F7 K7=> ?_⟩;obtain⟨o1,o2,o3,o4,o5⟩:=Z.h.um;have m7:aO H7 m ps ts L pk R ws ms cs:=Z6.mo.kept fun c o hc e=>K7 c o (fun z=>Z.ap _ o2 (z▸hc)) (fun z=>Z.ap _ o3 (z▸hc)) e;refine⟨_,rfl,_,rfl,m.d,m.ha,m.tk,ps,ts,t,rfl,m7.mod,Z.G.W,fun l2 H8 hl8 X9 M8 K8=> ?_⟩;obtain⟨Z8,v8⟩:=Z6.finish (by omega) NS F7 K7 M8 K8;exact post a m _ _ pk R N rs ws ms cs H8 Z8 rfl rfl (fun c hc=> .inl hc) (fun c hc=> .inl hc) (fun c o _ h1 h2 e=>v8 c o h1 h2 e) (fun c xs e=>kt2 K8 m7.hl m7.tl c xs (kt2 K7 Z6.h.pl Z6.h.tl c xs e)) ((B6.kept fun o e=>v8 b o IJ GY e).mono (by omega)) (by rw[pY];exact Nat.le_succ _) (by omega)
  ·rw[decide_eq_false ht0];exact rest _ fun H' h _ _ _=>h
end
def Be(R:Rm)(cs:dO)(H:Hp)(n:Nat)(o:Option Nat)(v:V):Prop:=∃t tt xs,v= .ref t∧H t=some (.tup [.int n,oV o,.ref tt])∧H tt=some (.tup xs)∧xs.length=(bW R n).length∧∀(j:Nat) x,xs[j]? =some x→∃u m vs,x= .ref u∧(bW R n)[j]? =some m∧cs[m]? =some vs∧H u=some (.tup vs)
theorem Be.kept{R:Rm}{cs:dO}{H H' :Hp}{n:Nat}{o:Option Nat}{v:V}(h:Be R cs H n o v)(k:∀c xs,H c=some (.tup xs)→H' c=some (.tup xs)):Be R cs H' n o v:=by
 obtain⟨t,tt,xs,h1,h2,h3,h4,h5⟩:=h;refine⟨t,tt,xs,h1,k _ _ h2,k _ _ h3,h4,fun j x e=> ?_⟩;obtain⟨u,m,vs,e1,e2,e3,e4⟩:=h5 j x e;exact⟨u,m,vs,e1,e2,e3,k _ _ e4⟩
def wZ(ps ts:aP)(L:Nat)(R:Rm)(cs:dO)(H:Hp)(v:V):Prop:=∃t tt xs,v= .ref t∧H t=some (.tup [.int L,.ref tt])∧H tt=some (.tup xs)∧xs.length=(aQ ts).length∧∀(j:Nat) x,xs[j]? =some x→∃n o,(aQ ts)[j]? =some n∧ps[n]? =some o∧Be R cs H n o x
theorem wZ.kept{ps ts:aP}{L:Nat}{R:Rm}{cs:dO}{H H' :Hp}{v:V}(h:wZ ps ts L R cs H v)(k:∀c xs,H c=some (.tup xs)→H' c=some (.tup xs)):wZ ps ts L R cs H' v:=by
 obtain⟨t,tt,xs,h1,h2,h3,h4,h5⟩:=h;refine⟨t,tt,xs,h1,k _ _ h2,k _ _ h3,h4,fun j x e=> ?_⟩;obtain⟨n,o,e1,e2,e3⟩:=h5 j x e;exact⟨n,o,e1,e2,e3.kept k⟩
section
variable{P:Program}{w:World}{K:Frag}{mg:Str→aH}{base:Heap}{A:qH}
def Lb(C:Addr):Sp:=fun vs H Q _=>∃f pa ta ps ts,∃(t:Nat) (o:Option Nat),vs=[.ref f,.int t]∧kj C H f pa ta ps ts∧ps[t]? =some o∧Q (oV o) H
theorem mP(T:Txt K mg A):aV P w K mg base eJ 5 A.jU A.jN ["self","frame"] (Lb A.aj):=by
 have bR:=dE (P:=P) (w:=w) (base:=base) T;refine T.vX.ok uM (fun vs H Q E h=> ?_) (fun cG Ar outer s H vs Q E hr h=> ?_)
 ·obtain⟨f,pa,ta,ps,ts,t,o,rfl,_⟩:=h;rfl
 ·obtain⟨f,pa,ta,ps,ts,t,o,rfl,F,hx,k⟩:=h;obtain⟨⟨dx,z,ho⟩,hp,ht,ne⟩:=id F;have hj:t<ps.length:=(List.getElem?_eq_some_iff.mp hx).1
  have hb:iU ps (t:Int)=true:=by
   unfold iU;rw[decide_eq_true (show(0:Int)≤t by omega),decide_eq_true (show(t:Int)≤(ps.length:Int) - 1 by omega)];rfl
  refine⟨_,(ak (aY (aR (pv 0) T.ar T.dP bR hr T.dR .nil aw (aa (pv 1) ah))) (aq (aG (bC bp (b9 (pv 0) rfl) (pv 1) (fun _ _=>rfl))))),?_⟩;refine⟨_,rfl,f,dx,_,rfl,ho,aB (by decide+kernel),_,rfl,f,pa,ta,ps,ts,t,rfl,F,hb,?_⟩;exact⟨_,rfl,f,A.aj,dx,_,_,rfl,ho,T.ar,T.cJ,xH _ _ _,_,rfl,pa,_,_,_,rfl,rfl,bB.of hp,jY hx,k⟩
def Qw(C:Addr):Sp:=fun vs H Q _=>∃a ps ts L pk R N rs cs,∃t:Nat,vs=[.ref a.f,.int t]∧aF C H a ps ts L pk R N rs cs∧ps.length=ts.length∧ts[t]? =some none∧R.length≤1000∧
 ∀l ys H',H l=none→au H H'→H' l=some (.lst ys)→ys.length=(bW R t).length→(∀j v,ys[j]? =some v→∃wt,v= .ref wt∧H' wt=some (.tup (oZ t (aT R ((bW R t).getD j 0)))))→Q (.ref l) H'
theorem xa(T:Txt K mg A):aV P w K mg base eJ 6 A.mh A.lY ["self","frame"] (Qw A.aj):=by
 have bE:=cH (P:=P) (w:=w) (base:=base) T;refine T.yE.ok wG (fun vs H Q E h=> ?_) (fun cG Ar outer s H vs Q E hr h=> ?_)
 ·obtain⟨a,ps,ts,L,pk,R,N,rs,cs,t,rfl,_⟩:=h;rfl
 ·obtain⟨a,ps,ts,L,pk,R,N,rs,cs,t,rfl,F,hl,fw,hR,q⟩:=h;have hu:=dY hr;obtain⟨dx,ho⟩:=F.ob
  have hsb:c_ ts (t:Int)=true:=by
   unfold c_;rw[decide_eq_true (show(0:Int)≤t by omega),Int.toNat_natCast,fw];rfl
  obtain⟨kv,f1,f2,f3,f4⟩:=F.fl;have xO:=qM R t;refine⟨_,(ak (aY (aR (pv 0) T.ar T.cO bE hr T.cQ .nil aw (aa (pv 1) ah))) (aq (aG (Fz (dn (N:=["place","frame"]) (k:=1) (js:=[1]) rfl (bQ (by kernel_rfl)) (Qr (pP hu (b9 (pv 0) rfl) (pv 1) mN ⟨rfl,rfl,rfl,rfl⟩)) (fun _ _ _ _ _=>⟨(ba (i:=0) (show(["place","frame"]:aX).Nodup by decide+kernel) rfl (Or.inl rfl) (Or.inr rfl)),zq,(nC (aa (pv 1) (aa (pv 0) ah)))⟩)))))),?_⟩;refine⟨_,rfl,a.f,dx,_,rfl,ho,aB (by decide+kernel),_,rfl,a.f,a.pa,a.ta,ps,ts,t,rfl,F.fr,hl,hsb,?_⟩;refine⟨_,rfl,a.f,A.aj,dx,_,_,rfl,ho,T.ar,T.cA,sg _ _ _,a.fa,rfl,.inl ⟨_,.inl f1⟩,_,rfl,fun e0 Hw=> ?_⟩;have s1:=au.upd (o:= .dK []) Hw
  have hd:∃d,((bA kv (.inl (t:Int))).getD (V.ref e0))= .ref d∧upd H e0 (.dK []) d=some (.dK (bG R rs t)):=by
   rcases f3 t with⟨h1,h2⟩|⟨b,e1,e2,e3,e4,e5⟩
   ·rw[h1];refine⟨e0,rfl,?_⟩;unfold bG;rw[h2];exact ae
   ·rw[e1];exact⟨b,rfl,s1 _ _ e5⟩
  obtain⟨d,IK,hd2⟩:=hd;generalize upd H e0 (.dK [])=H1 at s1 hd2;refine⟨_,fg.k (k:= .inl (t:Int)) (s1 _ _ f1),?_⟩;show ∃a kvs,(bA kv (.inl (t:Int))).getD (V.ref e0)= .ref a∧_;rw[IK];refine⟨d,_,rfl,hd2,fun o nf=> ?_⟩;have DY:upd H1 d (.gz o (.dK (bG R rs t))) d=some (.gz o (.dK (bG R rs t))):=ae;have DP:(bG R rs t).length=(bW R t).length:=List.length_map ..;refine tj (fun j v H' =>∃wt,v= .ref wt∧H' wt=some (.tup (oZ t (aT R ((bW R t).getD j 0))))) (Ep DY) (by rw[DP];exact Nat.le_of_lt (bY (by omega))) ?_ ?_ ?_
  ·rintro j v Ha Hb k ⟨wt,h1,h2⟩
   exact⟨wt,h1,k _ _ h2⟩
  ·intro j x H' C1 hj sm hx c1;rw[DP] at hj;obtain⟨kk,vv,h1,rfl⟩:=hx;unfold bG at h1;rw[List.getElem?_map,dz 0 hj] at h1;cases h1;exact⟨(gk.refl _).own (by decide),_,rfl,_,rfl,(show 2≤sizeLine by decide),fun wt hwt=>c1 _ _ (au.upd hwt) ⟨wt,rfl,ae⟩⟩
  ·intro p H' ys hp sm hl' rX hys;refine⟨d,o,_,sm _ _ DY,nf,?_⟩;have pd:p≠d:=fun z=>by rw[z,DY] at hp;cases hp
   have GO:H1 p=none:=by rw[af pd] at hp;exact hp
   refine q p ys _ (s1.free GO) (fun c oo e=> ?_) (by rw[af pd];exact hl') (by rw[rX,DP]) fun j v e=> ?_
   ·by_cases z:c=d
    ·subst z;have:=s1 _ _ e;rw[hd2] at this;cases this;exact ae
    ·rw[af z];exact sm _ _ (by rw[af z];exact s1 _ _ e)
   ·obtain⟨wt,h1,h2⟩:=hys j v e;refine⟨wt,h1,?_⟩;rw[af (fun z=>by rw[z,sm _ _ DY] at h2;cases h2)];exact h2
def Pt(C:Addr):Sp:=fun vs H Q _=>∃a ps ts L pk R N rs cs,∃(n:Nat) (o:Option Nat),vs=[.ref a.f,.int n]∧aF C H a ps ts L pk R N rs cs∧(∀r∈R,1≤r.2)∧cs.length=R.length∧ps.length=ts.length∧ts[n]? =some none∧ps[n]? =some o∧R.length≤1000∧
 ∀v H',au H H'→Be R cs H' n o v→Q v H'
theorem qU(T:Txt K mg A):aV P w K mg base eJ 8 A.gH A.gJ ["self","frame"] (Pt A.aj):=by
 have jP:=(mP (P:=P) (w:=w) (base:=base) T).mono (by decide:_≤7);have zv:=(xa (P:=P) (w:=w) (base:=base) T).mono (by decide:_≤7);have md:=qe (P:=P) (w:=w) (base:=base) T;refine T.rH.ok qZ (fun vs H Q E h=> ?_) (fun cG Ar outer s H vs Q E hr h=> ?_)
 ·obtain⟨a,ps,ts,L,pk,R,N,rs,cs,n,o,rfl,_⟩:=h;rfl
 ·obtain⟨a,ps,ts,L,pk,R,N,rs,cs,n,o,rfl,F,lB,vk,hl,fw,JB,hR,q⟩:=h;have hu:=dY hr;obtain⟨dx,ho⟩:=F.ob;have xO:=qM R n;refine⟨_,(aq (aG (nC (aa (pv 1) (aa (aR (pv 0) T.ar T.pB jP hr T.pA .nil aw (aa (pv 1) ah)) (aa (ck gj (by rfl) T.kr Boot.«tuple» (aa (dn (N:=["way","self"]) (k:=1) (js:=[0]) rfl (bQ (by kernel_rfl)) (cy (aR (pv 0) T.ar T.yN zv hr T.yz .nil aw (aa (pv 1) ah))) (fun _ _ _ _ _=>⟨(ba (i:=0) (show(["way","self"]:aX).Nodup by decide+kernel) rfl (Or.inl rfl) (Or.inr rfl)),zq,(ck (qi (K:=K) rfl) (by rfl) T.kr Boot.«tuple» (aa (aR (pv 1) T.ar T.rj md hr T.rB .nil aw (aa (pv 0) ah)) ah))⟩)) ah)) ah)))))),?_⟩;refine⟨_,rfl,_,rfl,a.f,dx,_,rfl,ho,aB (by decide+kernel),_,rfl,a.f,a.pa,a.ta,ps,ts,n,o,rfl,F.fr,JB,?_⟩;refine⟨_,rfl,a.f,dx,_,rfl,ho,aB (by decide+kernel),_,rfl,a,ps,ts,L,pk,R,N,rs,cs,n,rfl,F,hl,fw,hR,fun l ys H1 Ct s1 Ae rX hys=> ?_⟩;refine⟨l,rfl,⟨_,bB.of Ae⟩,?_⟩;refine tj (fun j v H' =>∃u m vs,v= .ref u∧(bW R n)[j]? =some m∧cs[m]? =some vs∧H' u=some (.tup vs)) (cV (bB.of Ae)).g (by rw[rX];exact Nat.le_of_lt (bY (by omega))) ?_ ?_ ?_
  ·rintro j v Ha Hb kt ⟨u,m,vs,h1,h2,h3,h4⟩
   exact⟨u,m,vs,h1,h2,h3,kt _ _ h4⟩
  ·intro j x H' C1 hj sm hx c1;obtain⟨wt,rfl,hw⟩:=hys j x hx;rw[rX] at hj;have ei:=dz 0 hj;generalize (bW R n).getD j 0=m at ei hw;have hm:=jQ (List.mem_of_getElem? ei);have qD:=oh (List.mem_of_getElem? ei);have F' :=(F.same s1).same sm;obtain⟨CD,BO⟩:=F'.ob;have RV:cs[m]? =some cs[m]:=by simp
   refine⟨(gk.refl _).own (by decide),?_⟩;refine⟨_,rfl,a.f,CD,_,rfl,BO,aB (by decide+kernel),_,rfl,a,ps,ts,L,pk,R,N,rs,cs,m,wt,cs[m],rfl,F',lB,hl,⟨hm,(by rw[qD];exact fw),(by rw[qD];exact sm _ _ hw)⟩,RV,fun l2 H2 m6 s2 e2=> ?_⟩;exact⟨l2,_,rfl,.inl ⟨bB.of e2,fun u hu=>c1 _ _ (s2.trans (au.upd hu)) ⟨u,m,_,rfl,ei,RV,ae⟩⟩⟩
  ·intro p H2 Ly hp sm wX E9 hE;refine⟨p,_,rfl,.inl ⟨bB.of wX,fun tt UX=>⟨(show 3≤sizeLine by decide),fun t ht=> ?_⟩⟩⟩;have s3:=au.upd (o:= .tup Ly) UX;have s4:=au.upd (o:= .tup [V.int n,oV o,.ref tt]) ht;refine q _ _ (s1.trans (sm.trans (s3.trans s4))) ⟨t,tt,Ly,rfl,ae,s4 _ _ ae,by rw[E9,rX],fun j x e=> ?_⟩;obtain⟨u,m,vs,e1,e2,e3,e4⟩:=hE j x e;exact⟨u,m,vs,e1,e2,e3,s4 _ _ (s3 _ _ e4)⟩
def GR(C:Addr):Sp:=fun vs H Q _=>∃a ps ts L pk R N rs cs,vs=[.ref a.f]∧aF C H a ps ts L pk R N rs cs∧(∀r∈R,1≤r.2)∧cs.length=R.length∧ps.length=ts.length∧ts.length≤101∧R.length≤1000∧
 ∀v H',au H H'→wZ ps ts L R cs H' v→Q v H'
theorem mT(T:Txt K mg A):aV P w K mg base eJ 9 A.jL A.jM ["self"] (GR A.aj):=by
 have si:=qU (P:=P) (w:=w) (base:=base) T;have cb:=(eB (P:=P) (w:=w) (base:=base) T).mono (by decide:_≤8);refine T.wc.ok uU (fun vs H Q E h=> ?_) (fun cG Ar outer s H vs Q E hr h=> ?_)
 ·obtain⟨a,ps,ts,L,pk,R,N,rs,cs,rfl,_⟩:=h;rfl
 ·obtain⟨a,ps,ts,L,pk,R,N,rs,cs,rfl,F,lB,vk,hl,ht1,hR,q⟩:=h;have hu:=dY hr;obtain⟨dx,ho⟩:=F.ob;have Q2:=ib ts;refine⟨_,(aq (aG (nC (aa (b9 (pv 0) rfl) (aa (ck gj (by rfl) T.kr Boot.«tuple» (aa (dn (N:=["number","self"]) (k:=1) (js:=[0]) rfl (bQ (by kernel_rfl)) (cy (cf (pv 0) T.ar T.ff cb hr T.e8 .nil aw)) (fun _ _ _ _ _=>⟨(ba (i:=0) (show(["number","self"]:aX).Nodup by decide+kernel) rfl (Or.inl rfl) (Or.inr rfl)),zq,(aR (pv 1) T.ar T.sI si hr T.sr .nil aw (aa (pv 0) ah))⟩)) ah)) ah))))),?_⟩;refine⟨_,rfl,a.f,A.aj,dx,_,_,rfl,ho,T.ar,T.gu,Bw _ _ _,?_⟩;refine⟨_,rfl,a.f,dx,_,rfl,ho,aB (by decide+kernel),a.f,a.pa,a.ta,ps,ts,rfl,F.fr,by omega,fun sl H1 YQ s1 Hh=> ?_⟩;refine⟨sl,rfl,⟨_,bB.of Hh⟩,?_⟩;refine tj (fun j v H' =>∃n o,(aQ ts)[j]? =some n∧ps[n]? =some o∧Be R cs H' n o v) (cV (bB.of Hh)).g (by rw[List.length_map];exact Nat.le_of_lt (bY (by omega))) ?_ ?_ ?_
  ·rintro j v Ha Hb kt ⟨n,o,h1,h2,h3⟩
   exact⟨n,o,h1,h2,h3.kept kt⟩
  ·intro j x H' C1 hj sm hx c1;rw[List.getElem?_map] at hx
   cases en:(aQ ts)[j]? with
   |none=>rw[en] at hx;cases hx
   |some n=>
    rw[en] at hx;cases hx;have F' :=(F.same s1).same sm;obtain⟨CD,BO⟩:=F'.ob;have fw:ts[n]? =some none:=eq_of_beq (fT.mp (List.mem_of_getElem? en))
    have hnl:n<ps.length:=by
     have:=(List.getElem?_eq_some_iff.mp fw).1;omega
    have Nb:ps[n]? =some ps[n]:=by simp[hnl]
    exact⟨(gk.refl _).own (by decide),_,rfl,a.f,CD,_,rfl,BO,aB (by decide+kernel),_,rfl,a,ps,ts,L,pk,R,N,rs,cs,n,_,rfl,F',lB,vk,hl,fw,Nb,hR,fun v H2 s2 pf=>c1 _ _ s2 ⟨n,_,en,Nb,pf⟩⟩
  ·intro p H2 Ly hp sm wX E9 hE;rw[List.length_map] at E9;refine⟨p,_,rfl,.inl ⟨bB.of wX,fun tt UX=>⟨(show 2≤sizeLine by decide),fun t ht=> ?_⟩⟩⟩;have s3:=au.upd (o:= .tup Ly) UX;have s4:=au.upd (o:= .tup [V.int L,.ref tt]) ht;refine q _ _ (s1.trans (sm.trans (s3.trans s4))) ⟨t,tt,Ly,rfl,ae,s4 _ _ ae,E9,fun j x e=> ?_⟩;obtain⟨n,o,e1,e2,e3⟩:=hE j x e;exact⟨n,o,e1,e2,e3.kept fun c xs e=>s4 _ _ (s3 _ _ e)⟩
def Uo:Sp:=fun vs H Q _=>∃m ps ts L top R ws ms cs,vs=[.ref m.d]∧aO H m ps ts L top R ws ms cs∧ps.length=ts.length∧ts.length≤101∧R.length≤1000∧
 ∀v H',au H H'→wZ ps ts L R cs H' v→Q v H'
theorem pD(T:Txt K mg A):aV P w K mg base eJ 3 A.kB A.kI ["_law_model"] Uo:=by
 have cn:=(fO (P:=P) (w:=w) (base:=base) T).mono (by decide:_≤2);have oJ:=(rp (P:=P) (w:=w) (base:=base) T).mono (by decide:_≤2);refine T.hZ.ok gy (fun vs H Q E h=> ?_) (fun cG Ar outer s H vs Q E hr h=> ?_)
 ·obtain⟨m,ps,ts,L,top,R,ws,ms,cs,rfl,_⟩:=h;rfl
 ·obtain⟨m,ps,ts,L,top,R,ws,ms,cs,rfl,M,hl,ht1,hR,q⟩:=h;have hu:=dY hr;have Q2:=ib ts;refine⟨_,(ak (a_ (i:=1) gy.nd rfl (Or.inl rfl) (bO ah)) (ak (gR PassesOwn.never rfl (cy (ay cn hr rfl T.eV T.dk.kp T.eL .nil aw (aa (pv 0) ah))) (ba (i:=2) gy.nd rfl (Or.inl rfl) (Or.inl rfl)) (ak (a_ (i:=3) gy.nd rfl (Or.inl rfl) (ck gj (by rfl) T.kr Boot.«tuple» (aa (dn (N:=["_law_way","_law_model"]) (k:=1) (js:=[0]) rfl (bQ (by kernel_rfl)) (cy (ay oJ hr rfl T.tP T.pw.kp T.tJ .nil aw (aa (pv 0) (aa (pv 2) ah)))) (fun _ _ _ _ _=>⟨(ba (i:=0) (show(["_law_way","_law_model"]:aX).Nodup by decide+kernel) rfl (Or.inl rfl) (Or.inr rfl)),zq,(ck (qi (K:=K) rfl) (by rfl) T.kr Boot.«tuple» (aa (aN hu (aN hu (pv 1) aS (fun _ _=>rfl)) (pv 0) (fun _ _=>rfl)) ah))⟩)) ah))) (aq (aY (vC plainAttrs_list PySem.F.slot_list_append PySem.F.type_list_append eW (pv 1) (aa (nC (aa (pv 2) (aa (bC bp (aN hu (pv 0) aS (fun _ _=>rfl)) (pv 2) (fun _ _=>rfl)) (aa (pv 3) ah)))) ah)))))) (aq (aG (nC (aa (aN hu (pv 0) aS (fun _ _=>rfl)) (aa (ck gj (by rfl) T.kr Boot.«tuple» (aa (pv 1) ah)) ah))))))),?_⟩;refine⟨(show 0≤sizeLine by decide),fun fl DP=> ?_⟩;have s0:=au.upd (o:= .lst []) DP;have e0:upd H fl (.lst []) fl=some (.lst []):=ae;generalize upd H fl (.lst [])=H0 at s0 e0;refine⟨_,rfl,m.d,m.ha,m.tk,ps,ts,rfl,(M.same s0).mod,by omega,fun sl H1 YQ s1 Hh=> ?_⟩;have nsl:sl≠fl:=(ag e0 YQ).symm;refine⟨sl,rfl,⟨_,bB.of Hh⟩,?_⟩;refine gr (K:=K) (a:=sl) (xs:=(aQ ts).map nV) (fun j σ H' =>∃(x2 x3:Option V) (ys:az),σ=[some (.ref m.d),some (.ref fl),x2,x3]∧H' fl=some (.lst ys)∧ys.length=j∧(∀i x,ys[i]? =some x→∃n o,(aQ ts)[i]? =some n∧ps[n]? =some o∧Be R cs H' n o x)∧∀c q,c≠fl→H1 c=some q→H' c=some q) ⟨_,_,[],rfl,s1 _ _ e0,rfl,(fun i x e=>by rw[List.getElem?_nil] at e;cases e),fun c q _ e=>e⟩ ?_ ?_ ?_
  ·rintro j σ H' _ ⟨x2,x3,ys,rfl,_,_,_,kk⟩
   exact bB.of (kk _ _ nsl Hh)
  ·rintro j x σ H2 hx ⟨x2,x3,ys,rfl,Uw,rX,hE,kk⟩
   rw[List.getElem?_map] at hx
   cases en:(aQ ts)[j]? with
   |none=>rw[en] at hx;cases hx
   |some n=>
    rw[en] at hx;cases hx;have fw:ts[n]? =some none:=eq_of_beq (fT.mp (List.mem_of_getElem? en));have FN:=(List.getElem?_eq_some_iff.mp en).1
    have hnl:n<ps.length:=by
     have:=(List.getElem?_eq_some_iff.mp fw).1;omega
    have Nb:ps[n]? =some ps[n]:=by simp[hnl]
    have sH2:au H H2:=fun c q e=>kk c q (ag e DP) (s1 _ _ (s0 _ _ e));have M2:=M.same sH2;have xO:=qM R n;refine⟨_,rfl,_,rfl,m,ps,ts,L,top,R,ws,ms,cs,n,rfl,M2,hR,fun gl H3 hgl s3 hg=> ?_⟩;refine⟨gl,rfl,⟨_,bB.of hg⟩,?_⟩;have Vf:(wf ws (bW R n)).length=(bW R n).length:=List.length_map ..;refine tj (fun j v H' =>∃u m vs,v= .ref u∧(bW R n)[j]? =some m∧cs[m]? =some vs∧H' u=some (.tup vs)) (cV (bB.of hg)).g (by rw[Vf];exact Nat.le_of_lt (bY (by omega))) ?_ ?_ ?_
    ·rintro j v Ha Hb kt ⟨u,m,vs,h1,h2,h3,h4⟩
     exact⟨u,m,vs,h1,h2,h3,kt _ _ h4⟩
    ·intro i x H' C1 hi sm hx c1;rw[Vf] at hi;have M' :=(M2.same s3).same sm;have ei:=dz 0 hi;have him:=jQ (List.mem_of_getElem? ei);obtain⟨b,vs,e1,e2,e3,e4,e5⟩:=M'.at_ him;unfold wf at hx;rw[List.getElem?_map,ei] at hx;cases hx;refine⟨(gk.refl _).own (by decide),?_⟩;refine⟨_,rfl,m.d,_,rfl,M'.D_,_,rfl,m.ca,_,rfl,e4,b,_,rfl,.inl ⟨bB.of e5,fun u hu=>c1 _ _ (au.upd hu) ⟨u,_,vs,rfl,ei,e2,ae⟩⟩⟩
    ·intro p H4 Ly hp sm wX E9 hE2;rw[Vf] at E9;refine⟨p,_,rfl,.inl ⟨bB.of wX,fun tt UX=> ?_⟩⟩;have s5:=au.upd (o:= .tup Ly) UX;have e5:upd H4 tt (.tup Ly) tt=some (.tup Ly):=ae;generalize upd H4 tt (.tup Ly)=H5 at s5 e5;have s25:=s3.trans (sm.trans s5);have M5:=M2.same s25;refine⟨_,rfl,.inl ⟨rfl,_,bB.of (s25 _ _ Uw)⟩,?_⟩;refine⟨_,rfl,_,rfl,m.d,_,rfl,M5.mod.BB,_,rfl,m.ha,_,_,_,rfl,rfl,bB.of M5.hl,jY Nb,_,rfl,(show 3≤sizeLine by decide),fun t ht=> ?_⟩;have s6:=au.upd (o:= .tup [nV n,oV ps[n],.ref tt]) ht;have e6:upd H5 t (.tup [nV n,oV ps[n],.ref tt]) t=some (.tup [nV n,oV ps[n],.ref tt]):=ae;generalize upd H5 t (.tup [nV n,oV ps[n],.ref tt])=H6 at s6 e6;have s26:=s25.trans s6;refine⟨fl,_,_,rfl,rfl,s26 _ _ Uw,by rw[rX];exact bY (by omega),?_⟩
     have kt7:∀c xs,H6 c=some (.tup xs)→upd H6 fl (.lst (ys++[.ref t])) c=some (.tup xs):=fun c xs e=>by
      rw[af (aJ e (s26 _ _ Uw) (by intro z;cases z))];exact e
     refine⟨_,_,ys++[.ref t],rfl,ae,by rw[List.length_append,rX];rfl,fun i x e=> ?_,fun c q h e=> ?_⟩
     ·by_cases hi:i<ys.length
      ·rw[List.getElem?_append_left hi] at e;obtain⟨n',o',e1,e2,e3⟩:=hE i x e;exact⟨n',o',e1,e2,e3.kept fun c xs e=>kt7 c xs (s26 _ _ e)⟩
      ·rw[List.getElem?_append_right (by omega)] at e
       have hi0:i - ys.length=0:=by
        have:=(List.getElem?_eq_some_iff.mp e).1;simp at this;omega
       rw[hi0] at e;cases e;have Xh:i=j:=by omega
       subst Xh;refine⟨n,_,en,Nb,t,tt,Ly,rfl,kt7 _ _ e6,kt7 _ _ (s6 _ _ e5),E9,fun i2 x2 e2=> ?_⟩;obtain⟨u,m',vs,f1,f2,f3,f4⟩:=hE2 i2 x2 e2;exact⟨u,m',vs,f1,f2,f3,kt7 _ _ (s6 _ _ (s5 _ _ f4))⟩
     ·rw[af h];exact s26 _ _ (kk c q h e)
  ·rintro σ H2 ⟨x2,x3,ys,rfl,Uw,rX,hE,kk⟩
   have sH2:au H H2:=fun c q e=>kk c q (ag e DP) (s1 _ _ (s0 _ _ e));rw[List.length_map] at rX;refine⟨_,rfl,m.d,_,rfl,(M.same sH2).getL,_,rfl,fl,_,rfl,.inl ⟨bB.of Uw,fun tt UX=>⟨(show 2≤sizeLine by decide),fun t ht=> ?_⟩⟩⟩;have s3:=au.upd (o:= .tup ys) UX;have s4:=au.upd (o:= .tup [V.int L,.ref tt]) ht;refine q _ _ (sH2.trans (s3.trans s4)) ⟨t,tt,ys,rfl,ae,s4 _ _ ae,rX,fun j x e=> ?_⟩;obtain⟨n,o,e1,e2,e3⟩:=hE j x e;exact⟨n,o,e1,e2,e3.kept fun c xs e=>s4 _ _ (s3 _ _ e)⟩
end
theorem Jr.L2.aV.toX{P:Program}{w:World}{K:Frag}{mg:Str→aH}{base:Heap}{k:Nat}{f:Addr}{fd:FuncData}{ps:aX}{sp:Sp}(F:aV P w K mg base eJ k f fd ps sp):aV P w K mg base (vI P w) k f fd ps sp:=
 ⟨F.len,fun A outer s H args us vs Q E hr he hb hv hs=>codeAny_mono (F.run A outer s H args us vs Q E hr he hb hv hs) fun r s' h=>by
  cases r with
  |error e=>exact False.elim h
  |ok fl=>cases fl<;>exact h⟩
def ab5(a b:Sp):Sp:=fun vs H Q E=>a vs H Q E∨b vs H Q E
theorem Jr.L2.aV.or{P:Program}{w:World}{K:Frag}{mg:Str→aH}{base:Heap}{CX:Bl}{k:Nat}{f:Addr}{fd:FuncData}{ps:aX}{a b:Sp}(F:aV P w K mg base CX k f fd ps a)(G:aV P w K mg base CX k f fd ps b):aV P w K mg base CX k f fd ps (ab5 a b):=
 ⟨fun vs H Q E h=>h.elim (F.len vs H Q E) (G.len vs H Q E),fun A outer s H args us vs Q E hr he hb hv hs=>hs.elim (F.run A outer s H args us vs Q E hr he hb hv) (G.run A outer s H args us vs Q E hr he hb hv)⟩
section
variable{P:Program}{w:World}{K:Frag}{mg:Str→aH}{base:Heap}{A:qH}
def aor(K:Frag):Sp:=fun vs H Q _=>∃a C dd n x,vs=[.ref a,x]∧H a=some (.ext (cY a C dd n))∧CV K C∧Q .bJ H
theorem di(T:Txt K mg A):aV P w K mg base eJ 1 A.dH A.fK ["self","text"] (aor K):=by
 refine T.qf.ok pI (fun vs H Q E h=> ?_) (fun cG Ar outer s H vs Q E hr h=> ?_)
 ·obtain⟨a,C,dd,n,x,rfl,_⟩:=h;rfl
 ·obtain⟨a,C,dd,n,x,rfl,ea,hc,k⟩:=h;refine⟨_,(aq (aY (MS rfl T.nA (aa (pv 0) (aa (pv 1) ah))))),?_⟩;exact⟨_,rfl,_,rfl,a,C,dd,n,x,rfl,ea,hc,k⟩
def YL(C:Addr)(f g:Str):Sp:=fun vs H Q _=>∃a x y,vs=[.ref a,x,y]∧H a=some (.ext (cY a C none true))∧∀dx,H dx=none→dx≠a→Q .bJ (upd (upd (upd H a (.ext (cY a C (some dx) true))) dx (.xd [(f,x)])) dx (.xd (cu g y [(f,x)])))
theorem uW(T:Txt K mg A):aV P w K mg base eJ 2 A.gE A.jZ ["self","found","by"] (YL A.fG "found" "by"):=by
 have bP:=di (P:=P) (w:=w) (base:=base) T;refine T.vT.ok uI (fun vs H Q E h=> ?_) (fun cG Ar outer s H vs Q E hr h=> ?_)
 ·obtain⟨a,x,y,rfl,_⟩:=h;rfl
 ·obtain⟨a,x,y,rfl,ea,k⟩:=h;refine⟨_,(ak (aY (p9 T.dm rfl T.lF bP hr T.dq .nil aw (aa (pv 0) (aa aS ah)))) (ak (uh (pv 0) (pv 1) rfl) (aq (uh (pv 0) (pv 2) rfl)))),?_⟩;refine⟨_,rfl,a,A.fG,none,true,_,rfl,ea,T.Br.k_,?_⟩;refine⟨_,rfl,_,rfl,a,A.fG,true,rfl,T.J3,T.AI,.inl ⟨ea,fun dx hn ne=> ?_⟩⟩;exact⟨_,rfl,_,rfl,a,A.fG,true,rfl,T.J3,T.Ab,.inr ⟨dx,_,(by rw[af ne.symm,ae]),ae,ne,(show 1≤900 by decide),k dx hn ne⟩⟩
end
theorem WH{K:Frag}{C:Addr}{f g:Str}{k:Ends}{σ:L2.St}{v y:V}{H:Hp}{E:XK}{t:TA}(hc:CV K C)(ht:∀Q:az→Hp→Prop,Q [v,y] H→t σ H Q)
 (r:∀dx H2,au H H2→H2 dx=some (.xd (cu g y [(f,v)]))→E (.ref C) (some dx) H2):D7 K E (ET C (YL C f g) E0 t) k σ H:=by
 refine ht _ fun x hx=>⟨x,v,y,rfl,ae,fun dx CY ne=>⟨rfl,x,C,some dx,rfl,(by rw[af (fun z=>ne z.symm),af (fun z=>ne z.symm),ae]),hc,r dx _ (fun c o e=> ?_) ?_⟩⟩
 ·have hd:H dx=none:=by rw[af ne] at CY;exact CY
  rw[af (ag e hx),af (ag e hd),af (ag e hd),af (ag e hx),af (ag e hx)];exact e
 ·rw[af ne,ae]
structure Az(H:Hp)(ts:aP)(R:Rm)(i j:Nat)(t:Addr):Prop where
 hi:i<R.length
 st:ts[(R.getD i (0,0)).1]? =some (some j)
 e:H t=some (.tup (oZ (R.getD i (0,0)).1 (aT R i)))
theorem Az.same{H H' :Hp}{ts:aP}{R:Rm}{i j:Nat}{t:Addr}(w:Az H ts R i j t)(s:au H H'):Az H' ts R i j t:=⟨w.hi,w.st,s _ _ w.e⟩
def MO(A:qH)(H:Hp)(t:Addr)(j:Nat)(E:XK):Prop:=∀dx H2,au H H2→H2 dx=some (.xd (cu "by" (.int j) [("found",.ref t)]))→E (.ref A.fG) (some dx) H2
section
variable{P:Program}{w:World}{K:Frag}{mg:Str→aH}{base:Heap}{A:qH}
def qC(A:qH)(n:Nat):Sp:=fun vs H _ E=>∃a ps ts L pk R N rs cs i j t,∃xs:az,vs= .ref a.f:: .ref t::xs∧xs.length=n∧aF A.aj H a ps ts L pk R N rs cs∧(∀r∈R,1≤r.2)∧ps.length=ts.length∧Az H ts R i j t∧MO A H t j E
theorem j8(T:Txt K mg A):aV P w K mg base (vI P w) 6 A.bS A.bU ["self","thing"] (qC A 0):=by
 have cc:=(j6 (P:=P) (w:=w) (base:=base) T).mono (by decide:_≤5);have du:=gN (P:=P) (w:=w) (base:=base) T;have pC:=(uW (P:=P) (w:=w) (base:=base) T).mono (by decide:_≤4);refine T.ia.Rg df (fun vs H Q E h=> ?_) (fun cG Ar outer s H vs Q E hr h=> ?_)
 ·obtain⟨a,ps,ts,L,pk,R,N,rs,cs,i,j,t,xs,rfl,hx,_⟩:=h;rw[List.length_cons,List.length_cons,hx];rfl
 ·obtain⟨a,ps,ts,L,pk,R,N,rs,cs,i,j,t,xs,rfl,hx,F,lB,hl,ga,r⟩:=h;obtain rfl:=List.length_eq_zero_iff.mp hx;have hu:=dY hr;obtain⟨dx,ho⟩:=F.ob;refine⟨_,(ak (cg (fu (eZ (aR (pv 0) T.ar T.fA cc hr T.fN .nil aw (aa (pv 1) ah)))) (aq eN) bj) (ak (a_ (i:=2) df.nd rfl (Or.inl rfl) (aR (pv 0) T.ar T.iz du hr T.hV .nil aw (aa (bC ie (pv 1) ax (fun _ _=>rfl)) ah))) (ak (cg (bc wu (pv 2) dh (bu _)) (aq (tI rfl g8 (tu T.Br pC hr rfl T.Mj T.vO aw (aa (pv 1) (aa (pv 2) ah)) (fun _ _ _ _ h=>by rw[pC.len _ _ _ _ h];decide)))) bj) (aq (aG (aN hu (aN hu (b9 (pv 0) rfl) (bC ie (pv 1) ax (fun _ _=>rfl)) (fun _ _=>rfl)) (bC ie (pv 1) ax (fun _ _=>rfl)) (fun _ _=>rfl))))))),?_⟩;refine⟨_,rfl,a.f,dx,_,rfl,ho,aB (by decide+kernel),_,rfl,a,ps,ts,L,pk,R,N,rs,cs,i,t,rfl,F,lB,ga.hi,ga.e,fun H1 s1=>⟨_,rfl,?_⟩⟩;have F1:=F.same s1;have e1:=s1 _ _ ga.e;obtain⟨pG,Bg⟩:=F1.ob;refine⟨_,rfl,a.f,pG,_,rfl,Bg,aB (by decide+kernel),_,rfl,t,_,0,_,rfl,rfl,qQ.of e1,rfl,a.f,a.pa,a.ta,ps,ts,(R.getD i (0,0)).1,some j,rfl,F1.fr,hl,ga.st,?_⟩;refine⟨_,rfl,rfl,_,rfl,?_⟩;exact WH (K:=K) (f:="found") (g:="by") (k:={nx:=fun _ H' =>Q .bJ H',rt:=Q}) T.Br.k_ (fun Q' q=>⟨_,rfl,_,rfl,q⟩) fun CD H2 s2 e2=>r CD H2 (s1.trans s2) e2
theorem NW(T:Txt K mg A):aV P w K mg base (vI P w) 7 A.g7 A.gU ["self","way","k"] (qC A 1):=by
 have aM:aV P w K mg base (vI P w) 6 A.bS A.bU ["self","thing"] (qC A 0):=j8 T;refine T.p8.Rg fU (fun vs H Q E h=> ?_) (fun cG Ar outer s H vs Q E hr h=> ?_)
 ·obtain⟨a,ps,ts,L,pk,R,N,rs,cs,i,j,t,xs,rfl,hx,_⟩:=h;rw[List.length_cons,List.length_cons,hx];rfl
 ·obtain⟨a,ps,ts,L,pk,R,N,rs,cs,i,j,t,xs,rfl,hx,F,lB,hl,ga,r⟩:=h;obtain⟨dx,ho⟩:=F.ob
  match xs,hx with
  |[x],_=>exact⟨_,(ak (a_ (i:=3) fU.nd rfl (Or.inl rfl) (aR (pv 0) T.ar T.bM aM hr T.bN .nil (kA g8 trivial) (aa (pv 1) ah))) zZ),_,rfl,a.f,dx,_,rfl,ho,aB (by decide+kernel),_,rfl,a,ps,ts,L,pk,R,N,rs,cs,i,j,t,[],rfl,rfl,F,lB,hl,ga,r⟩
theorem xR(T:Txt K mg A):aV P w K mg base (vI P w) 7 A.eI A.eA ["self","way"] (qC A 0):=by
 have aM:aV P w K mg base (vI P w) 6 A.bS A.bU ["self","thing"] (qC A 0):=j8 T;refine T.n_.Rg mx (fun vs H Q E h=> ?_) (fun cG Ar outer s H vs Q E hr h=> ?_)
 ·obtain⟨a,ps,ts,L,pk,R,N,rs,cs,i,j,t,xs,rfl,hx,_⟩:=h;rw[List.length_cons,List.length_cons,hx];rfl
 ·obtain⟨a,ps,ts,L,pk,R,N,rs,cs,i,j,t,xs,rfl,hx,F,lB,hl,ga,r⟩:=h;obtain rfl:=List.length_eq_zero_iff.mp hx;obtain⟨dx,ho⟩:=F.ob;exact⟨_,(aq (aG (aE aU (by rfl) T.eh Boot.«len» (aa (aR (pv 0) T.ar T.bM aM hr T.bN .nil (kA g8 trivial) (aa (pv 1) ah)) ah)))),_,rfl,a.f,dx,_,rfl,ho,aB (by decide+kernel),_,rfl,a,ps,ts,L,pk,R,N,rs,cs,i,j,t,[],rfl,rfl,F,lB,hl,ga,r⟩
end
theorem ajc{A:qH}{H:Hp}{t:Addr}{Rr:Nat→Prop}{G:Prop}(E:XK)(key:∀j,Rr j→MO A H t j E)(main:(∀j,Rr j→MO A H t j E)→G):G:=main key
theorem acj{σ:L2.St}(h:σ.length=4):∃a b c d,σ=[a,b,c,d]:=by
 match σ,h with
 |[a,b,c,d],_=>exact⟨a,b,c,d,rfl⟩
section
variable{P:Program}{w:World}{K:Frag}{mg:Str→aH}{base:Heap}{A:qH}
def XR(C:Addr):Sp:=fun vs H Q _=>∃a ps ts L pk R N rs cs i t,∃o:Option Nat,vs=[.ref a.f,.ref t]∧aF C H a ps ts L pk R N rs cs∧cs.length=R.length∧(∀r∈R,1≤r.2)∧ps.length=ts.length∧i<R.length∧ts[(R.getD i (0,0)).1]? =some o∧H t=some (.tup (oZ (R.getD i (0,0)).1 (aT R i)))∧∀H',au H H'→Q (oV o) H'
theorem Es(T:Txt K mg A):aV P w K mg base eJ 8 A.uG A.uT ["_law_house_here","_law_way"] (XR A.aj):=by
 have ip:aV P w K mg base (vI P w) 7 A.eI A.eA ["self","way"] (ab5 (KQ A.aj) (qC A 0)):=(q_ T).toX.or (xR T);refine T.Ad.ok oX (fun vs H Q E h=> ?_) (fun cG Ar outer s H vs Q E hr h=> ?_)
 ·obtain⟨a,ps,ts,L,pk,R,N,rs,cs,i,t,o,rfl,_⟩:=h;rfl
 ·obtain⟨a,ps,ts,L,pk,R,N,rs,cs,i,t,o,rfl,F,vk,lB,hl,hi,fw,et,q⟩:=h;refine⟨_,(ak (a_ (i:=2) oX.nd rfl (Or.inl rfl) dh) (ak (CP (i:=3) rfl rfl oX.nd rfl rfl rfl T.Mj T.Br.k_ (fun E pn W hw=>(aq (aY (aR (pv 0) T.ar T.nM ip hr T.oQ .nil (kA hw trivial) (aa (pv 1) ah))))) (fun a=>(aq (a_ (i:=2) oX.nd rfl (Or.inl rfl) (sY (K:=K) rfl (pv 3) rfl))))) (aq (aG (pv 2))))),?_⟩;obtain⟨dx,ho⟩:=F.ob;apply ajc (A:=A) (H:=H) (t:=t) (Rr:=fun j=>o=some j)
  case main=>
   intro key;refine⟨_,rfl,a.f,dx,_,rfl,ho,aB (by decide+kernel),_,rfl,?_⟩
   cases o with
   |none=>
    exact .inl ⟨a,ps,ts,L,pk,R,N,rs,cs,i,t,cs[i]'(by omega),rfl,F,lB,hl,⟨hi,fw,et⟩,by simp[show i<cs.length by omega],fun H1 s1=>⟨_,rfl,q H1 s1⟩⟩
   |some j=>exact .inr ⟨a,ps,ts,L,pk,R,N,rs,cs,i,j,t,[],rfl,rfl,F,lB,hl,⟨hi,fw,et⟩,key j rfl⟩
  case key=>
   intro j hj;subst hj;intro xd H2 s2 hxd;refine⟨A.fG,rfl,T.CJ,fun a' cK ea hlen=> ?_⟩;obtain⟨y0,y1,y2,y3,rfl⟩:=acj hlen;exact⟨_,rfl,a',A.fG,xd,false,_,_,rfl,ea,hxd,T.Wx,T.Ab,rfl,⟨_,rfl,q H2 s2⟩⟩
end
structure kh(H:Hp)(R:Rm)(f p:Nat)(t:Addr):Prop where
 e:H t=some (.tup (oZ f p))
 no:∀i,i<R.length→(R.getD i (0,0)).1=f→aT R i≠p
theorem kh.same{H H' :Hp}{R:Rm}{f p:Nat}{t:Addr}(w:kh H R f p t)(s:au H H'):kh H' R f p t:=⟨s _ _ w.e,w.no⟩
theorem MD{R:Rm}{rs:aZ}{f p:Nat}(h:∀i,i<R.length→(R.getD i (0,0)).1=f→aT R i≠p):bA (bG R rs f) (.inl (p:Int))=none:=by
 cases e:bA (bG R rs f) (.inl (p:Int)) with
 |none=>rfl
 |some v=>
  obtain⟨i,hi,e2⟩:=List.mem_map.mp (x_ e);have h1:=congrArg Prod.fst e2;have h2:(aT R i:Int)=p:=Sum.inl.inj h1;exact absurd (by omega) (h i (jQ hi) (oh hi))
section
variable{P:Program}{w:World}{K:Frag}{mg:Str→aH}{base:Heap}{A:qH}
def Lq(C:Addr):Sp:=fun vs H Q _=>∃a ps ts L pk R N rs cs f p t,vs=[.ref a.f,.ref t]∧aF C H a ps ts L pk R N rs cs∧kh H R f p t∧∀H',au H H'→Q (.bl false) H'
theorem mO(T:Txt K mg A):aV P w K mg base eJ 4 A.h_ A.iy ["self","thing"] (Lq A.aj):=by
 have uC:=xC (P:=P) (w:=w) (base:=base) T;refine T.pM.ok pF (fun vs H Q E h=> ?_) (fun cG Ar outer s H vs Q E hr h=> ?_)
 ·obtain⟨a,ps,ts,L,pk,R,N,rs,cs,f,p,t,rfl,_⟩:=h;rfl
 ·obtain⟨a,ps,ts,L,pk,R,N,rs,cs,f,p,t,rfl,F,nw,k⟩:=h;have hu:=dY hr;obtain⟨dx,ho⟩:=F.ob;obtain⟨kv,f1,f2,f3,f4⟩:=F.fl;have e:=nw.e;refine⟨_,(aq (aG (o8 (ay uC hr rfl T.zY T.uB.kp T.Al .nil aw (aa (pv 1) ah)) (mI (MI (MV hu (bC ie (pv 1) ax (fun _ _=>rfl)) (pP hu (b9 (pv 0) rfl) (bC ie (pv 1) ax (fun _ _=>rfl)) mN ⟨rfl,rfl,rfl,rfl⟩))))))),?_⟩;refine⟨_,rfl,t,_,_,rfl,e,_,rfl,ka ⟨_,rfl,t,_,1,_,rfl,rfl,qQ.of e,rfl,_,rfl,a.f,A.aj,dx,_,_,rfl,ho,T.ar,T.cA,sg _ _ _,a.fa,rfl,.inl ⟨_,.inl f1⟩,_,rfl,t,_,0,_,rfl,rfl,qQ.of e,rfl,fun e0 Hw=> ?_⟩⟩;have s1:=au.upd (o:= .dK []) Hw;refine⟨_,fg.k (k:= .inl (f:Int)) (s1 _ _ f1),?_⟩
  have hd:∃d kd,((bA kv (.inl (f:Int))).getD (V.ref e0))= .ref d∧upd H e0 (.dK []) d=some (.dK kd)∧bA kd (.inl (p:Int))=none:=by
   rcases f3 f with⟨h1,h2⟩|⟨b,e1,e2,e3,e4,e5⟩
   ·rw[h1];exact⟨e0,[],rfl,ae,rfl⟩
   ·rw[e1];exact⟨b,_,rfl,s1 _ _ e5,MD nw.no⟩
  obtain⟨d,kd,IK,hd2,hd3⟩:=hd;rw[IK];refine⟨d,_,rfl,fg.k (k:= .inl (p:Int)) hd2,?_⟩;rw[hd3];exact k _ s1
def P7(C:Addr)(f:Str):Sp:=fun vs H Q _=>∃a x,vs=[.ref a,x]∧H a=some (.ext (cY a C none true))∧∀dx,H dx=none→dx≠a→Q .bJ (upd (upd H a (.ext (cY a C (some dx) true))) dx (.xd [(f,x)]))
theorem ug(T:Txt K mg A):aV P w K mg base eJ 2 A.fQ A.iX ["self","found"] (P7 A.ez "found"):=by
 have bP:=di (P:=P) (w:=w) (base:=base) T;refine T.uY.ok uk (fun vs H Q E h=> ?_) (fun cG Ar outer s H vs Q E hr h=> ?_)
 ·obtain⟨a,x,rfl,_⟩:=h;rfl
 ·obtain⟨a,x,rfl,ea,k⟩:=h;refine⟨_,(ak (aY (p9 T.dm rfl T.lF bP hr T.dq .nil aw (aa (pv 0) (aa aS ah)))) (aq (uh (pv 0) (pv 1) rfl))),?_⟩;refine⟨_,rfl,a,A.ez,none,true,_,rfl,ea,T.wm.k_,?_⟩;exact⟨_,rfl,_,rfl,a,A.ez,true,rfl,T.OL,T.rh,.inl ⟨ea,fun dx hn ne=>k dx hn ne⟩⟩
theorem qW(T:Txt K mg A):aV P w K mg base eJ 2 A.eF A.gP ["self","found"] (P7 A.cv "found"):=by
 have bP:=di (P:=P) (w:=w) (base:=base) T;refine T.rJ.ok qP (fun vs H Q E h=> ?_) (fun cG Ar outer s H vs Q E hr h=> ?_)
 ·obtain⟨a,x,rfl,_⟩:=h;rfl
 ·obtain⟨a,x,rfl,ea,k⟩:=h;refine⟨_,(ak (aY (p9 T.dm rfl T.lF bP hr T.dq .nil aw (aa (pv 0) (aa aS ah)))) (aq (uh (pv 0) (pv 1) rfl))),?_⟩;refine⟨_,rfl,a,A.cv,none,true,_,rfl,ea,T.qK.k_,?_⟩;exact⟨_,rfl,_,rfl,a,A.cv,true,rfl,T.GW,T.pE,.inl ⟨ea,fun dx hn ne=>k dx hn ne⟩⟩
theorem sE(T:Txt K mg A):aV P w K mg base eJ 2 A.e7 A.iI ["self","found"] (P7 A.cL "found"):=by
 have bP:=di (P:=P) (w:=w) (base:=base) T;refine T.tq.ok r8 (fun vs H Q E h=> ?_) (fun cG Ar outer s H vs Q E hr h=> ?_)
 ·obtain⟨a,x,rfl,_⟩:=h;rfl
 ·obtain⟨a,x,rfl,ea,k⟩:=h;refine⟨_,(ak (aY (p9 T.dm rfl T.lF bP hr T.dq .nil aw (aa (pv 0) (aa aS ah)))) (aq (uh (pv 0) (pv 1) rfl))),?_⟩;refine⟨_,rfl,a,A.cL,none,true,_,rfl,ea,T.tL.k_,?_⟩;exact⟨_,rfl,_,rfl,a,A.cL,true,rfl,T.ME,T.p6,.inl ⟨ea,fun dx hn ne=>k dx hn ne⟩⟩
end
theorem Ef{K:Frag}{C:Addr}{fd:Str}{k:Ends}{σ:L2.St}{v:V}{H:Hp}{E:XK}{t:TA}(hc:CV K C)(ht:∀Q:az→Hp→Prop,Q [v] H→t σ H Q)
 (r:∀dx H2,au H H2→H2 dx=some (.xd [(fd,v)])→E (.ref C) (some dx) H2):D7 K E (ET C (P7 C fd) E0 t) k σ H:=by
 refine ht _ fun x hx=>⟨x,v,rfl,ae,fun dx CY ne=>⟨rfl,x,C,some dx,rfl,(by rw[af (fun z=>ne z.symm),ae]),hc,r dx _ (fun c o e=> ?_) ?_⟩⟩
 ·have hd:H dx=none:=by rw[af ne] at CY;exact CY
  rw[af (ag e hx),af (ag e hd),af (ag e hx),af (ag e hx)];exact e
 ·rw[af ne,ae]
def wo(C:Addr)(H:Hp)(v:V)(E:XK):Prop:=∀dx H2,au H H2→H2 dx=some (.xd [("found",v)])→E (.ref C) (some dx) H2
section
variable{P:Program}{w:World}{K:Frag}{mg:Str→aH}{base:Heap}{A:qH}
def sZ(A:qH):Sp:=fun vs H _ E=>∃a ps ts L pk R N rs cs f p t,vs=[.ref a.f,.ref t]∧aF A.aj H a ps ts L pk R N rs cs∧kh H R f p t∧wo A.ez H (.ref t) E
theorem qT(T:Txt K mg A):aV P w K mg base (vI P w) 6 A.bS A.bU ["self","thing"] (sZ A):=by
 have cc:=(mO (P:=P) (w:=w) (base:=base) T).mono (by decide:_≤5);have mW:=(ug (P:=P) (w:=w) (base:=base) T).mono (by decide:_≤4);refine T.ia.Rg df (fun vs H Q E h=> ?_) (fun cG Ar outer s H vs Q E hr h=> ?_)
 ·obtain⟨a,ps,ts,L,pk,R,N,rs,cs,f,p,t,rfl,_⟩:=h;rfl
 ·obtain⟨a,ps,ts,L,pk,R,N,rs,cs,f,p,t,rfl,F,nw,r⟩:=h;have hu:=dY hr;obtain⟨dx,ho⟩:=F.ob;refine⟨_,(ak (cg (fu (eZ (aR (pv 0) T.ar T.fA cc hr T.fN .nil aw (aa (pv 1) ah)))) (aq (tI rfl g8 (tu T.wm mW hr rfl T.Gh T.uF aw (aa (pv 1) ah) (fun _ _ _ _ h=>by rw[mW.len _ _ _ _ h];decide)))) bj) zZ),?_⟩;refine⟨_,rfl,a.f,dx,_,rfl,ho,aB (by decide+kernel),_,rfl,a,ps,ts,L,pk,R,N,rs,cs,f,p,t,rfl,F,nw,fun H1 s1=>⟨_,rfl,ka ?_⟩⟩;exact Ef (K:=K) (v:= .ref t) T.wm.k_ (fun Q' q=>⟨_,rfl,q⟩) fun CD H2 s2 e2=>r CD H2 (s1.trans s2) e2
theorem w8(T:Txt K mg A):aV P w K mg base (vI P w) 7 A.eI A.eA ["self","way"] (sZ A):=by
 have aM:aV P w K mg base (vI P w) 6 A.bS A.bU ["self","thing"] (sZ A):=qT T;refine T.n_.Rg mx (fun vs H Q E h=> ?_) (fun cG Ar outer s H vs Q E hr h=> ?_)
 ·obtain⟨a,ps,ts,L,pk,R,N,rs,cs,f,p,t,rfl,_⟩:=h;rfl
 ·obtain⟨a,ps,ts,L,pk,R,N,rs,cs,f,p,t,rfl,F,nw,r⟩:=h;obtain⟨dx,ho⟩:=F.ob;exact⟨_,(aq (aG (aE aU (by rfl) T.eh Boot.«len» (aa (aR (pv 0) T.ar T.bM aM hr T.bN .nil (kA g8 trivial) (aa (pv 1) ah)) ah)))),_,rfl,a.f,dx,_,rfl,ho,aB (by decide+kernel),_,rfl,a,ps,ts,L,pk,R,N,rs,cs,f,p,t,rfl,F,nw,r⟩
def KD(C:Addr):Sp:=fun vs H Q _=>∃a ps ts L pk R N rs cs f p t,vs=[.ref a.f,.ref t]∧aF C H a ps ts L pk R N rs cs∧kh H R f p t∧∀H',au H H'→Q (.bl false) H'
theorem su(T:Txt K mg A):aV P w K mg base eJ 5 A.fR A.fP ["self","thing"] (KD A.aj):=by
 have cc:=mO (P:=P) (w:=w) (base:=base) T;have fk:=(me (P:=P) (w:=w) (base:=base) T).mono (by decide:_≤4);refine T.ng.ok lL (fun vs H Q E h=> ?_) (fun cG Ar outer s H vs Q E hr h=> ?_)
 ·obtain⟨a,ps,ts,L,pk,R,N,rs,cs,f,p,t,rfl,_⟩:=h;rfl
 ·obtain⟨a,ps,ts,L,pk,R,N,rs,cs,f,p,t,rfl,F,nw,k⟩:=h;obtain⟨dx,ho⟩:=F.ob;refine⟨_,(aq (aG (Gg (lS sJ (pv 1) dh (bu _)) (Gg (ay fk hr rfl T.lM T.gW.kp T.lP .nil aw (aa (pv 1) ah)) (mI (aR (pv 0) T.ar T.fA cc hr T.fN .nil aw (aa (pv 1) ah))))))),?_⟩;exact⟨_,rfl,rfl,_,rfl,g9 ⟨_,rfl,t,_,rfl,nw.e,_,rfl,g9 ⟨_,rfl,a.f,dx,_,rfl,ho,aB (by decide+kernel),_,rfl,a,ps,ts,L,pk,R,N,rs,cs,f,p,t,rfl,F,nw,k⟩⟩⟩
def Df(A:qH):Sp:=fun vs H _ E=>∃a ps ts L pk R N rs cs i t xs f p u,∃k:Nat,vs=[.ref a.f,.ref t,.int k,.ref u]∧aF A.aj H a ps ts L pk R N rs cs∧(∀r∈R,1≤r.2)∧ps.length=ts.length∧pz H ts R i t∧cs[i]? =some xs∧k<xs.length∧kh H R f p u∧wo A.cv H (.ref u) E
theorem yP(T:Txt K mg A):aV P w K mg base (vI P w) 7 A.jo A.jh ["self","way","k","value"] (Df A):=by
 have aM:=cx (P:=P) (w:=w) (base:=base) T;have fj:=(pq (P:=P) (w:=w) (base:=base) T).mono (by decide:_≤6);have iV:=(su (P:=P) (w:=w) (base:=base) T).mono (by decide:_≤6);have kO:=(qW (P:=P) (w:=w) (base:=base) T).mono (by decide:_≤5);refine T.vy.Rg km (fun vs H Q E h=> ?_) (fun cG Ar outer s H vs Q E hr h=> ?_)
 ·obtain⟨a,ps,ts,L,pk,R,N,rs,cs,i,t,xs,f,p,u,k,rfl,_⟩:=h;rfl
 ·obtain⟨a,ps,ts,L,pk,R,N,rs,cs,i,t,xs,f,p,u,k,rfl,F,lB,hl,wa,hc,hk,nw,r⟩:=h;obtain⟨dx,ho⟩:=F.ob;refine⟨_,(ak (a_ (i:=4) km.nd rfl (Or.inl rfl) (aR (pv 0) T.ar T.bM aM hr T.bN .nil aw (aa (pv 1) ah))) (ak (aY (ay fj hr rfl T.lJ T.gX.kp T.lT .nil aw (aa (pv 4) (aa (pv 2) ah)))) (ak (cg (fu (eZ (aR (pv 0) T.ar T.mV iV hr T.m8 .nil aw (aa (pv 3) ah)))) (aq (tI rfl g8 (tu T.qK kO hr rfl T.zV T.sN aw (aa (pv 3) ah) (fun _ _ _ _ h=>by rw[kO.len _ _ _ _ h];decide)))) bj) (aq (nG (pv 3) (oA (pv 4) (pv 2) ww)))))),?_⟩;refine⟨_,rfl,a.f,dx,_,rfl,ho,aB (by decide+kernel),_,rfl,a,ps,ts,L,pk,R,N,rs,cs,i,t,rfl,F,lB,hl,wa.hi,wa.st,wa.e,fun H1 s1=> ?_⟩;have F1:=F.same s1;obtain⟨r1,r2,ys,r3,r4⟩:=F1.room wa.hi;rw[hc] at r3;cases r3;refine⟨_,rfl,_,rfl,rs.getD i 0,xs,k,rfl,r4,hk,?_⟩;obtain⟨pG,Bg⟩:=F1.ob;refine⟨_,rfl,a.f,pG,_,rfl,Bg,aB (by decide+kernel),_,rfl,a,ps,ts,L,pk,R,N,rs,cs,f,p,u,rfl,F1,nw.same s1,fun H2 s2=>⟨_,rfl,ka ?_⟩⟩;exact Ef (K:=K) (v:= .ref u) T.qK.k_ (fun Q' q=>⟨_,rfl,q⟩) fun CD H3 s3 e3=>r CD H3 (s1.trans (s2.trans s3)) e3
def Av(A:qH):Sp:=fun vs H _ E=>∃b xs,vs=[.ref b,.int (xs.length:Nat)]∧H b=some (.lst xs)∧wo A.cL H (.int (xs.length:Nat)) E
theorem zt(T:Txt K mg A):aV P w K mg base (vI P w) 4 A.jk A.jH ["room","thing"] (Av A):=by
 have ek:=(jE (P:=P) (w:=w) (base:=base) T).mono (by decide:_≤3);have lN:=sE (P:=P) (w:=w) (base:=base) T;refine T.gX.Rg s_ (fun vs H Q E h=> ?_) (fun cG Ar outer s H vs Q E hr h=> ?_)
 ·obtain⟨b,xs,rfl,_⟩:=h;rfl
 ·obtain⟨b,xs,rfl,hb,r⟩:=h;refine⟨_,(aq (cg (fu (eZ (ay ek hr rfl T.lz T.iY.kp T.kN .nil aw (aa (pv 1) (aa ax (aa (bH jV (aE aU (by rfl) T.eh Boot.«len» (aa (pv 0) ah)) ax) ah)))))) (aq (tI rfl g8 (tu T.tL lN hr rfl T.DN T.tX aw (aa (pv 1) ah) (fun _ _ _ _ h=>by rw[lN.len _ _ _ _ h];decide)))) bj)),?_⟩;refine⟨_,rfl,_,rfl,b,_,rfl,.inl (bB.of hb),_,1,rfl,rfl,(xs.length:Int),0,_,rfl,_,rfl,?_⟩;rw[decide_eq_false (show ¬((xs.length:Int)≤(xs.length:Int) - 1) by omega),Bool.and_false];exact ka (Ef (K:=K) (v:= .int (xs.length:Nat)) T.tL.k_ (fun Q' q=>⟨_,rfl,q⟩) r)
def IV(A:qH):Sp:=fun vs H _ E=>∃a ps ts L pk R N rs cs i t xs,vs=[.ref a.f,.ref t,.int (xs.length:Nat)]∧aF A.aj H a ps ts L pk R N rs cs∧(∀r∈R,1≤r.2)∧ps.length=ts.length∧pz H ts R i t∧cs[i]? =some xs∧wo A.cL H (.int (xs.length:Nat)) E
theorem yD(T:Txt K mg A):aV P w K mg base (vI P w) 7 A.g7 A.gU ["self","way","k"] (IV A):=by
 have aM:=cx (P:=P) (w:=w) (base:=base) T;have fj:aV P w K mg base (vI P w) 6 A.jk A.jH ["room","thing"] (Av A):=(zt T).mono (by decide);refine T.p8.Rg fU (fun vs H Q E h=> ?_) (fun cG Ar outer s H vs Q E hr h=> ?_)
 ·obtain⟨a,ps,ts,L,pk,R,N,rs,cs,i,t,xs,rfl,_⟩:=h;rfl
 ·obtain⟨a,ps,ts,L,pk,R,N,rs,cs,i,t,xs,rfl,F,lB,hl,wa,hc,r⟩:=h;obtain⟨dx,ho⟩:=F.ob;refine⟨_,(ak (a_ (i:=3) fU.nd rfl (Or.inl rfl) (aR (pv 0) T.ar T.bM aM hr T.bN .nil aw (aa (pv 1) ah))) (ak (aY (ay fj hr rfl T.lJ T.gX.kp T.lT .nil (kA g8 trivial) (aa (pv 3) (aa (pv 2) ah)))) (aq (aG (bC bp (pv 3) (pv 2) (fun _ _=>rfl)))))),?_⟩;refine⟨_,rfl,a.f,dx,_,rfl,ho,aB (by decide+kernel),_,rfl,a,ps,ts,L,pk,R,N,rs,cs,i,t,rfl,F,lB,hl,wa.hi,wa.st,wa.e,fun H1 s1=> ?_⟩;obtain⟨r1,r2,ys,r3,r4⟩:=(F.same s1).room wa.hi;rw[hc] at r3;cases r3;exact⟨_,rfl,_,rfl,rs.getD i 0,xs,rfl,r4,fun CD H2 s2 e2=>r CD H2 (s1.trans s2) e2⟩
def Np(C:Addr):Sp:=fun vs H Q _=>∃a ps ts L pk R N rs cs i t xs,vs=[.ref a.f,.ref t,.int (xs.length:Nat)]∧aF C H a ps ts L pk R N rs cs∧(∀r∈R,1≤r.2)∧ps.length=ts.length∧pz H ts R i t∧cs[i]? =some xs∧∀H',au H H'→Q (.int (xs.length:Nat)) H'
theorem ZZ{σ:L2.St}(h:σ.length=5):∃a b c d e,σ=[a,b,c,d,e]:=by
 match σ,h with
 |[a,b,c,d,e],_=>exact⟨a,b,c,d,e,rfl⟩
theorem vK(T:Txt K mg A):aV P w K mg base eJ 8 A.kE A.kK ["_law_house_here","_law_way","_law_k"] (Np A.aj):=by
 have CN:aV P w K mg base (vI P w) 7 A.g7 A.gU ["self","way","k"] (IV A):=yD T;refine T.qa.ok gF (fun vs H Q E h=> ?_) (fun cG Ar outer s H vs Q E hr h=> ?_)
 ·obtain⟨a,ps,ts,L,pk,R,N,rs,cs,i,t,xs,rfl,_⟩:=h;rfl
 ·obtain⟨a,ps,ts,L,pk,R,N,rs,cs,i,t,xs,rfl,F,lB,hl,wa,hc,q⟩:=h;refine⟨_,(ak (a_ (i:=3) gF.nd rfl (Or.inl rfl) dh) (ak (CP (i:=4) rfl rfl gF.nd rfl rfl rfl T.DN T.tL.k_ (fun E pn W hw=>(aq (aY (aR (pv 0) T.ar T.DA CN hr T.CH .nil (kA hw trivial) (aa (pv 1) (aa (pv 2) ah)))))) (fun a=>(aq (a_ (i:=3) gF.nd rfl (Or.inl rfl) (sY (K:=K) rfl (pv 4) rfl))))) (aq (aG (pv 3))))),?_⟩;obtain⟨dx,ho⟩:=F.ob;refine⟨_,rfl,a.f,dx,_,rfl,ho,aB (by decide+kernel),_,rfl,_,rfl,a,ps,ts,L,pk,R,N,rs,cs,i,t,xs,rfl,F,lB,hl,wa,hc,?_⟩;intro xd H2 s2 hxd;refine⟨A.cL,rfl,T.vM,fun a' cK ea hlen=> ?_⟩;obtain⟨y0,y1,y2,y3,y4,rfl⟩:=ZZ hlen;exact⟨_,rfl,a',A.cL,xd,false,_,_,rfl,ea,hxd,T.L7,T.p6,rfl,⟨_,rfl,q H2 s2⟩⟩
def jad(j:Nat):Str:=if j=0 then "way" else "value"
def Mg(C:Addr):Sp:=fun vs H Q _=>∃a ps ts L pk R N rs cs f p t rl rooms,vs=[.ref a.f,.ref rl,.ref t]∧aF C H a ps ts L pk R N rs cs∧(∀r∈R,1≤r.2)∧ps.length=ts.length∧(∀(i:Nat) vs,cs[i]? =some vs→1≤vs.length)∧cs.length=R.length∧kh H R f p t∧H rl=some (.lst rooms)∧rooms.length≤1∧(∀(j:Nat) v,rooms[j]? =some v→∃i wt,v= .ref wt∧pz H ts R i wt)∧
 ∀fl ys H',au H H'→H' fl=some (.lst ys)→ys.length=1+rooms.length→(∀(j:Nat) v,ys[j]? =some v→∃l,v= .ref l∧H' l=some (.lst [.str (jad j),.ref t]))→Q (.ref fl) H'
theorem xM(T:Txt K mg A):aV P w K mg base eJ 8 A.mD A.mv ["_law_house_here","_law_rooms","_law_way"] (Mg A.aj):=by
 have ip:aV P w K mg base (vI P w) 7 A.eI A.eA ["self","way"] (sZ A):=w8 T;have qr:aV P w K mg base (vI P w) 7 A.jo A.jh ["self","way","k","value"] (Df A):=yP T;refine T.ra.ok fE (fun vs H Q E h=> ?_) (fun cG Ar outer s H vs Q E hr h=> ?_)
 ·obtain⟨a,ps,ts,L,pk,R,N,rs,cs,f,p,t,rl,rooms,rfl,_⟩:=h;rfl
 ·obtain⟨a,ps,ts,L,pk,R,N,rs,cs,f,p,t,rl,rooms,rfl,F,lB,hl,hc1,vk,nw,Sg,hrn,hrw,q⟩:=h;have Dq:(2:Nat)≤sizeLine:=by decide
  refine⟨_,(ak (a_ (i:=3) fE.nd rfl (Or.inl rfl) (bO ah)) (ak (zC (i:=4) rfl rfl fE.nd rfl rfl rfl T.Gh T.wm.k_ (fun E pn W hw=>(aq (aY (Ck (pv 0) T.ar T.nM ip hr T.oQ .nil (wJ hw) (aa (pv 2) ah))))) (fun a=>(aq (aY (J4 (K:=K) rfl plainAttrs_list PySem.F.slot_list_append PySem.F.type_list_append eW (pv 3) (aa (bO (aa aS (aa (sY (K:=K) rfl (pv 4) rfl) ah))) ah)))))) (ak (gR PassesOwn.never rfl (cy (pv 1)) (ba (i:=5) fE.nd rfl (Or.inl rfl) (Or.inl rfl)) (aq (zC (i:=4) rfl rfl fE.nd rfl rfl rfl T.zV T.qK.k_ (fun E pn W hw=>(aq (aY (Ck (pv 0) T.ar T.vw qr hr T.vB .nil (wJ hw) (aa (pv 5) (aa ax (aa (pv 2) ah))))))) (fun a=>(aq (aY (J4 (K:=K) rfl plainAttrs_list PySem.F.slot_list_append PySem.F.type_list_append eW (pv 3) (aa (bO (aa aS (aa (sY (K:=K) rfl (pv 4) rfl) ah))) ah)))))))) (aq (aG (pv 3)))))),?_⟩;refine⟨(show 0≤sizeLine by decide),fun fl DP=> ?_⟩;have s0:=au.upd (o:= .lst []) DP;have e0:upd H fl (.lst []) fl=some (.lst []):=ae;generalize upd H fl (.lst [])=H0 at s0 e0;obtain⟨dx,ho⟩:=(F.same s0).ob;refine⟨_,rfl,a.f,dx,_,rfl,ho,aB (by decide+kernel),_,rfl,a,ps,ts,L,pk,R,N,rs,cs,f,p,t,rfl,F.same s0,nw.same s0,?_⟩;intro xd H1 s1 hxd;refine⟨A.ez,rfl,T.yL,fun ea hea=> ?_⟩;refine⟨_,rfl,.inl ⟨rfl,_,bB.of (s1 _ _ e0)⟩,_,rfl,ea,A.ez,xd,false,_,_,rfl,hea,hxd,T.Qo,T.rh,rfl,Dq,fun l1 Ae=> ?_⟩;have s2:=au.upd (o:= .lst [V.str "way",.ref t]) Ae;have e2:upd H1 l1 (.lst [V.str "way",.ref t]) l1=some (.lst [V.str "way",.ref t]):=ae;generalize upd H1 l1 (.lst [V.str "way",.ref t])=H2 at s2 e2;have Uw:=s2 _ _ (s1 _ _ e0);refine⟨fl,_,_,rfl,rfl,Uw,(show 0<sizeLine by decide),?_⟩;have Xd:l1≠fl:=(ag (s1 _ _ e0) Ae).symm;have s02:au H H2:=s0.trans (s1.trans s2);have e3:upd H2 fl (.lst ([]++[V.ref l1])) fl=some (.lst [V.ref l1]):=ae
  have k3:∀c q,c≠fl→H2 c=some q→upd H2 fl (.lst ([]++[V.ref l1])) c=some q:=fun c q h e=>by
   rw[af h];exact e
  have P2:au H (upd H2 fl (.lst ([]++[V.ref l1]))):=fun c q e=>k3 c q (ag e DP) (s02 _ _ e);generalize upd H2 fl (.lst ([]++[V.ref l1]))=H3 at e3 k3 P2;refine⟨_,rfl,rl,rfl,⟨_,bB.of (P2 _ _ Sg)⟩,?_⟩;refine gr (K:=K) (a:=rl) (xs:=rooms) (fun j σ H' =>∃(x5:Option V) (ys:az),σ=[some (.ref a.f),some (.ref rl),some (.ref t),some (.ref fl),none,x5]∧H' fl=some (.lst ys)∧ys.length=1+j∧(∀(i:Nat) v,ys[i]? =some v→∃l,v= .ref l∧l≠fl∧H' l=some (.lst [.str (jad i),.ref t]))∧au H H') ⟨_,[V.ref l1],rfl,e3,rfl,fun i v e=> ?_,P2⟩ ?_ ?_ ?_
  ·have hi:i=0:=by
    have:=(List.getElem?_eq_some_iff.mp e).1;simpa using this
   subst hi;cases e;exact⟨l1,rfl,Xd,k3 _ _ Xd e2⟩
  ·rintro j σ H' _ ⟨x5,ys,rfl,_,_,_,sH⟩
   exact bB.of (sH _ _ Sg)
  ·rintro j x σ H4 hx ⟨x5,ys,rfl,hf4,rX,hE,sH⟩
   obtain⟨i,wt,rfl,wa⟩:=hrw j x hx;have FN:=(List.getElem?_eq_some_iff.mp hx).1;have F4:=F.same sH;obtain⟨Yn,Ua⟩:=F4.ob;have RV:cs[i]? =some (cs[i]'(by rw[vk];exact wa.hi)):=List.getElem?_eq_getElem (by rw[vk];exact wa.hi);refine⟨_,rfl,a.f,Yn,_,rfl,Ua,aB (by decide+kernel),_,rfl,_,rfl,a,ps,ts,L,pk,R,N,rs,cs,i,wt,_,f,p,t,0,rfl,F4,lB,hl,wa.same sH,RV,hc1 i _ RV,nw.same sH,?_⟩;intro xd2 H5 s5 agu;refine⟨A.cv,rfl,T.tT,fun eb heb=> ?_⟩;refine⟨_,rfl,.inl ⟨rfl,_,bB.of (s5 _ _ hf4)⟩,_,rfl,eb,A.cv,xd2,false,_,_,rfl,heb,agu,T.HK,T.pE,rfl,Dq,fun l2 m6=> ?_⟩;have s6:=au.upd (o:= .lst [V.str "value",.ref t]) m6;have e6:upd H5 l2 (.lst [V.str "value",.ref t]) l2=some (.lst [V.str "value",.ref t]):=ae;generalize upd H5 l2 (.lst [V.str "value",.ref t])=H6 at s6 e6;have hf6:=s6 _ _ (s5 _ _ hf4);have nl2:l2≠fl:=(ag (s5 _ _ hf4) m6).symm;refine⟨fl,_,_,rfl,rfl,hf6,by rw[rX];exact bY (by omega),?_⟩
   have k7:∀c q,c≠fl→H6 c=some q→upd H6 fl (.lst (ys++[V.ref l2])) c=some q:=fun c q h e=>by
    rw[af h];exact e
   refine⟨_,ys++[V.ref l2],rfl,ae,by rw[List.length_append,rX];rfl,fun i' v e=> ?_,fun c q e=>k7 c q (ag e DP) (s6 _ _ (s5 _ _ (sH _ _ e)))⟩;by_cases hi:i' <ys.length
   ·rw[List.getElem?_append_left hi] at e;obtain⟨l,e1,e2,e3⟩:=hE i' v e;exact⟨l,e1,e2,k7 _ _ e2 (s6 _ _ (s5 _ _ e3))⟩
   ·rw[List.getElem?_append_right (by omega)] at e
    have hi0:i' - ys.length=0:=by
     have:=(List.getElem?_eq_some_iff.mp e).1;simp at this;omega
    rw[hi0] at e;cases e;refine⟨l2,rfl,nl2,?_⟩;unfold jad;rw[if_neg (by omega)];exact k7 _ _ nl2 e6
  ·rintro σ H4 ⟨x5,ys,rfl,hf4,rX,hE,sH⟩
   refine⟨_,rfl,q fl ys H4 sH hf4 rX fun j v e=> ?_⟩;obtain⟨l,e1,_,e3⟩:=hE j v e;exact⟨l,e1,e3⟩
def Lm(H:Hp)(d:Addr)(qs:aZ):Prop:=∃wl,fg H d (.str "ways") (some (.ref wl))∧H wl=some (.lst (qs.map V.ref))∧∀q∈qs,∃f p:Nat,H q=some (.tup (oZ f p))
def OB(C:Addr):Sp:=fun vs H Q _=>∃a m ps ts L pk R N rs ws ms cs ol,∃ds:aZ,vs=[.ref a.f,.ref m.d,.ref ol]∧nr C H a m ps ts L pk R N rs ws ms cs∧R.length≤1000∧H ol=some (.lst (ds.map V.ref))∧(∀H',au H H'→∀d∈ds,∃qs,Lm H' d qs)∧∀H',au H H'→Q (.bl true) H'
theorem yG(T:Txt K mg A):aV P w K mg base eJ 9 A.nF A.nJ ["_law_house_here","_law_model","_law_others"] (OB A.aj):=by
 have gZ:=(oK (P:=P) (w:=w) (base:=base) T).mono (by decide:_≤8);have yu:=xM (P:=P) (w:=w) (base:=base) T;refine T.tW.ok ja (fun vs H Q E h=> ?_) (fun cG Ar outer s H vs Q E hr h=> ?_)
 ·obtain⟨a,m,ps,ts,L,pk,R,N,rs,ws,ms,cs,ol,ds,rfl,_⟩:=h;rfl
 ·obtain⟨a,m,ps,ts,L,pk,R,N,rs,ws,ms,cs,ol,ds,rfl,Z,hR,NI,hds,q⟩:=h;have hu:=dY hr;have sP:_+100<cLine:=Nat.lt_of_le_of_lt (Nat.add_le_add_left (by decide:100≤16*8+200) _) (by have:=hr.un;omega);have Xp:_<cLine:=Nat.lt_of_le_of_lt (Nat.le_add_right _ _) sP;refine⟨_,(ak (FQ (i:=3) ja.nd rfl (Or.inl rfl) (N:=["_law_way"]) (k:=1) (js:=[]) rfl (bQ (by kernel_rfl)) (cy (MH Qt (ay gZ hr rfl T.lR T.jD.kp T.lO .nil aw (aa (pv 1) ah)) Pg (Fl ax))) (fun _ _ _ _ _=>⟨(ba (i:=0) (show(["_law_way"]:aX).Nodup by decide+kernel) rfl (Or.inl rfl) (Or.inr rfl)),zq,(pv 0)⟩)) (ak (gR PassesOwn.never rfl (cy (pv 2)) (ba (i:=4) ja.nd rfl (Or.inl rfl) (Or.inl rfl)) (aq (gR PassesOwn.never rfl (cy (aN hu (pv 4) aS (fun _ _=>rfl))) (ba (i:=5) ja.nd rfl (Or.inl rfl) (Or.inl rfl)) (aq (cg (bc (CG sP) (pv 5) (aN hu (pv 1) aS (fun _ _=>rfl)) (by with_unfolding_all rfl)) (aq (cg (bc (u9 sP) (ay yu hr rfl T.zz T.ra.kp T.zc .nil aw (aa (pv 0) (aa (pv 3) (aa (pv 5) ah)))) (bH Kg (bO (aa (bO (aa aS (aa (pv 5) ah))) ah)) (bH ED (bO (aa (bO (aa aS (aa (pv 5) ah))) ah)) (aE aU (by rfl) T.eh Boot.«len» (aa (pv 3) ah)))) (bu _)) (aq (aG j9)) bj)) bj))))) (aq (aG j9)))),?_⟩;refine⟨_,rfl,m,ps,ts,L,pk,R,ws,ms,cs,rfl,Z.mo,hR,Z.rt,fun Ct H1 hhl s1 hh1=> ?_⟩;refine⟨1,rfl,Ct,_,rfl,bB.of hh1,fun p0 hp0=>⟨p0,rfl,⟨_,bB.of ae⟩,?_⟩⟩;have s2:=au.upd (o:= .lst (wM (wf ws (iO ts R)) none (some 1))) hp0;have e2:upd H1 p0 (.lst (wM (wf ws (iO ts R)) none (some 1))) p0=some (.lst (wM (wf ws (iO ts R)) none (some 1))):=ae;generalize upd H1 p0 (.lst (wM (wf ws (iO ts R)) none (some 1)))=H2 at s2 e2
  have hc1:(wM (wf ws (iO ts R)) none (some 1)).length≤1:=by
   show((List.drop _ _).take _).length≤1;rw[List.length_take];have:HT.CK (wf ws (iO ts R)).length (wf ws (iO ts R)).length (some 1)=min 1 _:=HT.N9 _ _ 1;rw[this];omega
  have RV:∀v∈wM (wf ws (iO ts R)) none (some 1),v∈wf ws (iO ts R):=fun v hv=>List.mem_of_mem_drop (List.mem_of_mem_take hv);generalize wM (wf ws (iO ts R)) none (some 1)=cut at e2 hc1 RV;refine Ak (fun _=>true) (fun v=>v) (cV (bB.of e2)) (Nat.le_trans hc1 (by decide)) ?_ fun rl Sg=> ?_
  ·intro i x H' C1 C0 hx sm c1 c0;exact⟨(gk.refl _).own (by decide),ka (B:=C0 H') ⟨_,rfl,c1 rfl⟩⟩
  have er:(cut.filter fun _=>true).map (fun v=>v)=cut:=by
   rw[List.filter_eq_self.mpr (fun _ _=>rfl),List.map_id']
  rw[er];have s3:=au.upd (o:= .lst cut) Sg;have e3:upd H2 rl (.lst cut) rl=some (.lst cut):=ae;generalize upd H2 rl (.lst cut)=H3 at s3 e3;have P2:=s1.trans (s2.trans s3);refine⟨_,rfl,ol,rfl,⟨_,bB.of (P2 _ _ NI)⟩,?_⟩;refine gr (K:=K) (a:=ol) (xs:=ds.map V.ref) (fun j σ H' =>∃(x4 x5:Option V),σ=[some (.ref a.f),some (.ref m.d),some (.ref ol),some (.ref rl),x4,x5]∧au H3 H') ⟨_,_,rfl,au.refl _⟩ ?_ ?_ ?_
  ·rintro j σ H' _ ⟨x4,x5,rfl,s'⟩
   exact bB.of (s' _ _ (P2 _ _ NI))
  ·rintro j x σ H4 hx ⟨x4,x5,rfl,s4⟩
   obtain⟨d,hd,rfl⟩:=List.mem_map.mp (List.mem_of_getElem? hx);obtain⟨qs,wl,hw1,hw2,Rt⟩:=hds H4 (P2.trans s4) d hd;refine⟨_,rfl,d,_,rfl,hw1,wl,rfl,⟨_,bB.of hw2⟩,?_⟩;refine gr (K:=K) (a:=wl) (xs:=qs.map V.ref) (fun j σ H' =>∃(x5:Option V),σ=[some (.ref a.f),some (.ref m.d),some (.ref ol),some (.ref rl),some (.ref d),x5]∧au H4 H') ⟨_,rfl,au.refl _⟩ ?_ ?_ ?_
   ·rintro j σ H' _ ⟨x5,rfl,s'⟩
    exact bB.of (s' _ _ hw2)
   ·rintro j x σ H5 hx ⟨x5,rfl,s5⟩
    obtain⟨t,ht,rfl⟩:=List.mem_map.mp (List.mem_of_getElem? hx);obtain⟨f,p,hft⟩:=Rt t ht;have Z5:=Z.same (P2.trans (s4.trans s5));have ht5:=s5 _ _ hft
    have hws:∀c∈ws,∃i' j' :Int,H5 c=some (.tup [.int i',.int j']):=fun c hc=>by
     obtain⟨i,hi,rfl⟩:=List.mem_iff_getElem.mp hc;have hiR:i<R.length:=by rw[←Z.mo.iB];exact hi
     have:=(Z5.mo.way i hiR).2;rw[List.getD_eq_getElem?_getD,List.getElem?_eq_getElem hi] at this;exact⟨_,_,this⟩
    refine⟨_,rfl,_,rfl,m.d,_,rfl,Z5.mo.yR,t,m.wl,_,_,ws,rfl,rfl,ht5,Z5.mo.wl,hws,_,rfl,?_⟩;refine zm (fun hno=> ?_) (fun _=>⟨_,rfl,s5⟩)
    have nw:kh H5 R f p t:=⟨ht5,fun i hi e1 e2=>by
     have hno:(!ws.any fun a=>VL H5 (f:Int) (p:Int) (.ref a))=true:=hno;have hw:=(Z5.mo.way i hi).2
     have LX:ws.getD i 0∈ws:=by
      rw[List.getD_eq_getElem?_getD,List.getElem?_eq_getElem (by rw[Z.mo.iB];exact hi)];exact List.getElem_mem _
     have:(ws.any fun a=>VL H5 (f:Int) (p:Int) (.ref a))=true:=by
      refine List.any_eq_true.mpr ⟨_,LX,?_⟩;show(match H5 (ws.getD i 0) with|some (.tup [.int x,.int y])=>x==(f:Int)&&y==(p:Int)|_=>false)=true;rw[hw,e1,e2];show((f:Int)==f&&(p:Int)==p)=true;rw[beq_self_eq_true,beq_self_eq_true];rfl
     rw[this] at hno;cases hno⟩
    have s35:=s4.trans s5
    refine⟨_,rfl,_,rfl,_,rfl,a,ps,ts,L,pk,R,N,rs,cs,f,p,t,rl,cut,rfl,Z5.h,Z.r1,Z.G.W.len,(fun i vs e=>by
     have h1:=Z.ok.cz i vs e
     have hi:i<R.length:=by
      rw[←Z.ok.cl];exact(List.getElem?_eq_some_iff.mp e).1
     have:=Z.r1 _ (wv hi);omega),Z.ok.cl,nw,s35 _ _ e3,hc1,(fun j v e=>by
     obtain⟨i,Rv,rfl⟩:=List.mem_map.mp (RV v (List.mem_of_getElem? e));exact⟨i,_,rfl,Z5.Ca (BR Rv) (r6 Rv)⟩),fun fl ys H6 s6 DP rX hE=> ?_⟩
    have h1L:(1:Nat)≤sizeLine:=by decide
    have Dq:(2:Nat)≤sizeLine:=by decide
    refine⟨_,rfl,Dq,fun la QL=>⟨h1L,fun lb hlb=>⟨_,rfl,Dq,fun lc hlc=>⟨h1L,fun ld hld=>⟨_,rfl,rl,cut,rfl,?_⟩⟩⟩⟩⟩;have t1:=au.upd (o:= .lst [V.str "way",.ref t]) QL;have g1:upd H6 la (.lst [V.str "way",.ref t]) la=some (.lst [V.str "way",.ref t]):=ae;generalize upd H6 la (.lst [V.str "way",.ref t])=H7 at*
    have t2:=au.upd (o:= .lst [V.ref la]) hlb;have g2:upd H7 lb (.lst [V.ref la]) lb=some (.lst [V.ref la]):=ae;generalize upd H7 lb (.lst [V.ref la])=H8 at*
    have t3:=au.upd (o:= .lst [V.str "value",.ref t]) hlc;have g3:upd H8 lc (.lst [V.str "value",.ref t]) lc=some (.lst [V.str "value",.ref t]):=ae;generalize upd H8 lc (.lst [V.str "value",.ref t])=H9 at*
    have t4:=au.upd (o:= .lst [V.ref lc]) hld;have g4:upd H9 ld (.lst [V.ref lc]) ld=some (.lst [V.ref lc]):=ae;generalize upd H9 ld (.lst [V.ref lc])=Fp at*
    have acg:=t1.trans (t2.trans (t3.trans t4));have ap0:=s6.trans acg;refine⟨.inl (bB.of (ap0 _ _ (s35 _ _ e3))),?_⟩;refine⟨ld,(cut.length:Int),[.ref lc],rfl,rfl,g4,by omega,by omega,?_,fun le hle=> ?_⟩
    ·rw[Int.toNat_natCast];show 1*cut.length≤sizeLine;exact Nat.le_trans (by omega:1*cut.length≤1) h1L
    rw[Int.toNat_natCast];have t5:=au.upd (o:= .lst (List.replicate cut.length [V.ref lc]).flatten) hle;have g5:upd Fp le (.lst (List.replicate cut.length [V.ref lc]).flatten) le=some (.lst (List.replicate cut.length [V.ref lc]).flatten):=ae;generalize upd Fp le (.lst (List.replicate cut.length [V.ref lc]).flatten)=NT at t5 g5;have acv:(List.replicate cut.length [V.ref lc]).flatten.length=cut.length*1:=jac [V.ref lc] cut.length;refine⟨lb,le,[.ref la],_,rfl,rfl,t5 _ _ (t4 _ _ (t3 _ _ g2)),g5,?_,fun lf hlf=> ?_⟩
    ·show 1+(List.replicate cut.length [V.ref lc]).flatten.length≤sizeLine;rw[acv];exact Nat.le_trans (by omega:1+cut.length*1≤2) Dq
    have t6:=au.upd (o:= .lst ([V.ref la]++(List.replicate cut.length [V.ref lc]).flatten)) hlf;have g6:upd NT lf (.lst ([V.ref la]++(List.replicate cut.length [V.ref lc]).flatten)) lf=some (.lst ([V.ref la]++(List.replicate cut.length [V.ref lc]).flatten)):=ae;generalize upd NT lf (.lst ([V.ref la]++(List.replicate cut.length [V.ref lc]).flatten))=IB at t6 g6;have Qk:=acg.trans (t5.trans t6);have dt:Dat IB (.ref t) (gS f p):= .tup (Qk _ _ (s6 _ _ ht5)) (.cons (.int _) (.cons (.int _) .nil));have dl:∀{l:Addr} {z:Str},IB l=some (.lst [.str z,.ref t])→Dat IB (.ref l) (.list [.str z,gS f p]):=fun e=> .lst e (.cons (.str _) (.cons dt .nil))
    have dy:∀(j:Nat) v,ys[j]? =some v→Dat IB v (.list [.str (jad j),gS f p]):=fun j v e=>by
     obtain⟨l,rfl,hl⟩:=hE j v e;exact dl (Qk _ _ hl)
    have ga:=dl ((t2.trans (t3.trans (t4.trans (t5.trans t6)))) _ _ g1);have gc:=dl ((t4.trans (t5.trans t6)) _ _ g3)
    have Yz:∃ds,DatAll IB ys ds∧DatAll IB ([V.ref la]++(List.replicate cut.length [V.ref lc]).flatten) ds∧SeqAt.shaped (.list ds)=true∧SeqAt.noMix (.list ds) (.list ds)=true:=by
     rcases(show cut.length=0∨cut.length=1 by omega) with h|h
     ·rw[h] at rX ⊢
      match ys,rX with
      |[y0],_=>exact⟨[.list [.str "way",gS f p]],.cons (dy 0 y0 rfl) .nil,.cons ga .nil,(by simp[SeqAt.shaped,gS,PyData.canLay0,PyData.canLayAll0,PyData.depth,PyData.depthAll];decide+kernel),by simp[SeqAt.noMix,SeqAt.noMixAll,gS]⟩
     ·rw[h] at rX ⊢
      match ys,rX with
      |[y0,y1],_=>exact⟨[.list [.str "way",gS f p],.list [.str "value",gS f p]],.cons (dy 0 y0 rfl) (.cons (dy 1 y1 rfl) .nil),.cons ga (.cons gc .nil),(by simp[SeqAt.shaped,gS,PyData.canLay0,PyData.canLayAll0,PyData.depth,PyData.depthAll];decide+kernel),by simp[SeqAt.noMix,SeqAt.noMixAll,gS]⟩
    obtain⟨dd,h1,h2,h3,h4⟩:=Yz;refine⟨.list dd,.list dd,.lst (Qk _ _ DP) h1,.lst g6 h2,h3,h3,h4,_,rfl,?_⟩;rw[same_refl];exact g9 ⟨_,rfl,s5.trans (s6.trans Qk)⟩
   ·rintro σ H5 ⟨x5,rfl,s5⟩
    exact⟨_,_,rfl,s4.trans s5⟩
  ·rintro σ H4 ⟨x4,x5,rfl,s4⟩
   exact q H4 (P2.trans s4)
end
theorem Wh{ps ts:aP}(W:WF ps ts)(f:Nat):f<ps.length→∀n∈Bn ps f,n≤f:=by
 induction f using Nat.strongRecOn with
 |_ f ih=>
  intro hf n hn;by_cases h0:f=0
  ·subst h0;rw[tG W W.root] at hn;rcases List.mem_cons.mp hn with rfl|hn
   ·exact Nat.le_refl _
   ·cases hn
  ·obtain⟨j,ej,hj⟩:=W.par f (by omega) hf;rw[tG W ej] at hn;rcases List.mem_cons.mp hn with rfl|hn
   ·exact Nat.le_refl _
   ·have:=ih j hj (by omega) n hn;omega
def nD(S:List Nat):List PyData:=(S.map some).map oD
theorem EX{H:Hp}{l:Addr}{S:List Nat}(h:H l=some (.lst (S.map nV))):Dat H (.ref l) (.list (nD S)):=by
 rw[X6] at h;exact .lst h (ku H _)
theorem wg{o:Option Nat}(h:∀n,o=some n→n≤1000):Fits 5 1 (oD o):=by
 cases o with
 |none=>
  refine⟨?_,?_,?_⟩
  ·show(PyData.none).showable=true;simp only[PyData.showable]
  ·show(PyData.none).depth≤1;simp[PyData.depth]
  ·show(PyData.none).shown.length≤5;simp only[PyData.shown];decide+kernel
 |some n=>exact jr (h n rfl)
theorem Fu{S:List Nat}(h:∀n∈S,n≤1000)(hl:S.length≤200):Fits 1500 2 (.list (nD S)):=by
 have g:=Fits.list (B:=5) (k:=1) (ds:=nD S) fun d hd=>by
  obtain⟨o,ho,rfl⟩:=List.mem_map.mp hd;obtain⟨n,hn,rfl⟩:=List.mem_map.mp ho;exact wg fun m e=>by cases e;exact h n hn
 have e:(nD S).length=S.length:=by unfold nD;rw[List.length_map,List.length_map]
 rw[e] at g;exact g.mono (by omega) (Nat.le_refl _)
theorem HB{ps ts:aP}(W:WF ps ts){i:Nat}(hi:i<ps.length):(∀n∈ma ps i,n≤1000)∧(ma ps i).length≤200:=by
 have hle:=W.le;refine⟨fun n hn=> ?_,?_⟩
 ·have:=Wh W i hi n (List.mem_reverse.mp hn);omega
 ·have h:=BG ps i i;have e:(ma ps i).length=(AU ps i i).length:=List.length_reverse ..;omega
theorem Aa{ps ts:aP}(W:WF ps ts){i:Nat}{o:Option Nat}(h:ps[i]? =some o):∀n,o=some n→n≤1000:=fun n e=>by
 subst e;have hi:=(List.getElem?_eq_some_iff.mp h).1;have hle:=W.le;by_cases h0:i=0
 ·subst h0;rw[W.root] at h;cases h
 ·obtain⟨j,ej,hj⟩:=W.par i (by omega) hi;rw[ej] at h;cases h;omega
theorem Ei(H:Hp)(o:Option Nat):Dat H (oV o) (oD o):=by
 cases ku H [o] with
 |cons h _=>exact h
theorem z4(x:Str):(!decide (V.str x=V.str x))=false:=by rw[decide_eq_true rfl];rfl
section
variable{P:Program}{w:World}{K:Frag}{mg:Str→aH}{base:Heap}{A:qH}
def ND(C:Addr):Sp:=fun vs H Q _=>∃a m ps ts L pk R N rs ws ms cs,vs=[.ref a.f,.ref m.d]∧nr C H a m ps ts L pk R N rs ws ms cs∧R.length≤1000∧∀H',au H H'→Q (.bl true) H'
theorem qY(T:Txt K mg A):aV P w K mg base eJ 9 A.gL A.gK ["_law_house_here","_law_model"] (ND A.aj):=by
 have gZ:=(oK (P:=P) (w:=w) (base:=base) T).mono (by decide:_≤8);have sy:=(vf (P:=P) (w:=w) (base:=base) T).mono (by decide:_≤8);have xT:=vK (P:=P) (w:=w) (base:=base) T;have jP:=(mP (P:=P) (w:=w) (base:=base) T).mono (by decide:_≤8);have nN:=(rD (P:=P) (w:=w) (base:=base) T).mono (by decide:_≤8);have ip:=(q_ (P:=P) (w:=w) (base:=base) T).mono (by decide:_≤8);have md:=(qe (P:=P) (w:=w) (base:=base) T).mono (by decide:_≤8);refine T.kQ.ok dQ (fun vs H Q E h=> ?_) (fun cG Ar outer s H vs Q E hr h=> ?_)
 ·obtain⟨a,m,ps,ts,L,pk,R,N,rs,ws,ms,cs,rfl,_⟩:=h;rfl
 ·obtain⟨a,m,ps,ts,L,pk,R,N,rs,ws,ms,cs,rfl,Z,hR,q⟩:=h;have hu:=dY hr;have BY:=hr.gd;have Xp:=hr.Ej;have sP:_+100<cLine:=Nat.lt_of_le_of_lt (Nat.add_le_add_left (by decide:100≤16*8+200) _) (by have:=hr.un;omega);have Dq:(2:Nat)≤sizeLine:=by decide
  have hl:=Z.G.W.len;have Gs:=Z.G.ts;refine⟨_,(ak (gR PassesOwn.never rfl (iZ rfl T.ke (aa (aE aU (by rfl) T.eh Boot.«len» (aa (aN hu (pv 1) aS (fun _ _=>rfl)) ah)) ah)) (ba (i:=2) dQ.nd rfl (Or.inl rfl) (Or.inl rfl)) (aq (cg (bc vg (aE (cI BY sP) (by rfl) T.f_ Boot.«repr» (aa (bO (aa (aR (pv 0) T.ar T.pB jP hr T.pA .nil aw (aa (pv 2) ah)) (aa (aR (pv 0) T.ar T.sX nN hr T.tS .nil aw (aa (pv 2) ah)) ah))) ah)) (aE (cI BY sP) (by rfl) T.f_ Boot.«repr» (aa (bO (aa (bC bp (aN hu (pv 1) aS (fun _ _=>rfl)) (pv 2) (fun _ _=>rfl)) (aa (ay sy hr rfl T.xh T.sC.kp T.wF .nil aw (aa (pv 1) (aa (pv 2) ah))) ah))) ah)) (bu _)) (aq (aG j9)) bj))) (ak (gR PassesOwn.never rfl (cy (ay gZ hr rfl T.lR T.jD.kp T.lO .nil aw (aa (pv 1) ah))) (ba (i:=3) dQ.nd rfl (Or.inl rfl) (Or.inl rfl)) (ak (a_ (i:=4) dQ.nd rfl (Or.inl rfl) (aN hu (aN hu (pv 1) aS (fun _ _=>rfl)) (pv 3) (fun _ _=>rfl))) (ak (cg (bc vg (aE (cI BY sP) (by rfl) T.f_ Boot.«repr» (aa (bO (aa (aR (pv 0) T.ar T.nM ip hr T.oQ .nil aw (aa (pv 3) ah)) (aa (aR (pv 0) T.ar T.rj md hr T.rB .nil aw (aa (pv 3) ah)) ah))) ah)) (aE (cI BY sP) (by rfl) T.f_ Boot.«repr» (aa (bO (aa (aE aU (by rfl) T.eh Boot.«len» (aa (pv 4) ah)) (aa (pv 4) ah))) ah)) (bu _)) (aq (aG j9)) bj) (aq (cg (bc vg (ay xT hr rfl T.xG T.qa.kp T.yj .nil aw (aa (pv 0) (aa (pv 3) (aa (aE aU (by rfl) T.eh Boot.«len» (aa (pv 4) ah)) ah)))) (aE aU (by rfl) T.eh Boot.«len» (aa (pv 4) ah)) (bu _)) (aq (aG j9)) bj))))) (aq (aG j9)))),?_⟩;refine⟨_,rfl,m.d,_,rfl,Z.mo.mod.BB,m.ha,_,rfl,.inl (bB.of Z.mo.hl),?_⟩;rw[List.length_map];refine⟨_,rfl,by omega,by omega,?_⟩;refine qI (lo:=0) (n:=((ps.length:Nat):Int).toNat) (fun i σ H' =>∃(x2 x3 x4:Option V),σ=[some (.ref a.f),some (.ref m.d),x2,x3,x4]∧au H H') ⟨_,_,_,rfl,au.refl _⟩ ?_ ?_
  ·rintro i σ H1 hi ⟨x2,x3,x4,rfl,s1⟩
   rw[Int.toNat_natCast] at hi;have Z1:=Z.same s1;obtain⟨dx,ho⟩:=Z1.h.ob;have hpi:ps[i]? =some ps[i]:=by simp[hi]
   refine⟨_,rfl,a.f,dx,_,rfl,ho,aB (by decide+kernel),_,rfl,a.f,a.pa,a.ta,ps,ts,i,_,(by rw[Int.zero_add];rfl),Z1.h.fr,hpi,?_⟩;obtain⟨r1,r2⟩:=HB Z.G.W hi
   have fd:Fits 4000 3 (.list [oD ps[i],.list (nD (ma ps i))]):=by
    refine(Fits.list (B:=1500) (k:=2) fun e he=> ?_).mono (by show 1500*2+2*2+3≤4000;decide) (Nat.le_refl _);simp only[List.mem_cons,List.not_mem_nil,or_false] at he;rcases he with rfl|rfl
    ·exact(wg (Aa Z.G.W hpi)).mono (by decide) (by decide)
    ·exact Fu r1 r2
   obtain⟨gs,Ym,gln⟩:=fd.rep (by decide) (by decide);refine⟨_,rfl,a.f,dx,_,rfl,ho,aB (by decide+kernel),_,rfl,a.f,a.pa,a.ta,ps,ts,i,(by rw[Int.zero_add];rfl),Z1.h.fr,Z.G.W,hi,fun l1 H2 Ae s2 e2=>⟨Dq,fun p1 GO=>⟨_,_,rfl,.lst ae (.cons (Ei _ _) (.cons (EX ((au.upd GO) _ _ e2)) .nil)),gs,Ym,gln,?_⟩⟩⟩;have s3:=s2.trans (au.upd (o:= .lst [oV ps[i],V.ref l1]) GO);have Z3:=Z1.same s3;generalize upd H2 p1 (.lst [oV ps[i],V.ref l1])=H3 at s3 Z3;refine⟨_,rfl,m.d,_,rfl,Z3.mo.mod.BB,_,rfl,m.ha,_,_,_,rfl,rfl,bB.of Z3.mo.hl,(by rw[Int.zero_add];exact jY hpi),_,rfl,_,rfl,m.d,m.ha,m.tk,ps,ts,i,(by rw[Int.zero_add];rfl),Z3.mo.mod,Z.G.W,hi,fun l2 H4 m6 s4 e4=>⟨Dq,fun p2 wX=>⟨_,_,rfl,.lst ae (.cons (Ei _ _) (.cons (EX ((au.upd wX) _ _ e4)) .nil)),gs,Ym,gln,rfl,_,rfl,?_⟩⟩⟩;rw[z4];exact g9 ⟨_,_,_,rfl,s1.trans (s3.trans (s4.trans (au.upd wX)))⟩
  ·rintro σ H1 ⟨x2,x3,x4,rfl,s1⟩
   have Z1:=Z.same s1;refine⟨_,rfl,m,ps,ts,L,pk,R,ws,ms,cs,rfl,Z1.mo,hR,Z.rt,fun l H2 Ct s2 m6=>⟨l,rfl,⟨_,bB.of m6⟩,?_⟩⟩;refine gr (K:=K) (a:=l) (xs:=wf ws (iO ts R)) (fun jj σ H' =>∃(x3 x4:Option V),σ=[some (.ref a.f),some (.ref m.d),x2,x3,x4]∧au H2 H') ⟨_,_,rfl,au.refl _⟩ ?_ ?_ ?_
   ·rintro jj σ H' _ ⟨y3,y4,rfl,s'⟩
    exact bB.of (s' _ _ m6)
   ·rintro jj x σ H3 hx ⟨y3,y4,rfl,s3⟩
    obtain⟨i,Rv,rfl⟩:=List.mem_map.mp (List.mem_of_getElem? hx);have hi:=BR Rv;have st:=r6 Rv;have Z3:=Z1.same (s2.trans s3);obtain⟨b,xs,e1,hc,e3,e4,e5⟩:=Z3.mo.at_ hi;refine⟨_,rfl,m.d,_,rfl,Z3.mo.D_,_,rfl,m.ca,_,rfl,e4,?_⟩;obtain⟨dx3,Xb⟩:=Z3.h.ob;have hxl:=Z.ok.cz i xs hc;have hx6:=(Z.G.rw _ (wv hi)).2.1;obtain⟨ds,d1,d2,d3⟩:=Z3.dat hR (Z.ok.vo i xs hc)
    have fd:Fits 20000 6 (.list [.int (xs.length:Nat),.list ds]):=by
     refine(Fits.list (B:=7000) (k:=5) fun e he=> ?_).mono (by show 7000*2+2*2+3≤20000;decide) (Nat.le_refl _);simp only[List.mem_cons,List.not_mem_nil,or_false] at he;rcases he with rfl|rfl
     ·exact(jr (by omega)).mono (by decide) (by decide)
     ·refine(Fits.list d3).mono ?_ (Nat.le_refl _);rw[d1,hxl];omega
    obtain⟨gs,Ym,gln⟩:=fd.rep (by decide) (by decide);refine⟨_,rfl,a.f,dx3,_,rfl,Xb,aB (by decide+kernel),_,rfl,a,ps,ts,L,pk,R,N,rs,cs,i,_,xs,rfl,Z3.h,Z.r1,hl,Z3.Ca hi st,hc,fun H4 s4=> ?_⟩;have Z4:=Z3.same s4;obtain⟨Yn,Ua⟩:=Z4.h.ob;refine⟨_,rfl,a.f,Yn,_,rfl,Ua,aB (by decide+kernel),_,rfl,a,ps,ts,L,pk,R,N,rs,cs,i,_,xs,rfl,Z4.h,Z.r1,hl,Z4.Ca hi st,hc,fun l5 H5 hl5 s5 e5' =>⟨Dq,fun p5 hp5=>⟨_,_,rfl,.lst ae (.cons (.int _) (.cons (.lst ((au.upd hp5) _ _ e5') (DatAll.same ((s4.trans s5).trans (au.upd hp5)) d2)) .nil)),gs,Ym,gln,?_⟩⟩⟩;have s6:=(s4.trans s5).trans (au.upd (o:= .lst [V.int (xs.length:Nat),.ref l5]) hp5);generalize upd H5 p5 (.lst [V.int (xs.length:Nat),.ref l5])=H6 at s6;refine⟨_,rfl,b,_,rfl,.inl (bB.of (s6 _ _ e5)),_,rfl,Dq,fun p7 hp7=>⟨_,_,rfl,.lst ae (.cons (.int _) (.cons (.lst ((au.upd hp7) _ _ (s6 _ _ e5)) (DatAll.same (s6.trans (au.upd hp7)) d2)) .nil)),gs,Ym,gln,rfl,_,rfl,?_⟩⟩;rw[z4];have s7:=s6.trans (au.upd (o:= .lst [V.int (xs.length:Nat),.ref b]) hp7);generalize upd H6 p7 (.lst [V.int (xs.length:Nat),.ref b])=H7 at s7;have Z7:=Z3.same s7;refine g9 ⟨_,rfl,_,rfl,_,rfl,b,_,rfl,.inl (bB.of (s7 _ _ e5)),a,ps,ts,L,pk,R,N,rs,cs,i,_,xs,rfl,Z7.h,Z.r1,hl,Z7.Ca hi st,hc,fun H8 s8=>⟨_,rfl,b,_,rfl,.inl (bB.of (s8 _ _ (s7 _ _ e5))),?_⟩⟩;refine⟨rfl,_,rfl,?_⟩;rw[decide_eq_true rfl];exact g9 ⟨_,_,rfl,s3.trans (s7.trans s8)⟩
   ·rintro σ H3 ⟨y3,y4,rfl,s3⟩
    exact q H3 (s1.trans (s2.trans s3))
end
theorem uK{H:Hp}:∀{xs:az} {ds:List PyData},xs.length=ds.length→(∀(j:Nat) x d,xs[j]? =some x→ds[j]? =some d→Dat H x d)→DatAll H xs ds
 |[],[],_,_=> .nil
 |[],_::_,h,_=>by simp at h
 |_::_,[],h,_=>by simp at h
 |x::xs,d::ds,h,k=> .cons (k 0 x d rfl rfl) (uK (by simpa using h) fun j y e h1 h2=>k (j+1) y e (by simpa using h1) (by simpa using h2))
def WV(ps:aP)(R:Rm)(dss:Nat→List PyData)(n:Nat):PyData:= .tuple [.int n,oD (ps.getD n none),.tuple ((bW R n).map fun m=> .tuple (dss m))]
def Oo(ps ts:aP)(L:Nat)(R:Rm)(dss:Nat→List PyData):PyData:= .tuple [.int L,.tuple ((aQ ts).map fun n=>WV ps R dss n)]
theorem Be.dat{ps:aP}{R:Rm}{cs:dO}{H:Hp}{n:Nat}{o:Option Nat}{v:V}{dss:Nat→List PyData}(hp:ps[n]? =some o)(hd:∀(m:Nat) vs,cs[m]? =some vs→DatAll H vs (dss m))(h:Be R cs H n o v):Dat H v (WV ps R dss n):=by
 obtain⟨t,tt,xs,rfl,h2,h3,h4,h5⟩:=h;have e:ps.getD n none=o:=by rw[List.getD_eq_getElem?_getD,hp];rfl
 unfold WV;rw[e];refine .tup h2 (.cons (.int _) (.cons (Ei _ _) (.cons (.tup h3 (uK (by rw[List.length_map];exact h4) fun j x d e1 e2=> ?_)) .nil)));obtain⟨u,m,vs,rfl,f2,f3,f4⟩:=h5 j x e1;rw[List.getElem?_map,f2] at e2;cases e2;exact .tup f4 (hd m vs f3)
theorem wZ.dat{ps ts:aP}{L:Nat}{R:Rm}{cs:dO}{H:Hp}{v:V}{dss:Nat→List PyData}(hd:∀(m:Nat) vs,cs[m]? =some vs→DatAll H vs (dss m))(h:wZ ps ts L R cs H v):Dat H v (Oo ps ts L R dss):=by
 obtain⟨t,tt,xs,rfl,h2,h3,h4,h5⟩:=h;refine .tup h2 (.cons (.int _) (.cons (.tup h3 (uK (by rw[List.length_map];exact h4) fun j x d e1 e2=> ?_)) .nil));obtain⟨n,o,f1,f2,f3⟩:=h5 j x e1;rw[List.getElem?_map,f1] at e2;cases e2;exact f3.dat f2 hd
theorem Hd{f p:Nat}(h1:f≤1000)(h2:p≤1000):Fits 50 2 (gS f p):=by
 refine(Fits.tup (B:=5) (k:=1) fun d hd=> ?_).mono (by show 5*2+2*2+3≤50;decide) (by decide);simp only[List.mem_cons,List.not_mem_nil,or_false] at hd;rcases hd with rfl|rfl
 ·exact jr h1
 ·exact jr h2
theorem nr.Yx{C:Addr}{H:Hp}{a:HA}{m:MA}{ps ts:aP}{L pk:Nat}{R:Rm}{N:Nat}{rs ws ms:aZ}{cs:dO}(t:nr C H a m ps ts L pk R N rs ws ms cs)(hR:6*R.length≤1000):∀{xs:az},(∀v∈xs,Sw ws R.length v)→∃ds,ds.length=xs.length∧DatAll H xs ds∧∀d∈ds,Fits 100 3 d
 |[],_=>⟨[],rfl,.nil,fun d hd=>by cases hd⟩
 |v::xs,h=>by
  obtain⟨ds,h1,h2,h3⟩:=nr.Yx t hR (xs:=xs) fun u hu=>h u (List.mem_cons_of_mem _ hu)
  have hv:∃d,Dat H v d∧Fits 100 3 d:=by
   rcases h v List.mem_cons_self with rfl|⟨i,rfl,hi⟩|⟨i,hi,rfl⟩
   ·exact⟨.none,.bJ,Ap⟩
   ·exact⟨.int i,.int i,tM hi⟩
   ·refine⟨_,.tup (t.mo.way i hi).2 (.cons (.int _) (.cons (.int _) .nil)),(Hd ?_ ?_).mono (by decide) (by decide)⟩
    ·have:=t.rt _ (wv hi);have:=t.G.ts;omega
    ·have:=CT R (fun r hr=>(t.G.rw r hr).2.1) i;omega
  obtain⟨d,d1,d2⟩:=hv;refine⟨d::ds,by rw[List.length_cons,List.length_cons,h1],.cons d1 h2,fun e he=> ?_⟩;rcases List.mem_cons.mp he with rfl|he
  ·exact d2
  ·exact h3 e he
theorem nr.dss{C:Addr}{H:Hp}{a:HA}{m:MA}{ps ts:aP}{L pk:Nat}{R:Rm}{N:Nat}{rs ws ms:aZ}{cs:dO}(t:nr C H a m ps ts L pk R N rs ws ms cs)(hR:6*R.length≤1000):∃dss:Nat→List PyData,(∀(m:Nat) vs,cs[m]? =some vs→DatAll H vs (dss m))∧∀m,(dss m).length≤6∧∀d∈dss m,Fits 100 3 d:=by
 have ex:∀m:Nat,∃ds:List PyData,(∀vs,cs[m]? =some vs→DatAll H vs ds)∧ds.length≤6∧∀d∈ds,Fits 100 3 d:=fun m=>by
  cases e:cs[m]? with
  |none=>exact⟨[],(fun vs h=>by cases h),Nat.zero_le _,(fun d hd=>by cases hd)⟩
  |some vs=>
   obtain⟨ds,h1,h2,h3⟩:=t.Yx hR (t.ok.vo m vs e);refine⟨ds,(fun vs' h=>by cases h;exact h2),?_,h3⟩
   have hm:m<R.length:=by
    rw[←t.ok.cl];exact(List.getElem?_eq_some_iff.mp e).1
   rw[h1,t.ok.cz m vs e];exact(t.G.rw _ (wv hm)).2.1
 obtain⟨f,hf⟩:=Classical.axiomOfChoice ex;exact⟨f,fun m vs h=>(hf m).1 vs h,fun m=>(hf m).2⟩
theorem ES{B1 B2 B3 k1 k2 k3:Nat}{d1 d2 d3:PyData}(h1:Fits B1 k1 d1)(h2:Fits B2 k2 d2)(h3:Fits B3 k3 d3):Fits (B1+B2+B3+9) (max k1 (max k2 k3)+1) (.tuple [d1,d2,d3]):=by
 obtain⟨a1,a2,a3⟩:=h1;obtain⟨b1,b2,b3⟩:=h2;obtain⟨c1,c2,c3⟩:=h3;refine⟨?_,?_,?_⟩
 ·simp only[PyData.showable,PyData.showableAll,a1,b1,c1,Bool.and_self]
 ·simp only[PyData.depth,PyData.depthAll];omega
 ·simp only[PyData.shown];have:=tupleText_len_le (PyData.shownAll [d1,d2,d3]);simp only[PyData.shownAll,List.map_cons,List.map_nil,List.sum_cons,List.sum_nil,List.length_cons,List.length_nil] at this ⊢;omega
theorem Fc{B1 B2 k1 k2:Nat}{d1 d2:PyData}(h1:Fits B1 k1 d1)(h2:Fits B2 k2 d2):Fits (B1+B2+7) (max k1 k2+1) (.tuple [d1,d2]):=by
 obtain⟨a1,a2,a3⟩:=h1;obtain⟨b1,b2,b3⟩:=h2;refine⟨?_,?_,?_⟩
 ·simp only[PyData.showable,PyData.showableAll,a1,b1,Bool.and_self]
 ·simp only[PyData.depth,PyData.depthAll];omega
 ·simp only[PyData.shown];have:=tupleText_len_le (PyData.shownAll [d1,d2]);simp only[PyData.shownAll,List.map_cons,List.map_nil,List.sum_cons,List.sum_nil,List.length_cons,List.length_nil] at this ⊢;omega
theorem xc{ps ts:aP}{L:Nat}{R:Rm}{dss:Nat→List PyData}(W:WF ps ts)(hL:L≤1000)(hR:R.length≤160)(h:∀m,(dss m).length≤6∧∀d∈dss m,Fits 100 3 d):(Oo ps ts L R dss).showable=true∧(Oo ps ts L R dss).depth≤90∧(Oo ps ts L R dss).shown.length≤sizeLine:=by
 have Gs:ts.length≤101:=by
  have:=W.le;have:=W.len;omega
 have f1:∀m,Fits 620 4 (.tuple (dss m)):=fun m=>(Fits.tup (h m).2).mono (by have:=(h m).1;omega) (Nat.le_refl _)
 have f2:∀n,Fits 100000 5 (.tuple ((bW R n).map fun m=> .tuple (dss m))):=fun n=>by
  refine(Fits.tup (B:=620) (k:=4) fun d hd=> ?_).mono ?_ (Nat.le_refl _)
  ·obtain⟨m,_,rfl⟩:=List.mem_map.mp hd;exact f1 m
  ·rw[List.length_map];have:=qM R n;omega
 have f3:∀n∈aQ ts,Fits 165000 6 (WV ps R dss n):=fun n hn=>by
  have fw:ts[n]? =some none:=eq_of_beq (fT.mp hn);have hnl:=(List.getElem?_eq_some_iff.mp fw).1
  have rK:n<ps.length:=by
   have:=W.len;omega
  have hp:ps[n]? =some ps[n]:=by simp[rK]
  have e:ps.getD n none=ps[n]:=by rw[List.getD_eq_getElem?_getD,hp];rfl
  unfold WV;rw[e];exact(ES (jr (by omega)) (wg (Aa W hp)) (f2 n)).mono (by omega) (by decide)
 have f4:Fits (165000*ts.length+2*ts.length+3) 7 (.tuple ((aQ ts).map fun n=>WV ps R dss n)):=by
  refine(Fits.tup (B:=165000) (k:=6) fun d hd=> ?_).mono ?_ (Nat.le_refl _)
  ·obtain⟨n,hn,rfl⟩:=List.mem_map.mp hd;exact f3 n hn
  ·rw[List.length_map];have:=ib ts;omega
 have f5:=Fc (jr hL) f4;have hs:sizeLine=16777216:=by decide
 exact⟨f5.sh,Nat.le_trans f5.dp (by decide),Nat.le_trans f5.ln (by rw[hs];omega)⟩
section
variable{P:Program}{w:World}{K:Frag}{mg:Str→aH}{base:Heap}{A:qH}
def N8(C:Addr):Sp:=fun vs H Q _=>∃a ps ts L pk R N rs cs,vs=[.ref a.f]∧aF C H a ps ts L pk R N rs cs∧Q (.int L) H
theorem xi(T:Txt K mg A):aV P w K mg base eJ 1 A.mf A.lX ["self"] (N8 A.aj):=by
 refine T.yY.ok xY (fun vs H Q E h=> ?_) (fun cG Ar outer s H vs Q E hr h=> ?_)
 ·obtain⟨a,ps,ts,L,pk,R,N,rs,cs,rfl,_⟩:=h;rfl
 ·obtain⟨a,ps,ts,L,pk,R,N,rs,cs,rfl,F,q⟩:=h;obtain⟨dx,ho⟩:=F.ob;refine⟨_,(aq (aG (b9 (pv 0) rfl))),?_⟩;exact⟨_,rfl,a.f,A.aj,dx,_,_,rfl,ho,T.ar,T.gu,Bw _ _ _,q⟩
def E7(C:Addr):Sp:=fun vs H Q _=>∃a ps ts L pk R N rs cs,vs=[.ref a.f]∧aF C H a ps ts L pk R N rs cs∧Q (.int pk) H
theorem sS(T:Txt K mg A):aV P w K mg base eJ 1 A.iT A.iR ["self"] (E7 A.aj):=by
 refine T.uz.ok tH (fun vs H Q E h=> ?_) (fun cG Ar outer s H vs Q E hr h=> ?_)
 ·obtain⟨a,ps,ts,L,pk,R,N,rs,cs,rfl,_⟩:=h;rfl
 ·obtain⟨a,ps,ts,L,pk,R,N,rs,cs,rfl,F,q⟩:=h;obtain⟨dx,ho⟩:=F.ob;refine⟨_,(aq (aG (b9 (pv 0) rfl))),?_⟩;exact⟨_,rfl,a.f,A.aj,dx,_,_,rfl,ho,T.ar,T.fV,En _ _ _,q⟩
end
structure Mv(C:Addr)(H0:Hp)(a:HA)(m:MA)(H:Hp)(a' :HA)(m' :MA)(ps ts:aP)(L pk:Nat)(R:Rm)(N:Nat)(rs ws ms:aZ)(cs:dO)(r n k:Nat):Prop where
 Z:nr C H a' m' ps ts L pk R N rs ws ms cs
 f:a'.f=a.f
 d:m'.d=m.d
 oa:∀c∈a'.own,c∈a.own∨H0 c=none
 om:∀c∈m'.own,c∈m.own∨H0 c=none
 kp:∀c o,¬c∈a.own→¬c∈m.own→H0 c=some o→H c=some o
 kt:∀c xs,H0 c=some (.tup xs)→H c=some (.tup xs)
 al:∀c,H c=none→H0 c=none
 hR:R.length≤r+k
 hN:N≤n+2*k
section
variable{C:Addr}{H0 H H' H2 H3 H4:Hp}{a a' :HA}{m m' :MA}{ps ts:aP}{L pk:Nat}{R:Rm}{N:Nat}{rs ws ms:aZ}{cs:dO}{r n k:Nat}
theorem Mv.same(M:Mv C H0 a m H a' m' ps ts L pk R N rs ws ms cs r n k)(s:au H H'):Mv C H0 a m H' a' m' ps ts L pk R N rs ws ms cs r n k:=
 ⟨M.Z.same s,M.f,M.d,M.oa,M.om,fun c o h1 h2 e=>s _ _ (M.kp c o h1 h2 e),fun c xs e=>s _ _ (M.kt c xs e),fun c e=>M.al c (s.free e),M.hR,M.hN⟩
theorem Mv.mono{k' :Nat}(M:Mv C H0 a m H a' m' ps ts L pk R N rs ws ms cs r n k)(h:k≤k'):Mv C H0 a m H a' m' ps ts L pk R N rs ws ms cs r n k' :=
 ⟨M.Z,M.f,M.d,M.oa,M.om,M.kp,M.kt,M.al,by have:=M.hR;omega,by have:=M.hN;omega⟩
theorem Mv.made{t:Nat}{oa om:aZ}{r1 wt r2:Addr}(M:Mv C H0 a m H a' m' ps ts L pk R N rs ws ms cs r n k)(uy:ts[t]? =some none)(hle:bg ts R+1≤L)
 (F3:aF C H3 {a' with own:=oa} ps ts L (max pk (bg ts R+1)) (R++[(t,1)]) (N+2) (rs++[r1]) (cs++[List.replicate 1 .bJ])) (sa:∀c∈a'.own,c∈oa) (ga:∀c∈oa,c∈a'.own∨H c=none) (ux:∀c o,¬c∈a'.own→H c=some o→H3 c=some o) (NL:∀c xs,H c=some (.tup xs)→H3 c=some (.tup xs))
 (M4:aO H4 {m' with own:=om} ps ts L (max pk (bg ts (R++[(t,1)]))) (R++[(t,1)]) (ws++[wt]) (ms++[r2]) (cs++[List.replicate 1 .bJ])) (sm:∀c∈m'.own,c∈om) (gm:∀c∈om,c∈m'.own∨H3 c=none) (uw:∀c o,¬c∈m'.own→H3 c=some o→H4 c=some o) (WU:∀c xs,H3 c=some (.tup xs)→H4 c=some (.tup xs)):
 Mv C H0 a m H4 {a' with own:=oa} {m' with own:=om} ps ts L (max pk (bg ts R+1)) (R++[(t,1)]) (N+2) (rs++[r1]) (ws++[wt]) (ms++[r2]) (cs++[List.replicate 1 .bJ]) r n (k+1):=by
 have Z:=M.Z;have hW:=Z.G.W.len;have NS:t<ts.length:=(List.getElem?_eq_some_iff.mp uy).1;rw[kG R 1 uy] at M4
 have nm:∀c∈oa,¬c∈m'.own:=fun c hc z=>by
  rcases ga c hc with h|h
  ·exact Z.ap c h z
  ·obtain⟨o,e⟩:=Z.mo.al c z;rw[h] at e;cases e
 have F4:aF C H4 {a' with own:=oa} ps ts L (max pk (bg ts R+1)) (R++[(t,1)]) (N+2) (rs++[r1]) (cs++[List.replicate 1 .bJ]):=F3.kept fun c o hc e=>uw c o (nm c hc) e
 have G4:Good ps ts L (max pk (bg ts R+1)) (R++[(t,1)]):=by
  refine⟨Z.G.W,Z.G.g,fun r hr=> ?_,Z.G.lo,Z.G.hi,by rw[kG R 1 uy];exact hle,by have:=Z.G.pk;have:=Z.G.hi;omega⟩;rcases List.mem_append.mp hr with hr|hr
  ·exact Z.G.rw r hr
  ·simp only[List.mem_singleton] at hr;subst hr;exact⟨Nat.le_refl _,(by show(1:Nat)≤6;decide),by show t<ps.length;omega⟩
 have ap4:∀c∈oa,¬c∈om:=fun c hc z=>by
  rcases gm c z with h|h
  ·exact nm c hc h
  ·obtain⟨o,e⟩:=F3.al c hc;rw[h] at e;cases e
 have Ci:∀c,H3 c=none→H c=none:=fun c h=>by
  cases e:H c with
  |none=>rfl
  |some o=>
   by_cases z:c∈a'.own
   ·obtain⟨o',e'⟩:=F3.al c (sa c z);rw[h] at e';cases e'
   ·have:=ux c o z e;rw[h] at this;cases this
 have Gq:∀c,H4 c=none→H3 c=none:=fun c h=>by
  cases e:H3 c with
  |none=>rfl
  |some o=>
   by_cases z:c∈m'.own
   ·obtain⟨o',e'⟩:=M4.al c (sm c z);rw[h] at e';cases e'
   ·have:=uw c o z e;rw[h] at this;cases this
 refine⟨⟨F4,M4,G4,Z.ok.snoc Z.mo.iB,ap4⟩,M.f,M.d,fun c hc=> ?_,fun c hc=> ?_,fun c o h1 h2 e=> ?_,fun c xs e=>WU c xs (NL c xs (M.kt c xs e)),fun c e=>M.al c (Ci c (Gq c e)),?_,?_⟩
 ·rcases ga c hc with h|h
  ·exact M.oa c h
  ·exact .inr (M.al c h)
 ·rcases gm c hc with h|h
  ·exact M.om c h
  ·exact .inr (M.al c (Ci c h))
 ·have e' :=M.kp c o h1 h2 e
  have na:¬c∈a'.own:=fun z=>by
   rcases M.oa c z with h|h
   ·exact h1 h
   ·rw[h] at e;cases e
  have nm' :¬c∈m'.own:=fun z=>by
   rcases M.om c z with h|h
   ·exact h2 h
   ·rw[h] at e;cases e
  exact uw c o nm' (ux c o na e')
 ·rw[List.length_append];have:=M.hR;show R.length+1≤_;omega
 ·have:=M.hN;omega
end
theorem L4(ts:aP):((List.range ts.length).filter fun _=>true).map (fun i=>oV (ts.getD i none))=ts.map oV:=by
 rw[List.filter_eq_self.mpr (fun _ _=>rfl)];apply List.ext_getElem?;intro i;rw[List.getElem?_map,List.getElem?_map];by_cases hi:i<ts.length
 ·rw[List.getElem?_range hi,show ts[i]? =some ts[i] by simp[hi]];show some (oV (ts.getD i none))=some (oV ts[i]);rw[List.getD_eq_getElem?_getD];simp[hi]
 ·rw[List.getElem?_eq_none (by rw[List.length_range];omega),List.getElem?_eq_none (by omega)];rfl
open PySem.SeqAt in
theorem wY(f p:Nat):shaped (gS f p)=true:=by
 show(PyData.canLay0 (gS f p)&&decide (PyData.depth (gS f p)≤64))=true;simp[gS,PyData.canLay0,PyData.canLayAll0,PyData.depth,PyData.depthAll]
open PySem.SeqAt in
theorem Pz(f p:Nat):noMix (gS f p) (gS f p)=true:=by
 simp[gS,noMix,noMixAll]
theorem O7(o:Option Nat):We (oV o) (oV o)=true:=by cases o<;>rfl
section
variable{P:Program}{w:World}{K:Frag}{mg:Str→aH}{base:Heap}{A:qH}
def ZC(C:Addr)(H:Hp)(a:HA)(m:MA)(L r N k:Nat)(Z:Hp→Prop):Prop:=∀a' m' Bk zQ u7 R' N' xW vL vQ uO H',nr C H' a' m' Bk zQ L u7 R' N' xW vL vQ uO→a'.f=a.f→m'.d=m.d→(∀c∈a'.own,c∈a.own∨H c=none)→(∀c∈m'.own,c∈m.own∨H c=none)→(∀c o,¬c∈a.own→¬c∈m.own→H c=some o→H' c=some o)→(∀c xs,H c=some (.tup xs)→H' c=some (.tup xs))→R'.length≤r+k→N'≤N+2*k→Z H'
def O0(C:Addr):Sp:=fun vs H Q _=>∃a m ps ts L pk R N rs ws ms cs,vs=[.ref a.f,.ref m.d]∧nr C H a m ps ts L pk R N rs ws ms cs∧R.length+ts.length≤150∧N≤8000∧ZC C H a m L R.length N ts.length fun H' =>Q (.bl true) H'
theorem zA(T:Txt K mg A):aV P w K mg base eJ 10 A.nL A.nK ["_law_house_here","_law_model"] (O0 A.aj):=by
 have gY:=(nZ (P:=P) (w:=w) (base:=base) T).mono (by decide:_≤9);have cn:=(fO (P:=P) (w:=w) (base:=base) T).mono (by decide:_≤9);have hX:=(pD (P:=P) (w:=w) (base:=base) T).mono (by decide:_≤9);have Ij:=(Es (P:=P) (w:=w) (base:=base) T).mono (by decide:_≤9);have rY:=qY (P:=P) (w:=w) (base:=base) T;have qd:=(ud (P:=P) (w:=w) (base:=base) T).mono (by decide:_≤9);have ir:=(mB (P:=P) (w:=w) (base:=base) T).mono (by decide:_≤9);have oy:=(rF (P:=P) (w:=w) (base:=base) T).mono (by decide:_≤9);have zb:=(xi (P:=P) (w:=w) (base:=base) T).mono (by decide:_≤9);have uP:=(sS (P:=P) (w:=w) (base:=base) T).mono (by decide:_≤9);have cb:=(eB (P:=P) (w:=w) (base:=base) T).mono (by decide:_≤9);have cZ:=(gD (P:=P) (w:=w) (base:=base) T).mono (by decide:_≤9);have du:=(gN (P:=P) (w:=w) (base:=base) T).mono (by decide:_≤9);have gG:=mT (P:=P) (w:=w) (base:=base) T;have nX:=(rC (P:=P) (w:=w) (base:=base) T).mono (by decide:_≤9);refine T.sW.ok eY (fun vs H Q E h=> ?_) (fun cG Ar outer s H vs Q E hr h=> ?_)
 ·obtain⟨a,m,ps,ts,L,pk,R,N,rs,ws,ms,cs,rfl,_⟩:=h;rfl
 ·obtain⟨a,m,ps,ts,L,pk,R,N,rs,ws,ms,cs,rfl,Z,hR,hN,q⟩:=h;have hu:=dY hr;have BY:=hr.gd;have Xp:=hr.Ej;have sP:_+100<cLine:=Nat.lt_of_le_of_lt (Nat.add_le_add_left (by decide:100≤16*9+200) _) (by have:=hr.un;omega);have h6L:(6:Nat)≤sizeLine:=by decide
  have hl:=Z.G.W.len;have Gs:=Z.G.ts;refine⟨_,(ak (a_ (i:=2) eY.nd rfl (Or.inl rfl) (ay gY hr rfl T.lG T.jt.kp T.lK .nil aw (aa (pv 1) ah))) (ak (a_ (i:=3) eY.nd rfl (Or.inl rfl) (bO (aa (pv 2) (aa (bH jV (aN hu (pv 1) aS (fun _ _=>rfl)) (pv 2)) (aa (aN hu (pv 1) aS (fun _ _=>rfl)) (aa (aN hu (pv 1) aS (fun _ _=>rfl)) (aa (ay cn hr rfl T.eV T.dk.kp T.eL .nil aw (aa (pv 1) ah)) (aa (bH jV (aE aU (by rfl) T.eh Boot.«len» (aa (aN hu (pv 1) aS (fun _ _=>rfl)) ah)) ax) ah)))))))) (ak (a_ (i:=4) eY.nd rfl (Or.inl rfl) (bO (aa (cf (pv 0) T.ar T.oP ir hr T.nQ .nil aw) (aa (cf (pv 0) T.ar T.uf oy hr T.uc .nil aw) (aa (cf (pv 0) T.ar T.zB zb hr T.yM .nil aw) (aa (cf (pv 0) T.ar T.uE uP hr T.uZ .nil aw) (aa (cf (pv 0) T.ar T.ff cb hr T.e8 .nil aw) (aa (cf (pv 0) T.ar T.iw cZ hr T.iM .nil aw) ah)))))))) (ak (cg (PW.pt (jak (bc vg (aE (cI BY sP) (by rfl) T.f_ Boot.«repr» (aa (cf (pv 0) T.ar T.jT gG hr T.jR .nil aw) ah)) (aE (cI BY sP) (by rfl) T.f_ Boot.«repr» (aa (ay hX hr rfl T.kD T.hZ.kp T.kY .nil aw (aa (pv 1) ah)) ah)) (bu _)) (jag (bc vg (aE (cI BY sP) (by rfl) T.f_ Boot.«repr» (aa (pv 4) ah)) (aE (cI BY sP) (by rfl) T.f_ Boot.«repr» (aa (pv 3) ah)) (bu _))))) (aq (aG j9)) bj) (ak (cg (bc vg (aE (cI BY sP) (by rfl) T.f_ Boot.«repr» (aa (dn (N:=["_law_k","_law_house_here"]) (k:=1) (js:=[0]) rfl (bQ (by kernel_rfl)) (iZ rfl T.ke (aa (aE aU (by rfl) T.eh Boot.«len» (aa (aN hu (pv 1) aS (fun _ _=>rfl)) ah)) ah)) (fun _ _ _ _ _=>⟨(ba (i:=0) (show(["_law_k","_law_house_here"]:aX).Nodup by decide+kernel) rfl (Or.inl rfl) (Or.inr rfl)),zq,(aR (pv 1) T.ar T.iz du hr T.hV .nil aw (aa (pv 0) ah))⟩)) ah)) (aE (cI BY sP) (by rfl) T.f_ Boot.«repr» (aa (aN hu (pv 1) aS (fun _ _=>rfl)) ah)) (bu _)) (aq (aG j9)) bj) (ak (gR PassesOwn.never rfl (cy (aN hu (pv 1) aS (fun _ _=>rfl))) (ba (i:=5) eY.nd rfl (Or.inl rfl) (Or.inl rfl)) (aq (cg (bc vg (ay Ij hr rfl T.GZ T.Ad.kp T.Hm .nil aw (aa (pv 0) (aa (pv 5) ah))) (bC bp (aN hu (pv 1) aS (fun _ _=>rfl)) (bC ie (pv 5) ax (fun _ _=>rfl)) (fun _ _=>rfl)) (bu _)) (aq (aG j9)) bj))) (ak (cg (fu (eZ (ay rY hr rfl T.rN T.kQ.kp T.sv .nil aw (aa (pv 0) (aa (pv 1) ah))))) (aq (aG j9)) bj) (ak (gR PassesOwn.never rfl (cy (ay cn hr rfl T.eV T.dk.kp T.eL .nil aw (aa (pv 1) ah))) (ba (i:=6) eY.nd rfl (Or.inl rfl) (Or.inl rfl)) (aq (cg (PW.pt (jaa (bc De (ay gY hr rfl T.lG T.jt.kp T.lK .nil aw (aa (pv 1) ah)) (aN hu (pv 1) aS (fun _ _=>rfl)) (bu _)) (Wp (bc (u9 sP) (aR (pv 0) T.ar T.tF nX hr T.uv .nil aw (aa (pv 6) (aa ax ah))) (ay qd hr rfl T.vx T.qA.kp T.vp .nil aw (aa (pv 1) (aa (pv 6) (aa ax ah)))) (bu _))))) (aq (aG j9)) bj))) (aq (aG (lS xj (aE (cI BY sP) (by rfl) T.f_ Boot.«repr» (aa (cf (pv 0) T.ar T.jT gG hr T.jR .nil aw) ah)) (aE (cI BY sP) (by rfl) T.f_ Boot.«repr» (aa (ay hX hr rfl T.kD T.hZ.kp T.kY .nil aw (aa (pv 1) ah)) ah)) (bu _)))))))))))),?_⟩;have Ia:∀r∈R,r.2≤6∧r.1<ts.length:=fun r hr=>⟨(Z.G.rw r hr).2.1,Z.rt r hr⟩;refine⟨_,rfl,m,ps,ts,L,pk,R,ws,ms,cs,rfl,Z.mo,Z.ok.cz,by omega,Ia,fun H1 s1=> ?_⟩;have Z1:=Z.same s1;refine⟨_,rfl,_,rfl,m.d,_,rfl,Z1.mo.getL,_,rfl,_,_,rfl,rfl,_,rfl,m.d,_,rfl,Z1.mo.getL,_,rfl,m.d,_,rfl,Z1.mo.aak,_,rfl,m.d,m.ha,m.tk,ps,ts,rfl,Z1.mo.mod,by omega,fun sl H2 Q2 s2 Xy=> ?_⟩;have Z2:=Z1.same s2;refine⟨_,rfl,m.d,_,rfl,Z2.mo.mod.xk,m.tk,_,rfl,.inl (bB.of Z2.mo.tl),_,1,rfl,rfl,h6L,fun dl UO=> ?_⟩;have dul:au H2 (upd H2 dl (.lst [V.int (bg ts R:Nat),.int ((L:Int) - (bg ts R:Nat)),.int L,.int pk,.ref sl,.int ((ts.map oV).length - 1)])):=au.upd UO;have dll:upd H2 dl (.lst [V.int (bg ts R:Nat),.int ((L:Int) - (bg ts R:Nat)),.int L,.int pk,.ref sl,.int ((ts.map oV).length - 1)]) dl=some (.lst [V.int (bg ts R:Nat),.int ((L:Int) - (bg ts R:Nat)),.int L,.int pk,.ref sl,.int ((ts.map oV).length - 1)]):=ae;generalize upd H2 dl (.lst [V.int (bg ts R:Nat),.int ((L:Int) - (bg ts R:Nat)),.int L,.int pk,.ref sl,.int ((ts.map oV).length - 1)])=H3 at dul dll;have Z3:=Z2.same dul;obtain⟨dx3,Xb⟩:=Z3.h.ob;refine⟨_,rfl,a.f,dx3,_,rfl,Xb,aB (by decide+kernel),a,ps,ts,L,pk,R,N,rs,cs,rfl,Z3.h,fun r hr=>(Ia r hr).1,by omega,Gs,fun H4 s4=> ?_⟩;have Z4:=Z3.same s4;obtain⟨Yn,Ua⟩:=Z4.h.ob;refine⟨_,rfl,a.f,Yn,_,rfl,Ua,aB (by decide+kernel),a,ps,ts,L,pk,R,N,rs,cs,rfl,Z4.h,fun r hr=>(Ia r hr).1,by omega,Gs,fun H5 s5=> ?_⟩;have Z5:=Z4.same s5;obtain⟨U5,G8⟩:=Z5.h.ob;refine⟨_,rfl,a.f,U5,_,rfl,G8,aB (by decide+kernel),a,ps,ts,L,pk,R,N,rs,cs,rfl,Z5.h,_,rfl,a.f,U5,_,rfl,G8,aB (by decide+kernel),a,ps,ts,L,pk,R,N,rs,cs,rfl,Z5.h,_,rfl,a.f,U5,_,rfl,G8,aB (by decide+kernel),a.f,a.pa,a.ta,ps,ts,rfl,Z5.h.fr,by omega,fun Xf H6 ayc s6 hs6=> ?_⟩;have Z6:=Z5.same s6;obtain⟨dx6,ho6⟩:=Z6.h.ob;refine⟨_,rfl,a.f,dx6,_,rfl,ho6,aB (by decide+kernel),a.f,a.pa,a.ta,ps,ts,rfl,Z6.h.fr,h6L,fun fl DP=> ?_⟩;have ful:au H6 (upd H6 fl (.lst [V.int (bg ts R:Nat),.int ((L:Int) - (bg ts R:Nat)),.int L,.int pk,.ref Xf,.int ((ps.length:Int) - 1)])):=au.upd DP;have fll:upd H6 fl (.lst [V.int (bg ts R:Nat),.int ((L:Int) - (bg ts R:Nat)),.int L,.int pk,.ref Xf,.int ((ps.length:Int) - 1)]) fl=some (.lst [V.int (bg ts R:Nat),.int ((L:Int) - (bg ts R:Nat)),.int L,.int pk,.ref Xf,.int ((ps.length:Int) - 1)]):=ae;generalize upd H6 fl (.lst [V.int (bg ts R:Nat),.int ((L:Int) - (bg ts R:Nat)),.int L,.int pk,.ref Xf,.int ((ps.length:Int) - 1)])=H7 at ful fll;have Z7:=Z6.same ful;obtain⟨dx7,ho7⟩:=Z7.h.ob;have s37:=s4.trans (s5.trans (s6.trans ful));have s07:au H H7:=s1.trans (s2.trans (dul.trans s37));obtain⟨dss,hdd,NZ⟩:=Z.dss (by omega);have dat:∀{H' :Hp},au H H'→∀(m:Nat) vs,cs[m]? =some vs→DatAll H' vs (dss m):=fun s' m vs e=>DatAll.same s' (hdd m vs e);obtain⟨g1,g2,g3⟩:=xc (dss:=dss) (R:=R) Z.G.W Z.G.hi (by omega) NZ;refine⟨_,rfl,a.f,dx7,_,rfl,ho7,aB (by decide+kernel),a,ps,ts,L,pk,R,N,rs,cs,rfl,Z7.h,Z.r1,Z.ok.cl,hl,Gs,by omega,fun v1 H8 s8 p1=>⟨v1,_,rfl,p1.dat (dat (s07.trans s8)),g1,g2,g3,?_⟩⟩;refine⟨_,rfl,m,ps,ts,L,pk,R,ws,ms,cs,rfl,(Z7.same s8).mo,hl,Gs,by omega,fun v2 H9 s9 p2=>⟨v2,_,rfl,p2.dat (dat (s07.trans (s8.trans s9))),g1,g2,g3,rfl,_,rfl,?_⟩⟩;rw[z4];have Xo:=s8.trans s9
  have e6:((ts.map oV).length:Int) - 1=(ps.length:Int) - 1:=by
   rw[List.length_map];omega
  rw[e6] at dll
  have fw:(∀n∈aQ ts,n≤1000)∧(aQ ts).length≤200:=by
   have Q2:=ib ts;refine⟨fun n hn=> ?_,by omega⟩;have h1:=eq_of_beq (fT.mp hn);have:=(List.getElem?_eq_some_iff.mp h1).1;omega
  have W3:=Z.G.use;have hhi:=Z.G.hi;have hpk:=Z.G.pk;have big:∀{i:Int},i.natAbs≤1000→Fits 1500 3 (.int i):=fun h=>(tM (Nat.lt_of_le_of_lt h (by decide+kernel))).mono (by decide) (by decide)
  have f6:Fits 20000 4 (.list [.int (bg ts R:Nat),.int ((L:Int) - (bg ts R:Nat)),.int L,.int pk,.list (nD (aQ ts)),.int ((ps.length:Int) - 1)]):=by
   refine(Fits.list (B:=1500) (k:=3) fun e he=> ?_).mono (by show 1500*6+2*6+3≤20000;decide) (Nat.le_refl _);simp only[List.mem_cons,List.not_mem_nil,or_false] at he;rcases he with rfl|rfl|rfl|rfl|rfl|rfl
   ·exact big (by omega)
   ·exact big (by omega)
   ·exact big (by omega)
   ·exact big (by omega)
   ·exact(Fu fw.1 fw.2).mono (by decide) (by decide)
   ·exact big (by omega)
  obtain⟨k1,k2,k3⟩:=f6.rep (by decide) (by decide);have Y0:∀{H' :Hp} {l x:Addr},H' l=some (.lst [V.int (bg ts R:Nat),.int ((L:Int) - (bg ts R:Nat)),.int L,.int pk,.ref x,.int ((ps.length:Int) - 1)])→H' x=some (.lst ((aQ ts).map nV))→Dat H' (.ref l) (.list [.int (bg ts R:Nat),.int ((L:Int) - (bg ts R:Nat)),.int L,.int pk,.list (nD (aQ ts)),.int ((ps.length:Int) - 1)]):=fun e1 e2=> .lst e1 (.cons (.int _) (.cons (.int _) (.cons (.int _) (.cons (.int _) (.cons (EX e2) (.cons (.int _) .nil))))));refine g9 ⟨_,rfl,_,_,rfl,Y0 (Xo _ _ fll) (Xo _ _ (ful _ _ hs6)),k1,k2,k3,_,rfl,_,_,rfl,Y0 (Xo _ _ (s37 _ _ dll)) (Xo _ _ (s37 _ _ (dul _ _ Xy))),k1,k2,k3,rfl,_,rfl,?_⟩;rw[z4];refine g9 ?_;have Z9:=Z7.same Xo;have eQ:(ts.map oV).length=ts.length:=List.length_map ..;refine⟨_,rfl,m.d,_,rfl,Z9.mo.mod.xk,m.tk,_,rfl,.inl (bB.of Z9.mo.tl),?_⟩;rw[eQ];refine⟨_,rfl,by omega,by omega,?_⟩;rw[Int.toNat_natCast];have V9:((List.range ts.length).map fun k:Nat=>V.int (0+(k:Int))).length=ts.length:=by rw[List.length_map,List.length_range]
  refine eX (fun _=>true) (fun i=>oV (ts.getD i none)) (vD 0 ts.length H9).g ?_ ?_ fun pc Fp hpc Eu O9=> ?_
  ·rw[V9];exact Nat.le_of_lt (bY (by omega))
  ·intro i x H' C1 C0 hi sm hx c1 c0;rw[V9] at hi;rw[List.getElem?_map,List.getElem?_range hi] at hx
   obtain rfl:x= .int (i:Int):=by
    have hx:some (V.int (0+(i:Int)))=some x:=hx;rw[Int.zero_add] at hx;cases hx;rfl
   have Z' :=Z9.same sm;obtain⟨CD,BO⟩:=Z'.h.ob;have NQ:ts[i]? =some (ts.getD i none):=by rw[List.getD_eq_getElem?_getD];simp[hi]
   refine⟨(gk.refl _).own (by decide),@ka _ (C0 H') ⟨_,rfl,a.f,CD,_,rfl,BO,aB (by decide+kernel),_,rfl,a.f,a.pa,a.ta,ps,ts,i,_,rfl,Z'.h.fr,hl,NQ,c1 rfl H' (au.refl H')⟩⟩
  rw[V9,L4] at O9;have UU:=Z9.same Eu
  have oD1:Fits 1500 2 (.list (ts.map oD)):=by
   refine(Fits.list (B:=5) (k:=1) fun d hd=> ?_).mono (by rw[List.length_map];omega) (by decide);obtain⟨o,ho,rfl⟩:=List.mem_map.mp hd;refine wg fun n e=> ?_;subst e;obtain⟨i,hi⟩:=List.mem_iff_getElem?.mp ho;have:=Z.G.W.tk i n hi;omega
  obtain⟨o1,o2,o3⟩:=oD1.rep (by decide) (by decide);refine⟨_,_,rfl,.lst O9 (ku _ ts),o1,o2,o3,_,rfl,m.d,_,rfl,UU.mo.mod.xk,_,_,rfl,.lst UU.mo.tl (ku _ ts),o1,o2,o3,rfl,_,rfl,?_⟩;rw[z4];refine g9 ?_;refine⟨_,rfl,m.d,_,rfl,UU.mo.yR,m.wl,rfl,⟨_,bB.of UU.mo.wl⟩,?_⟩;refine gr (K:=K) (a:=m.wl) (xs:=ws.map V.ref) (fun i σ H' =>∃(x2 x3 x4 x5:Option V),σ=[some (.ref a.f),some (.ref m.d),x2,x3,x4,x5,none]∧au Fp H') ⟨_,_,_,_,rfl,au.refl _⟩ ?_ ?_ ?_
  ·rintro i σ H' _ ⟨x2,x3,x4,x5,_,sm⟩
   exact bB.of (sm _ _ UU.mo.wl)
  ·rintro i v σ NT hv ⟨x2,x3,x4,x5,rfl,NX⟩
   obtain⟨t,Yj,rfl⟩:=List.mem_map.mp (List.mem_of_getElem? hv);obtain⟨jj,hjj⟩:=List.mem_iff_getElem?.mp Yj
   have FN:jj<R.length:=by
    have:=(List.getElem?_eq_some_iff.mp hjj).1;rw[Z.mo.iB] at this;exact this
   have Xw:=UU.same NX;have ew:ws.getD jj 0=t:=by rw[List.getD_eq_getElem?_getD,hjj];rfl
   have et:=(Xw.mo.way jj FN).2;rw[ew] at et;have hrt:=Z.rt _ (wv FN);have fw:ts[(R.getD jj (0,0)).1]? =some ts[(R.getD jj (0,0)).1]:=by simp[hrt]
   refine⟨_,rfl,_,rfl,a,ps,ts,L,pk,R,N,rs,cs,jj,t,_,rfl,Xw.h,Z.ok.cl,Z.r1,hl,FN,fw,et,fun IB Ir=> ?_⟩;have Wg:=Xw.same Ir;refine⟨_,rfl,m.d,_,rfl,Wg.mo.mod.xk,_,rfl,t,_,0,_,rfl,rfl,qQ.of (Ir _ _ et),rfl,m.tk,_,_,_,rfl,rfl,bB.of Wg.mo.tl,jY fw,O7 _,_,rfl,?_⟩;rw[decide_eq_true rfl];exact g9 ⟨_,_,_,_,rfl,NX.trans Ir⟩
  ·rintro σ NT ⟨x2,x3,x4,x5,rfl,NX⟩
   have Xw:=UU.same NX;refine⟨_,rfl,_,rfl,a,m,ps,ts,L,pk,R,N,rs,ws,ms,cs,rfl,Xw,by omega,fun IB Ir=>⟨_,rfl,?_⟩⟩;have Wg:=Xw.same Ir;refine⟨_,rfl,m.d,m.ha,m.tk,ps,ts,rfl,Wg.mo.mod,by omega,fun WY H13 abG NK aa7=> ?_⟩;have Z13:=Wg.same NK
   have nsa:¬WY∈a.own:=fun z=>by
    obtain⟨o,e⟩:=Wg.h.al _ z;rw[abG] at e;cases e
   have nsm:¬WY∈m.own:=fun z=>by
    obtain⟨o,e⟩:=Wg.mo.al _ z;rw[abG] at e;cases e
   refine⟨WY,rfl,⟨_,bB.of aa7⟩,?_⟩;refine gr (K:=K) (a:=WY) (xs:=(aQ ts).map nV) (fun i σ H' =>∃(x2 x3 x4 x5 x6:Option V) (a' :HA) (m' :MA) (u7 :Nat) (R' :Rm) (N' :Nat) (xW vL vQ :aZ) (uO :dO),σ=[some (.ref a'.f),some (.ref m'.d),x2,x3,x4,x5,x6]∧Mv A.aj H13 a m H' a' m' ps ts L u7 R' N' xW vL vQ uO R.length N i) ⟨_,_,_,_,_,a,m,pk,R,N,rs,ws,ms,cs,rfl,⟨Z13,rfl,rfl,fun c hc=> .inl hc,fun c hc=> .inl hc,fun _ _ _ _ e=>e,fun _ _ e=>e,fun _ e=>e,Nat.le_refl _,Nat.le_refl _⟩⟩ ?_ ?_ ?_
   ·rintro i σ H' _ ⟨x2,x3,x4,x5,x6,a',m',u7,R',N',xW,vL,vQ,uO,_,M⟩
    exact bB.of (M.kp _ _ nsa nsm aa7)
   ·rintro i v σ H14 hv ⟨x2,x3,x4,x5,x6,a',m',u7,R',N',xW,vL,vQ,uO,rfl,M⟩
    obtain⟨t,Yj,rfl⟩:=List.mem_map.mp (List.mem_of_getElem? hv)
    have xO:i<(aQ ts).length:=by
     have:=(List.getElem?_eq_some_iff.mp hv).1;rw[List.length_map] at this;exact this
    have afO:=ib ts;have uy:ts[t]? =some none:=eq_of_beq (fT.mp Yj);have NS:=(List.getElem?_eq_some_iff.mp uy).1;have hMR:=M.hR;have hMN:=M.hN;have al5 :∀r∈R',r.2≤6∧r.1<ts.length:=fun r hr=>⟨(M.Z.G.rw r hr).2.1,M.Z.rt r hr⟩;refine⟨_,rfl,m',ps,ts,L,u7,R',vL,vQ,uO,rfl,M.Z.mo,M.Z.ok.cz,by omega,al5,fun H15 Xm=> ?_⟩;have NO:=M.same Xm;refine⟨_,rfl,m'.d,_,rfl,NO.Z.mo.getL,_,_,rfl,rfl,_,rfl,?_⟩;refine zm (fun eQ=> ?_) (fun _=> ?_)
    rotate_left
    ·first
      |exact⟨_,_,_,_,_,a',m',u7,R',N',xW,vL,vQ,uO,rfl,NO.mono (Nat.le_succ _)⟩
      |exact g9 ⟨_,_,_,_,_,a',m',u7,R',N',xW,vL,vQ,uO,rfl,NO.mono (Nat.le_succ _)⟩
    ·have eQ:=of_decide_eq_true eQ;have hle:bg ts R' +1≤L:=by omega
     obtain⟨aod,alL⟩:=NO.Z.h.ob;refine⟨_,rfl,a'.f,aod,_,rfl,alL,aB (by decide+kernel),_,rfl,a',ps,ts,L,u7,R',N',xW,uO,t,1,rfl,NO.Z.h,NO.Z.ok.cl,NO.Z.G,uy,Nat.le_refl _,(by decide),by omega,by omega,hle,fun oa r WZ l F16 sa ga ux NL Ct Xn=> ?_⟩;have PZ:aO WZ m' ps ts L u7 R' vL vQ uO :=NO.Z.mo.kept fun c o hc e=>ux c o (fun z=>NO.Z.ap c z hc) e;refine⟨_,rfl,_,rfl,m',ps,ts,L,u7,R',vL,vQ,uO,t,1,rfl,PZ,M.Z.ok,by omega,fun r hr=>⟨(M.Z.G.rw r hr).1,(M.Z.G.rw r hr).2.1,M.Z.rt r hr⟩,NS,Nat.le_refl _,(by decide),fun om wt rr l' H17 M17 sm gm uw WU hl4=> ?_⟩;have M18:=NO.made uy hle F16 sa ga ux NL M17 sm gm uw WU;refine⟨gS t (cS R' t),gS t (cS R' t),.tup (WU _ _ Xn) (.cons (.int _) (.cons (.int _) .nil)),.tup hl4 (.cons (.int _) (.cons (.int _) .nil)),wY _ _,wY _ _,Pz _ _,_,rfl,?_⟩;rw[PySem.Spec.same_self];exact g9 ⟨_,_,_,_,_,{a' with own:=oa},{m' with own:=om},_,_,_,_,_,_,_,rfl,M18⟩
   ·rintro σ H14 ⟨x2,x3,x4,x5,x6,a',m',u7,R',N',xW,vL,vQ,uO,rfl,M⟩
    have hMR:=M.hR;rw[List.length_map] at hMR;have afO:=ib ts;obtain⟨ao_,agW⟩:=M.Z.h.ob;obtain⟨agC,ZW,aeM⟩:=M.Z.dss (by omega);obtain⟨w1,w2,w3⟩:=xc (dss:=agC) (R:=R') Z.G.W Z.G.hi (by omega) aeM;refine⟨_,rfl,a'.f,ao_,_,rfl,agW,aB (by decide+kernel),a',ps,ts,L,u7,R',N',xW,uO,rfl,M.Z.h,M.Z.r1,M.Z.ok.cl,hl,Gs,by omega,fun v1 H15 Xm p1=>⟨v1,_,rfl,p1.dat (fun m vs e=>DatAll.same Xm (ZW m vs e)),w1,w2,w3,?_⟩⟩;refine⟨_,rfl,m',ps,ts,L,u7,R',vL,vQ,uO,rfl,(M.Z.same Xm).mo,hl,Gs,by omega,fun v2 WZ s16 p2=>⟨v2,_,rfl,p2.dat (fun m vs e=>DatAll.same (Xm.trans s16) (ZW m vs e)),w1,w2,w3,rfl,?_⟩⟩;rw[decide_eq_true rfl];have PZ:=M.same (Xm.trans s16);have P0:au H H13:=s07.trans (Xo.trans (Eu.trans (NX.trans (Ir.trans NK))));refine q a' m' ps ts u7 R' N' xW vL vQ uO WZ PZ.Z PZ.f PZ.d (fun c hc=>(PZ.oa c hc).imp id P0.free) (fun c hc=>(PZ.om c hc).imp id P0.free) (fun c o h1 h2 e=>PZ.kp c o h1 h2 (P0 _ _ e)) (fun c xs e=>PZ.kt c xs (P0 _ _ e)) (by omega) ?_;have:=M.hN;rw[List.length_map] at this;omega
end
theorem jae{α:Type}[DecidableEq α]:∀{ks l:List α},ks.Nodup→(∀x∈ks,x∈l)→ks.length≤l.length
 |[],_,_,_=>Nat.zero_le _
 |k::ks,l,hn,h=>by
  obtain⟨h1,h2⟩:=List.nodup_cons.mp hn;have hk:k∈l:=h k List.mem_cons_self;have:=jae (ks:=ks) (l:=l.erase k) h2 fun x hx=>(List.mem_erase_of_ne (show x≠k from fun z=>h1 (z▸hx))).mpr (h x (List.mem_cons_of_mem _ hx));rw[List.length_erase_of_mem hk] at this;have:=List.length_pos_of_mem hk;rw[List.length_cons];omega
theorem Px{α:Type}[DecidableEq α]{ks l:List α}(hn:ks.Nodup)(h:∀x∈ks,x∈l)(hl:l.length≤ks.length){y:α}(hy:y∈l):y∈ks:=by
 by_cases z:y∈ks
 ·exact z
 ·have:=jae (ks:=y::ks) (l:=l) (List.nodup_cons.mpr ⟨z,hn⟩) fun x hx=>by
   rcases List.mem_cons.mp hx with rfl|hx
   ·exact hy
   ·exact h x hx
  rw[List.length_cons] at this;omega
theorem uj{kv:dM}{k:List wp}{v:V}(h:bA kv k=some v):(k,v)∈kv:=by
 unfold bA at h
 cases e:kv.find? fun kv=>decide (kv.1=k) with
 |none=>rw[e] at h;cases h
 |some p=>
  rw[e] at h;cases h;have h1:=List.mem_of_find?_eq_some e;have h2:=List.find?_some e;have h2:p.1=k:=by simpa using h2
  rw[←h2];exact h1
theorem BM:∀{kv:dM},(kv.map (·.1)).Nodup→∀{k:List wp} {v:V},(k,v)∈kv→bA kv k=some v
 |[],_,_,_,h=>nomatch h
 |p::r,hn,k,v,h=>by
  obtain⟨h1,h2⟩:=List.nodup_cons.mp (show(p.1::r.map (·.1)).Nodup from hn);rcases List.mem_cons.mp h with rfl|h
  ·exact b_ rfl
  ·rw[br (fun z=>h1 (List.mem_map.mpr ⟨_,h,z.symm⟩))];exact BM h2 h
theorem wQ:∀(more acc:dM),((acc++more).map (·.1)).Nodup→qw acc more=acc++more
 |[],acc,_=>by rw[List.append_nil];rfl
 |p::r,acc,hn=>by
  have hv:bA acc p.1=none:=by
   cases e:bA acc p.1 with
   |none=>rfl
   |some v=>
    have h1:=uj e;rw[List.map_append,List.nodup_append] at hn;exact absurd rfl (hn.2.2 p.1 (List.mem_map.mpr ⟨_,h1,rfl⟩) p.1 (by simp))
  show qw (v4 acc p.1 p.2) r=_;rw[tK _ hv,wQ r]
  ·simp
  ·simpa using hn
theorem xu{t p t' p' :Nat}(h:jX t p=jX t' p'):t=t'∧p=p' :=by
 have h1:=List.cons.inj h;have h2:(t:Int)=t' :=Sum.inl.inj h1.1;have h3:(p:Int)=p' :=Sum.inl.inj (List.cons.inj h1.2).1;omega
def ksR(R:Rm):List (List wp):=(List.range R.length).map fun i=>jX (R.getD i (0,0)).1 (aT R i)
theorem Iq{R:Rm}(hr:∀r∈R,1≤r.2):(ksR R).Nodup:=by
 refine List.pairwise_map.mpr (List.Pairwise.imp_of_mem (fun{i j} hi hj jw z=>jw ?_) List.nodup_range);obtain⟨h1,h2⟩:=xu z;refine m_ hr (d4 (List.mem_range.mp hi)) ?_ h2;rw[h1];exact d4 (List.mem_range.mp hj)
theorem JV{R:Rm}{ms:aZ}{kv:dM}(hr:∀r∈R,1≤r.2)(hl:kv.length≤R.length)(hv:∀i,i<R.length→bA kv (jX (R.getD i (0,0)).1 (aT R i))=some (.ref (ms.getD i 0)))(hn:(kv.map (·.1)).Nodup){k:List wp}{v:V}(h:(k,v)∈kv):
 ∃i,i<R.length∧k=jX (R.getD i (0,0)).1 (aT R i)∧v= .ref (ms.getD i 0):=by
 have hk:k∈ksR R:=by
  refine Px (Iq hr) (l:=kv.map (·.1)) (fun x hx=> ?_) ?_ (List.mem_map.mpr ⟨_,h,rfl⟩)
  ·obtain⟨i,hi,rfl⟩:=List.mem_map.mp hx;exact List.mem_map.mpr ⟨_,uj (hv i (List.mem_range.mp hi)),rfl⟩
  ·unfold ksR;rw[List.length_map,List.length_map,List.length_range];exact hl
 obtain⟨i,hi,rfl⟩:=List.mem_map.mp hk;have hi:=List.mem_range.mp hi;refine⟨i,hi,rfl,?_⟩;have:=BM hn h;rw[hv i hi] at this;cases this;rfl
theorem aat(x ha tk:Addr)(z:MX):v4 (qV ha tk z) kH (.ref x)=qV x tk z:=by kernel_rfl
theorem acD(x ha tk:Addr)(z:MX):v4 (qV ha tk z) kT (.ref x)=qV ha x z:=by kernel_rfl
theorem Y1(x:V)(ha tk:Addr)(z:MX):v4 (qV ha tk z) kW x=qV ha tk {z with wl:=x}:=by kernel_rfl
theorem abU(x:V)(ha tk:Addr)(z:MX):v4 (qV ha tk z) kC x=qV ha tk {z with ca:=x}:=by kernel_rfl
section
variable{P:Program}{w:World}{K:Frag}{mg:Str→aH}{base:Heap}{A:qH}
def VM:Sp:=fun vs H Q _=>∃m ps ts L top R ws ms cs,vs=[.ref m.d]∧aO H m ps ts L top R ws ms cs∧(∀r∈R,1≤r.2)∧R.length≤1000∧
 ∀m2 Xc H',aO H' m2 ps ts L top R ws Xc cs→(∀c∈m2.own,H c=none∨(c∈m.own∧∃xs,H c=some (.tup xs)))→au H H'→Q (.ref m2.d) H'
theorem BA(T:Txt K mg A):aV P w K mg base eJ 1 A.qo A.pO ["_law_model"] VM:=by
 refine T.vq.ok oR (fun vs H Q E h=> ?_) (fun cG Ar outer s H vs Q E hr h=> ?_)
 ·obtain⟨m,ps,ts,L,top,R,ws,ms,cs,rfl,_⟩:=h;rfl
 ·obtain⟨m,ps,ts,L,top,R,ws,ms,cs,rfl,M,lB,hR,q⟩:=h;have hu:=dY hr;have sP:_+100<cLine:=Nat.lt_of_le_of_lt (Nat.add_le_add_left (by decide:100≤16*0+200) _) (by have:=hr.un;omega);have h3L:(3:Nat)≤sizeLine:=by decide
  have Dq:(2:Nat)≤sizeLine:=by decide
  refine⟨_,(ak (a_ (i:=1) oR.nd rfl (Or.inl rfl) (ck qx (by rfl) T.uS Boot.«dict» (aa (pv 0) ah))) (ak (gR PassesOwn.never rfl (cy (bO (aa aS (aa aS (aa aS ah))))) (ba (i:=2) oR.nd rfl (Or.inl rfl) (Or.inl rfl)) (aq (pe hu (pv 1) (pv 2) (ck iA (by rfl) T.oM Boot.«list» (aa (aN hu (pv 0) (pv 2) (fun _ _=>rfl)) ah)) rfl))) (ak (pe hu (pv 1) aS (ck (vc rfl sP) (by rfl) T.uS Boot.«dict» (aa (Na (dn (N:=["_law_way","_law_cells"]) (k:=2) (js:=[]) rfl (bQ (by kernel_rfl)) (G2 (EH plainAttrs_dict slot_dict_items type_dict_items Hf (aN hu (pv 0) aS (fun _ _=>rfl)))) (fun _ _ _ _ _=>⟨(AM (K:=K) (n:=2) rfl rfl (jy (ba (i:=0) (show(["_law_way","_law_cells"]:aX).Nodup by decide+kernel) rfl (Or.inl rfl) (Or.inr rfl)) (jy (ba (i:=1) (show(["_law_way","_law_cells"]:aX).Nodup by decide+kernel) rfl (Or.inl rfl) (Or.inr rfl)) we)) rfl rfl),zq,(nC (aa (pv 0) (aa (ck (rq (K:=K) rfl) (by rfl) T.oM Boot.«list» (aa (pv 1) ah)) ah)))⟩))) ah)) rfl) (aq (aG (pv 1)))))),?_⟩;refine⟨_,rfl,m.d,_,rfl,M.ob,fun d hd=> ?_⟩;have s1:=au.upd (o:= .dK (qV m.ha m.tk ⟨.int L,.int top,.ref m.wl,.ref m.ca⟩)) hd;have d1:upd H d (.dK (qV m.ha m.tk ⟨.int L,.int top,.ref m.wl,.ref m.ca⟩)) d=some (.dK (qV m.ha m.tk ⟨.int L,.int top,.ref m.wl,.ref m.ca⟩)):=ae;generalize upd H d (.dK (qV m.ha m.tk ⟨.int L,.int top,.ref m.wl,.ref m.ca⟩))=H1 at s1 d1;refine⟨h3L,fun l3 Xn=>⟨l3,rfl,⟨_,bB.of ae⟩,?_⟩⟩;have s2:=au.upd (o:= .lst [V.str "holders",V.str "takers",V.str "ways"]) Xn;have e2:upd H1 l3 (.lst [V.str "holders",V.str "takers",V.str "ways"]) l3=some (.lst [V.str "holders",V.str "takers",V.str "ways"]):=ae;have d2:=s2 _ _ d1;have s02:=s1.trans s2;generalize upd H1 l3 (.lst [V.str "holders",V.str "takers",V.str "ways"])=H2 at s02 e2 d2;have UG:l3≠d:=fun z=>by rw[z,d1] at Xn;cases Xn
  refine gr (K:=K) (a:=l3) (xs:=[V.str "holders",V.str "takers",V.str "ways"]) (fun i σ H' =>∃(x2:Option V) (ha tk wl:Addr),σ=[some (.ref m.d),some (.ref d),x2]∧au H H'∧H' l3=some (.lst [V.str "holders",V.str "takers",V.str "ways"])∧H' d=some (.dK (qV ha tk ⟨.int L,.int top,.ref wl,.ref m.ca⟩))∧(1≤i→H ha=none∧H' ha=some (.lst (ps.map oV)))∧(2≤i→H tk=none∧H' tk=some (.lst (ts.map oV))∧ha≠tk)∧(3≤i→H wl=none∧H' wl=some (.lst (ws.map V.ref))∧wl≠ha∧wl≠tk)) ⟨_,m.ha,m.tk,m.wl,rfl,s02,e2,d2,(fun z=>absurd z (by omega)),(fun z=>absurd z (by omega)),(fun z=>absurd z (by omega))⟩ ?_ ?_ ?_
  ·rintro i σ H' _ ⟨x2,ha,tk,wl,_,_,e',_⟩
   exact bB.of e'
  ·rintro i v σ H3 hv ⟨x2,ha,tk,wl,rfl,s3,e3,d3,p1,p2,p3⟩
   have M3:=M.same s3;have hi:i<3:=(List.getElem?_eq_some_iff.mp hv).1;have kl:(qV ha tk ⟨.int L,.int top,.ref wl,.ref m.ca⟩).length<sizeLine:=(by show 6<sizeLine;decide);rcases(show i=0∨i=1∨i=2 by omega) with rfl|rfl|rfl
   ·cases hv;refine⟨_,rfl,_,rfl,m.d,_,rfl,M3.mod.BB,m.ha,_,rfl,.inl (bB.of M3.hl),fun l hl=> ?_⟩;have s4:=au.upd (o:= .lst (ps.map oV)) hl;have ld:l≠d:=fun z=>by rw[z,d3] at hl;cases hl
    refine⟨_,rfl,_,rfl,d,_,rfl,sM.k (k:=kH) (s4 _ _ d3) kl,?_⟩;rw[aat];refine⟨_,l,tk,wl,rfl,fun c o e=> ?_,?_,ae,(fun _=>⟨s3.free hl,?_⟩),(fun z=>absurd z (by omega)),(fun z=>absurd z (by omega))⟩
    ·rw[af (ag e hd)];exact s4 _ _ (s3 _ _ e)
    ·rw[af UG];exact s4 _ _ e3
    ·rw[af ld];exact ae
   ·cases hv;refine⟨_,rfl,_,rfl,m.d,_,rfl,M3.mod.xk,m.tk,_,rfl,.inl (bB.of M3.tl),fun l hl=> ?_⟩;have s4:=au.upd (o:= .lst (ts.map oV)) hl;have ld:l≠d:=fun z=>by rw[z,d3] at hl;cases hl
    obtain⟨X0,JX⟩:=p1 (Nat.le_refl _);refine⟨_,rfl,_,rfl,d,_,rfl,sM.k (k:=kT) (s4 _ _ d3) kl,?_⟩;rw[acD];refine⟨_,ha,l,wl,rfl,fun c o e=> ?_,?_,ae,(fun _=>⟨X0,?_⟩),(fun _=>⟨s3.free hl,?_,ag JX hl⟩),(fun z=>absurd z (by omega))⟩
    ·rw[af (ag e hd)];exact s4 _ _ (s3 _ _ e)
    ·rw[af UG];exact s4 _ _ e3
    ·rw[af (aJ JX d3 (by intro z;cases z))];exact s4 _ _ JX
    ·rw[af ld];exact ae
   ·cases hv;refine⟨_,rfl,_,rfl,m.d,_,rfl,M3.yR,m.wl,_,rfl,.inl (bB.of M3.wl),fun l hl=> ?_⟩;have s4:=au.upd (o:= .lst (ws.map V.ref)) hl;have ld:l≠d:=fun z=>by rw[z,d3] at hl;cases hl
    obtain⟨X0,JX⟩:=p1 (by omega);obtain⟨p21,Us,p23⟩:=p2 (Nat.le_refl _);refine⟨_,rfl,_,rfl,d,_,rfl,sM.k (k:=kW) (s4 _ _ d3) kl,?_⟩;rw[Y1];refine⟨_,ha,tk,l,rfl,fun c o e=> ?_,?_,ae,(fun _=>⟨X0,?_⟩),(fun _=>⟨p21,?_,p23⟩),(fun _=>⟨s3.free hl,?_,(ag JX hl).symm,(ag Us hl).symm⟩)⟩
    ·rw[af (ag e hd)];exact s4 _ _ (s3 _ _ e)
    ·rw[af UG];exact s4 _ _ e3
    ·rw[af (aJ JX d3 (by intro z;cases z))];exact s4 _ _ JX
    ·rw[af (aJ Us d3 (by intro z;cases z))];exact s4 _ _ Us
    ·rw[af ld];exact ae
  ·rintro σ H3 ⟨x2,ha,tk,wl,rfl,s3,e3,d3,p1,p2,p3⟩
   obtain⟨X0,JX⟩:=p1 (show 1≤3 by decide);obtain⟨p21,Us,p23⟩:=p2 (show 2≤3 by decide);obtain⟨p31,p32,p33,p34⟩:=p3 (show 3≤3 by decide);have M3:=M.same s3;obtain⟨kv,c1,c2,c3⟩:=M3.ca;refine⟨_,rfl,m.d,_,rfl,M3.D_,.inr (.inr (.inl ⟨rfl,.inr ⟨_,c1⟩⟩)),m.ca,kv,rfl,rfl,c1,fun v hv=> ?_⟩;have s4:=au.upd (o:=lQ v m.ca) hv;refine⟨v,m.ca,kv,rfl,ae,s4 _ _ c1,fun o bs nf TC hbl hbs=> ?_⟩;generalize upd H3 v (lQ v m.ca)=H4 at s4 hbs;have M4:=M3.same s4;have c14:=s4 _ _ c1;have DY:upd H4 m.ca (.gz o (.dT kv)) m.ca=some (.gz o (.dT kv)):=ae
   have back:∀{c:Addr} {oo:HO},H4 c=some oo→c≠m.ca→upd H4 m.ca (.gz o (.dT kv)) c=some oo:=fun{c oo} e h1=>by
    rw[af h1];exact e
   refine yh (fun j v M H' =>∃i t l b vs,i<R.length∧kv[j]? =some (jX (R.getD i (0,0)).1 (aT R i),.ref (ms.getD i 0))∧bs[j]? =some b∧v= .ref t∧M t∧M l∧(∀c,M c→c=t∨c=l)∧H' t=some (.tup [.ref b,.ref l])∧H' l=some (.lst vs)∧cs[i]? =some vs) (AF DY) (Nat.le_of_lt (bY (by omega))) ?_ ?_ ?_ ?_
   ·rintro j v N Ha Hb kt ⟨i,t,l,b,vs,h1,h2,h3,h4,h5,h6,h7,h8,h9,Iw⟩
    exact⟨i,t,l,b,vs,h1,h2,h3,h4,h5,h6,h7,kt _ _ h5 h8,kt _ _ h6 h9,Iw⟩
   ·rintro j v N Ha ⟨i,t,l,b,vs,h1,h2,h3,h4,h5,h6,h7,h8,h9,Iw⟩ c hc
    rcases h7 c hc with rfl|rfl
    ·exact⟨_,h8⟩
    ·exact⟨_,h9⟩
   ·intro j x H' C1 hj sm hY c1';obtain⟨T2,k2,b,w2,rfl,hb,Zj,Iz⟩:=hY;obtain⟨i,hi,rfl,rfl⟩:=JV lB c2 c3 TC (List.mem_of_getElem? Iz);obtain⟨m1,m2,m3,m4,vs,hcs,hv4⟩:=M4.mm i (ms.getD i 0) (dz 0 (by rw[M.ml];exact hi));have NM :=sm _ _ (back hv4 (aJ hv4 c14 (by intro z;cases z)));refine⟨T2,_,rfl,qQ.of Zj,rfl,_,_,rfl,_,_,rfl,rfl,((gk.refl _).own (by decide)).own (by decide),?_⟩;refine⟨_,rfl,_,rfl,ms.getD i 0,_,rfl,.inl (bB.of NM),fun l hl=>⟨Dq,fun t ht=> ?_⟩⟩;have sl:=au.upd (o:= .lst vs) hl
    exact c1' _ _ (fun c=>c=t∨c=l) (sl.trans (au.upd ht)) (fun c hc=>by
     rcases hc with rfl|rfl
     ·exact sl.free ht
     ·exact hl) ⟨i,t,l,b,vs,hi,Iz,hb,rfl,.inl rfl,.inr rfl,fun c hc=>hc,ae,(au.upd ht) _ _ ae,hcs⟩
   ·intro pl H8 ys N rK sm Vw rX hE hM;have pb:pl≠m.ca:=fun z=>by rw[z,DY] at rK;cases rK
    refine⟨m.ca,o,_,sm _ _ DY,nf,?_⟩
    have ZQ:∀{c:Addr},upd H4 m.ca (.gz o (.dT kv)) c=none→c≠m.ca:=fun e z=>by
     rw[z,DY] at e;cases e
    have ex:∀k:List wp,∃l,∀v,(k,v)∈kv→∃i j t b vs,i<R.length∧k=jX (R.getD i (0,0)).1 (aT R i)∧kv[j]? =some (k,.ref (ms.getD i 0))∧bs[j]? =some b∧ys[j]? =some (.ref t)∧N j l∧H8 t=some (.tup [.ref b,.ref l])∧H8 l=some (.lst vs)∧cs[i]? =some vs∧upd H4 m.ca (.gz o (.dT kv)) l=none:=fun k=>by
     by_cases hk:∃v,(k,v)∈kv
     ·obtain⟨v,hk⟩:=hk;obtain⟨j,hj⟩:=List.mem_iff_getElem?.mp hk;have FN:=(List.getElem?_eq_some_iff.mp hj).1;have hyj:ys[j]? =some ys[j]:=by simp[show j<ys.length by omega]
      obtain⟨⟨i,t,l,b,vs,h1,h2,h3,h4,h5,h6,h7,h8,h9,Iw⟩,hf⟩:=hE j _ hyj;rw[hj] at h2;cases h2;exact⟨l,fun _ _=>⟨i,j,t,b,vs,h1,rfl,hj,h3,by rw[hyj,h4],h6,h8,h9,Iw,(hf l h6).2⟩⟩
     ·exact⟨0,fun v z=>absurd ⟨v,z⟩ hk⟩
    obtain⟨f,hf⟩:=Classical.axiomOfChoice ex
    have rA:∀{c:Addr} {oo:HO},H4 c=some oo→upd H8 m.ca (.dT kv) c=some oo:=fun{c oo} e=>by
     by_cases z:c=m.ca
     ·subst z;rw[ae,←c14];exact e
     ·rw[af z];exact sm _ _ (back e z)
    have knd:∀{i j:Nat} {k:List wp} {u v:V},kv[i]? =some (k,u)→kv[j]? =some (k,v)→i=j:=fun{i j k u v} e1 e2=>by
     have f1:(kv.map (·.1))[i]? =some k:=by rw[List.getElem?_map,e1];rfl
     have f2:(kv.map (·.1))[j]? =some k:=by rw[List.getElem?_map,e2];rfl
     exact(List.getElem?_inj (List.getElem?_eq_some_iff.mp f1).1 TC).mp (f1.trans f2.symm)
    have V7:Di (upd H8 m.ca (.dT kv)) ys (kv.map fun p=>(p.1,.ref (f p.1))):=by
     refine⟨by rw[List.length_map];exact rX,fun i' k v e=> ?_⟩;rw[List.getElem?_map] at e
     cases ym :kv[i']? with
     |none=>rw[ym] at e;cases e
     |some p=>
      rw[ym] at e;cases e;obtain⟨i,j,t,b,vs,h1,h2,h3,h4,h5,h6,h7,h8,h9,Iw⟩:=hf p.1 p.2 (List.mem_of_getElem? ym);have:=knd ym h3;subst this;refine⟨t,b,h5,?_,rA (hbs _ _ _ _ ym h4)⟩;rw[af (aJ h7 (sm _ _ DY) (by intro z;cases z))];exact h7
    have hk2:(kv.map fun p=>((p.1,.ref (f p.1)):List wp×V)).map (·.1)=kv.map (·.1):=by
     rw[List.map_map];rfl
    refine⟨pl,ys,_,rfl,(by rw[af pb];exact Vw),V7,fun Eb JT=> ?_⟩;rw[wQ _ [] (by rw[List.nil_append,hk2];exact TC),List.nil_append];have s9:=au.upd (o:= .dT (kv.map fun p=>(p.1,.ref (f p.1)))) JT;have e9:upd (upd H8 m.ca (.dT kv)) Eb (.dT (kv.map fun p=>(p.1,.ref (f p.1)))) Eb=some (.dT (kv.map fun p=>(p.1,.ref (f p.1)))):=ae;have k9:∀{c:Addr} {oo:HO},H4 c=some oo→upd (upd H8 m.ca (.dT kv)) Eb (.dT (kv.map fun p=>(p.1,.ref (f p.1)))) c=some oo:=fun e=>s9 _ _ (rA e);have l9:∀{c:Addr} {oo:HO},H8 c=some oo→upd H4 m.ca (.gz o (.dT kv)) c=none→upd (upd H8 m.ca (.dT kv)) Eb (.dT (kv.map fun p=>(p.1,.ref (f p.1)))) c=some oo:=fun e h=>s9 _ _ (by rw[af (ZQ h)];exact e)
    have fca:H Eb=none:=by
     cases z:H Eb with
     |none=>rfl
     |some oo=>
      rw[rA (s4 _ _ (s3 _ _ z))] at JT;cases JT
    generalize upd (upd H8 m.ca (.dT kv)) Eb (.dT (kv.map fun p=>(p.1,.ref (f p.1))))=H9 at s9 e9 k9 l9;have d9:=k9 (s4 _ _ d3);refine⟨_,rfl,d,_,rfl,sM.k (k:=kC) d9 (by show 6<sizeLine;decide),?_⟩;rw[abU];refine⟨_,rfl,?_⟩
    have Eu:∀{c:Addr} {oo:HO},c≠d→H9 c=some oo→upd H9 d (.dK (qV ha tk ⟨.int L,.int top,.ref wl,.ref Eb⟩)) c=some oo:=fun{c oo} h e=>by
     rw[af h];exact e
    have sH:au H (upd H9 d (.dK (qV ha tk ⟨.int L,.int top,.ref wl,.ref Eb⟩))):=fun c oo e=>Eu (ag e hd) (k9 (s4 _ _ (s3 _ _ e)));have d10:upd H9 d (.dK (qV ha tk ⟨.int L,.int top,.ref wl,.ref Eb⟩)) d=some (.dK (qV ha tk ⟨.int L,.int top,.ref wl,.ref Eb⟩)):=ae;have hd4:=s4 _ _ d3;have Ao:Eb≠d:=fun z=>by rw[z,rA hd4] at JT;cases JT
    generalize upd H9 d (.dK (qV ha tk ⟨.int L,.int top,.ref wl,.ref Eb⟩))=Fp at Eu sH d10;have Aq:∀{c:Addr} {xs:az},H3 c=some (.lst xs)→Fp c=some (.lst xs):=fun e=>Eu (aJ e d3 (by intro z;cases z)) (k9 (s4 _ _ e))
    have room:∀i,i<R.length→∃j t b vs,kv[j]? =some (jX (R.getD i (0,0)).1 (aT R i),.ref (ms.getD i 0))∧ys[j]? =some (.ref t)∧N j (f (jX (R.getD i (0,0)).1 (aT R i)))∧H8 t=some (.tup [.ref b,.ref (f (jX (R.getD i (0,0)).1 (aT R i)))])∧H8 (f (jX (R.getD i (0,0)).1 (aT R i)))=some (.lst vs)∧cs[i]? =some vs∧upd H4 m.ca (.gz o (.dT kv)) (f (jX (R.getD i (0,0)).1 (aT R i)))=none:=fun i hi=>by
     obtain⟨i',j,t,b,vs,h1,h2,h3,h4,h5,h6,h7,h8,h9,Iw⟩:=hf _ _ (uj (c3 i hi));obtain⟨q1,q2⟩:=xu h2;have:i=i' :=m_ lB (d4 hi) (by rw[q1];exact d4 h1) q2;subst this;exact⟨j,t,b,vs,h3,h5,h6,h7,h8,h9,Iw⟩
    have Gq:∀{c:Addr},upd H4 m.ca (.gz o (.dT kv)) c=none→H4 c=none:=fun{c} e=>by
     rw[af (ZQ e)] at e;exact e
    have acC:∀i,i<R.length→((List.range R.length).map fun i=>f (jX (R.getD i (0,0)).1 (aT R i))).getD i 0=f (jX (R.getD i (0,0)).1 (aT R i)):=fun i hi=>by
     rw[List.getD_eq_getElem?_getD,List.getElem?_map,List.getElem?_range hi];rfl
    have E_:∀i,i<R.length→∃vs,cs[i]? =some vs∧Fp (f (jX (R.getD i (0,0)).1 (aT R i)))=some (.lst vs)∧H4 (f (jX (R.getD i (0,0)).1 (aT R i)))=none:=fun i hi=>by
     obtain⟨j,t,b,vs,h3,h5,h6,h7,h8,h9,Iw⟩:=room i hi;exact⟨vs,h9,Eu (ag hd4 (Gq Iw)).symm (l9 h8 Iw),Gq Iw⟩
    have Zc:∀i,i<R.length→ws.getD i 0∈ws:=fun i hi=>List.mem_of_getElem? (dz 0 (by rw[M.iB];exact hi));refine q ⟨d,ha,tk,wl,Eb,d::ha::tk::wl::Eb::((List.range R.length).map (fun i=>f (jX (R.getD i (0,0)).1 (aT R i)))++ws)⟩ ((List.range R.length).map fun i=>f (jX (R.getD i (0,0)).1 (aT R i))) Fp ⟨d10,Aq JX,Aq Us,p23,Aq p32,M.iB,fun i hi=>⟨?_,sH _ _ (M.way i hi).2⟩,⟨_,Eu ?_ e9,?_,fun i hi=> ?_⟩,⟨p33,p34⟩,?_,fun i b e=> ?_,?_,?_,fun c hc=> ?_⟩ (fun c hc=> ?_) sH
    ·simp only[List.mem_cons,List.mem_append];exact .inr (.inr (.inr (.inr (.inr (.inr (Zc i hi))))))
    ·exact Ao
    ·rw[List.length_map];exact c2
    ·rw[acC i hi];refine BM (by rw[hk2];exact TC) (List.mem_map.mpr ⟨_,uj (c3 i hi),rfl⟩)
    ·rw[List.length_map,List.length_range]
    ·rw[List.getElem?_map] at e
     have hi:i<R.length:=by
      by_cases z:i<R.length
      ·exact z
      ·rw[List.getElem?_eq_none (by rw[List.length_range];omega)] at e;cases e
     rw[List.getElem?_range hi] at e;cases e;obtain⟨vs,h1,h2,h3⟩:=E_ i hi;refine⟨?_,(ag (s4 _ _ JX) h3).symm,(ag (s4 _ _ Us) h3).symm,(ag (s4 _ _ p32) h3).symm,vs,h1,h2⟩;simp only[List.mem_cons,List.mem_append];exact .inr (.inr (.inr (.inr (.inr (.inl (List.mem_map.mpr ⟨i,List.mem_range.mpr hi,rfl⟩))))))
    ·refine List.pairwise_map.mpr (List.Pairwise.imp_of_mem (fun{i i'} hi ym jw z=> ?_) List.nodup_range);obtain⟨j,t,b,vs,h3,h5,h6,h7,h8,h9,Iw⟩:=room i (List.mem_range.mp hi);obtain⟨j',t',b',vs',W_,h5',h6',h7',h8',h9',awA⟩:=room i' (List.mem_range.mp ym);have FN:=(List.getElem?_eq_some_iff.mp h3).1;have U6 :=(List.getElem?_eq_some_iff.mp W_).1;rcases Nat.lt_trichotomy j j' with eQ|heq|W0
     ·exact absurd (z▸h6') (hM j j' eQ U6 _ h6)
     ·subst heq;rw[h3] at W_;obtain⟨q1,q2⟩:=xu (congrArg Prod.fst (Option.some.inj W_));exact jw (m_ lB (d4 (List.mem_range.mp hi)) (by rw[q1];exact d4 (List.mem_range.mp ym)) q2)
     ·exact absurd (z▸h6) (hM j' j W0 FN _ h6')
    ·simp
    ·simp only[List.mem_cons,List.mem_append] at hc;rcases hc with rfl|rfl|rfl|rfl|rfl|hc|hc
     ·exact⟨_,d10⟩
     ·exact⟨_,Aq JX⟩
     ·exact⟨_,Aq Us⟩
     ·exact⟨_,Aq p32⟩
     ·exact⟨_,Eu Ao e9⟩
     ·obtain⟨i,hi,rfl⟩:=List.mem_map.mp hc;obtain⟨vs,h1,h2,h3⟩:=E_ i (List.mem_range.mp hi);exact⟨_,h2⟩
     ·obtain⟨i,hi⟩:=List.mem_iff_getElem?.mp hc
      have xO:i<R.length:=by
       have:=(List.getElem?_eq_some_iff.mp hi).1;rw[M.iB] at this;exact this
      have:=(M.way i xO).2;rw[show ws.getD i 0=c by rw[List.getD_eq_getElem?_getD,hi];rfl] at this;exact⟨_,sH _ _ this⟩
    ·simp only[List.mem_cons,List.mem_append] at hc;rcases hc with rfl|rfl|rfl|rfl|rfl|hc|hc
     ·exact .inl hd
     ·exact .inl X0
     ·exact .inl p21
     ·exact .inl p31
     ·exact .inl fca
     ·obtain⟨i,hi,rfl⟩:=List.mem_map.mp hc;obtain⟨vs,h1,h2,h3⟩:=E_ i (List.mem_range.mp hi);exact .inl (s3.free (s4.free h3))
     ·obtain⟨i,hi⟩:=List.mem_iff_getElem?.mp hc
      have xO:i<R.length:=by
       have:=(List.getElem?_eq_some_iff.mp hi).1;rw[M.iB] at this;exact this
      have:=M.way i xO;rw[show ws.getD i 0=c by rw[List.getD_eq_getElem?_getD,hi];rfl] at this;exact .inr ⟨this.1,_,this.2⟩
end
theorem HV{lo:Int}{n k:Nat}{js:List Nat}{g:TG}{tt:TT}{te:TE}{σ:L2.St}{H:Hp}{Q:VK}(Iv:Addr→Nat→Hp→Prop)(h0:∀p,H p=none→Iv p 0 (upd H p (.lst [])))(hp:∀p i H',Iv p i H'→H' p=some (.lst []))
 (ll:∀p i H' (C1:V→Hp→Prop) (C0:Hp→Prop),i<n→Iv p i H'→(∀lC,Iv p (i+1) lC→C0 lC)→g (.int (lo+(i:Int))) (v7 k js σ) H' fun nT H2=>gk (v7 k js σ) nT∧tt nT H2 fun b H3=>if b=true then te nT H3 C1 else C0 H3)
 (hq:∀p H',Iv p n H'→Q (.ref p) H'):mY (Q9 lo n) k js g tt te σ H Q:=by
 intro p Nb;refine⟨fun i m ys H' =>m=n - i∧i≤n∧ys=[]∧Iv p i H',⟨n,rfl,Nat.zero_le _,rfl,h0 p Nb⟩,?_⟩
 rintro i m ys H' ⟨rfl,hi,rfl,hv⟩
 refine⟨hp p i H' hv,?_⟩;by_cases eQ:i<n
 ·refine .inr ⟨eQ,(by show 0<sizeLine;decide),fun x lC hy=> ?_⟩;obtain⟨rfl,rfl⟩:=hy;exact ll p i _ _ _ eQ hv fun H3 h3=>⟨n - (i+1),by omega,rfl,eQ,rfl,h3⟩
 ·have e:i=n:=by omega
  subst e;exact .inl ⟨Nat.le_refl _,hq p H' hv⟩
structure Wd where
 a:HA
 m:MA
def Wd.In(x:Wd)(c:Addr):Prop:=c∈x.a.own∨c∈x.m.own
def VP(C:Addr)(H:Hp)(x:Wd)(n:Nat):Prop:=∃ps ts L pk R N rs ws ms cs,nr C H x.a x.m ps ts L pk R N rs ws ms cs∧R.length+ts.length≤n+1∧N≤2*n
structure Core(C:Addr)(H0 H:Hp)(bo mo:Addr)(xs:List Wd)(nf:Nat→Nat):Prop where
 sm:au H0 H
 hb:H bo=some (.lst (xs.map fun x=>V.ref x.a.f))
 hm:H mo=some (.lst (xs.map fun x=>V.ref x.m.d))
 bm:bo≠mo
 l3:xs.length=3
 p:∀(i:Nat) x,xs[i]? =some x→VP C H x (nf i)
 ap:∀(i j:Nat) x y,xs[i]? =some x→xs[j]? =some y→i≠j→∀c,x.In c→y.In c→∃vs,H c=some (.tup vs)
 nb:∀x∈xs,∀c,x.In c→c≠bo∧c≠mo∧H0 c=none
 n0:H0 bo=none∧H0 mo=none
def NG(H0:Hp)(bo mo:Addr)(xs:List Wd)(b:Addr):Prop:=b≠bo∧b≠mo∧(∀x∈xs,¬x.In b)∧H0 b=none
section
variable{C:Addr}{H0 H H' H1 H2 H3:Hp}{bo mo b:Addr}{xs:List Wd}{x x' y:Wd}{n n' i j:Nat}{nf nf' :Nat→Nat}
theorem VP.al(p:VP C H x n){c:Addr}(h:x.In c):∃o,H c=some o:=by
 obtain⟨ps,ts,L,pk,R,N,rs,ws,ms,cs,Z,_⟩:=p;exact h.elim (Z.h.al c) (Z.mo.al c)
theorem VP.kept(p:VP C H x n)(k:∀c o,x.In c→H c=some o→H' c=some o)(h:n≤n'):VP C H' x n' :=by
 obtain⟨ps,ts,L,pk,R,N,rs,ws,ms,cs,Z,h1,h2⟩:=p;exact⟨ps,ts,L,pk,R,N,rs,ws,ms,cs,Z.kept k,by omega,by omega⟩
theorem Core.al(c:Core C H0 H bo mo xs nf)(hx:x∈xs){d:Addr}(h:x.In d):∃o,H d=some o:=by
 obtain⟨i,hi⟩:=List.mem_iff_getElem?.mp hx;exact(c.p i x hi).al h
theorem Core.same(c:Core C H0 H bo mo xs nf)(s:au H H'):Core C H0 H' bo mo xs nf:=
 ⟨c.sm.trans s,s _ _ c.hb,s _ _ c.hm,c.bm,c.l3,fun i x hx=>(c.p i x hx).kept (fun d o _ e=>s d o e) (Nat.le_refl _),fun i j x y hx hy Xh d h1 h2=>(c.ap i j x y hx hy Xh d h1 h2).imp fun vs e=>s _ _ e,c.nb,c.n0⟩
theorem Core.mono(c:Core C H0 H bo mo xs nf)(h:∀i,nf i≤nf' i):Core C H0 H bo mo xs nf' :=
 ⟨c.sm,c.hb,c.hm,c.bm,c.l3,fun i x hx=>(c.p i x hx).kept (fun d o _ e=>e) (h i),c.ap,c.nb,c.n0⟩
theorem Core.apart(c:Core C H0 H bo mo xs nf)(hb:H b=none):NG H0 bo mo xs b:=
 ⟨(ag c.hb hb).symm,(ag c.hm hb).symm,(fun x hx z=>by
  obtain⟨o,e⟩:=c.al hx z;rw[hb] at e;cases e),c.sm.free hb⟩
theorem Core.box(c:Core C H0 H bo mo xs nf)(hb:NG H0 bo mo xs b)(k:Kept b H H'):Core C H0 H' bo mo xs nf:=by
 obtain⟨h1,h2,h3,h4⟩:=hb;have kx:∀x∈xs,∀d o,x.In d→H d=some o→H' d=some o:=fun x hx d o h e=>k d o (fun z=>h3 x hx (z▸h)) e;exact⟨fun d o e=>k d o (ag e h4) (c.sm d o e),k _ _ h1.symm c.hb,k _ _ h2.symm c.hm,c.bm,c.l3,fun i x hx=>(c.p i x hx).kept (kx x (List.mem_of_getElem? hx)) (Nat.le_refl _),fun i j x y hx hy Xh d g1 g2=>(c.ap i j x y hx hy Xh d g1 g2).imp fun vs e=>kx x (List.mem_of_getElem? hx) d _ g1 e,c.nb,c.n0⟩
theorem wS{xs:List Wd}{i j:Nat}{x' y:Wd}(h:(xs.set i x')[j]? =some y):(j=i∧y=x')∨(j≠i∧xs[j]? =some y):=by
 rw[List.getElem?_set] at h
 split at h
 ·next e=>
  split at h
  ·cases h;exact .inl ⟨e.symm,rfl⟩
  ·cases h
 ·next e=>exact .inr ⟨fun z=>e z.symm,h⟩
theorem WP{xs:List Wd}{i:Nat}{x' y:Wd}(h:y∈xs.set i x'):y=x'∨y∈xs:=by
 obtain⟨j,hj⟩:=List.mem_iff_getElem?.mp h;rcases wS hj with⟨_,e⟩|⟨_,e⟩
 ·exact .inl e
 ·exact .inr (List.mem_of_getElem? e)
theorem map_set{α:Type}{xs:List Wd}{i:Nat}{x' :Wd}(f:Wd→α):(xs.set i x').map f=(xs.map f).set i (f x'):=List.map_set
theorem jah{α:Type}{l:List α}{i:Nat}{v:α}(h:l[i]? =some v):l.set i v=l:=by
 apply List.ext_getElem?;intro j;rw[List.getElem?_set]
 split
 ·next e=>
  subst e
  split
  ·exact h.symm
  ·next z=>rw[List.getElem?_eq_none (by omega)]
 ·rfl
theorem Core.step(c:Core C H0 H bo mo xs nf)(hx:xs[i]? =some x)(ef:x'.a.f=x.a.f)(ed:x'.m.d=x.m.d)(g:∀d,x'.In d→x.In d∨H d=none)
 (hb0:H0 b=none) (YM:b≠bo) (hbm:b≠mo) (UE:∀y∈xs,¬y.In b)
 (k:∀d o,d≠b→¬x.In d→H d=some o→H' d=some o) (kt:∀d vs,H d=some (.tup vs)→H' d=some (.tup vs)) (p:VP C H' x' (nf' i)) (hn:∀j,j≠i→nf j≤nf' j):Core C H0 H' bo mo (xs.set i x') nf' :=by
 have GU:=List.mem_of_getElem? hx
 have nin:∀d,(d=bo∨d=mo)→¬x.In d:=fun d hd z=>by
  have:=c.nb x GU d z;rcases hd with rfl|rfl
  ·exact this.1 rfl
  ·exact this.2.1 rfl
 have ky:∀j y,j≠i→xs[j]? =some y→∀d o,y.In d→H d=some o→H' d=some o:=fun j y hj hy d o h e=>by
  by_cases z:x.In d
  ·obtain⟨vs,et⟩:=c.ap i j x y hx hy (fun q=>hj q.symm) d z h;rw[et] at e;cases e;exact kt d vs et
  ·exact k d o (fun q=>UE y (List.mem_of_getElem? hy) (q▸h)) z e
 have lst:∀(f:Wd→V),f x' =f x→(xs.set i x').map f=xs.map f:=fun f e=>by
  rw[map_set,e];exact jah (by rw[List.getElem?_map,hx];rfl)
 refine⟨fun d o e=> ?_,?_,?_,c.bm,by rw[List.length_set];exact c.l3,fun j y hy=> ?_,fun j1 j2 y1 y2 h1 h2 jw d g1 g2=> ?_,fun y hy d h=> ?_,c.n0⟩
 ·refine k d o (ag e hb0) (fun z=> ?_) (c.sm d o e);rw[(c.nb x GU d z).2.2] at e;cases e
 ·rw[lst (fun x=>V.ref x.a.f) (by show V.ref x'.a.f=V.ref x.a.f;rw[ef])];exact k _ _ YM.symm (nin _ (.inl rfl)) c.hb
 ·rw[lst (fun x=>V.ref x.m.d) (by show V.ref x'.m.d=V.ref x.m.d;rw[ed])];exact k _ _ hbm.symm (nin _ (.inr rfl)) c.hm
 ·rcases wS hy with⟨rfl,rfl⟩|⟨hj,hy⟩
  ·exact p
  ·exact(c.p j y hy).kept (ky j y hj hy) (hn j hj)
 ·have one:∀j y,j≠i→xs[j]? =some y→x'.In d→y.In d→∃vs,H' d=some (.tup vs):=fun j y hj hy h1 h2=>by
   rcases g d h1 with z|z
   ·obtain⟨vs,e⟩:=c.ap i j x y hx hy (fun q=>hj q.symm) d z h2;exact⟨vs,kt d vs e⟩
   ·obtain⟨o,e⟩:=(c.p j y hy).al h2;rw[z] at e;cases e
  rcases wS h1 with⟨rfl,rfl⟩|⟨hj1,Rn⟩
  ·rcases wS h2 with⟨rfl,rfl⟩|⟨QA,NR⟩
   ·exact absurd rfl jw
   ·exact one j2 y2 QA NR g1 g2
  ·rcases wS h2 with⟨rfl,rfl⟩|⟨QA,NR⟩
   ·exact one j1 y1 hj1 Rn g2 g1
   ·obtain⟨vs,e⟩:=c.ap j1 j2 y1 y2 Rn NR jw d g1 g2;exact⟨vs,kt d vs e⟩
 ·rcases WP hy with rfl|hy
  ·rcases g d h with z|z
   ·exact c.nb x GU d z
   ·exact⟨(ag c.hb z).symm,(ag c.hm z).symm,c.sm.free z⟩
  ·exact c.nb y hy d h
theorem NG.step(a:NG H0 bo mo xs b)(hx:xs[i]? =some x)(g:∀d,x'.In d→x.In d∨H d=none)(hb:∃o,H b=some o):NG H0 bo mo (xs.set i x') b:=by
 obtain⟨h1,h2,h3,h4⟩:=a;refine⟨h1,h2,fun y hy z=> ?_,h4⟩;rcases WP hy with rfl|hy
 ·rcases g b z with q|q
  ·exact h3 x (List.mem_of_getElem? hx) q
  ·obtain⟨o,e⟩:=hb;rw[q] at e;cases e
 ·exact h3 y hy z
theorem Core.twin{a2:HA}{m2:MA}{ps ts:aP}{L pk:Nat}{R:Rm}{N:Nat}{rs ws ms Xv Xc:aZ}{cs:dO}(c:Core C H0 H bo mo xs (fun _=>n))(hx:xs[i]? =some x)(hj:j<3)
 (Z:nr C H x.a x.m ps ts L pk R N rs ws ms cs) (hR:R.length+ts.length≤n+1) (hN:N≤2*n)
 (fa:∀d∈a2.own,H d=none) (F:aF C H1 a2 ps ts L pk R N Xv cs) (s1:au H H1)
 (s2:au (upd H1 bo (.lst ((xs.map fun x=>V.ref x.a.f).set j (.ref a2.f)))) H2) (M:aO H2 m2 ps ts L pk R ws Xc cs) (fm:∀d∈m2.own,upd H1 bo (.lst ((xs.map fun x=>V.ref x.a.f).set j (.ref a2.f))) d=none∨(d∈x.m.own∧∃vs,upd H1 bo (.lst ((xs.map fun x=>V.ref x.a.f).set j (.ref a2.f))) d=some (.tup vs))):
 Core C H0 (upd H2 mo (.lst ((xs.map fun x=>V.ref x.m.d).set j (.ref m2.d)))) bo mo (xs.set j ⟨a2,m2⟩) (fun _=>n)∧(∀d o,d≠bo→d≠mo→H d=some o→upd H2 mo (.lst ((xs.map fun x=>V.ref x.m.d).set j (.ref m2.d))) d=some o)∧∀b,NG H0 bo mo xs b→(∃o,H b=some o)→NG H0 bo mo (xs.set j ⟨a2,m2⟩) b:=by
 have GU:=List.mem_of_getElem? hx;have nbo:∀d∈a2.own,d≠bo∧d≠mo:=fun d hd=>⟨(ag c.hb (fa d hd)).symm,(ag c.hm (fa d hd)).symm⟩;have k1:∀d o,d≠bo→H1 d=some o→H2 d=some o:=fun d o h e=>s2 _ _ (by rw[af h];exact e)
 have k2:∀d o,d≠bo→d≠mo→H1 d=some o→upd H2 mo (.lst ((xs.map fun x=>V.ref x.m.d).set j (.ref m2.d))) d=some o:=fun d o h h' e=>by
  rw[af h'];exact k1 d o h e
 have kH:∀d o,d≠bo→d≠mo→H d=some o→upd H2 mo (.lst ((xs.map fun x=>V.ref x.m.d).set j (.ref m2.d))) d=some o:=fun d o h h' e=>k2 d o h h' (s1 _ _ e)
 have m2H:∀d∈m2.own,(H d=none∧H1 d=none∧d≠bo∧d≠mo)∨(d∈x.m.own∧d≠bo∧d≠mo∧∃vs,H d=some (.tup vs)):=fun d hd=>by
  rcases fm d hd with z|⟨z,vs,e⟩
  ·have BX:d≠bo:=fun q=>by rw[q,ae] at z;cases z
   rw[af BX] at z;exact .inl ⟨s1.free z,z,BX,(ag (s1 _ _ c.hm) z).symm⟩
  ·have hn:=c.nb x GU d (.inr z);rw[af hn.1] at e;refine .inr ⟨z,hn.1,hn.2.1,?_⟩;obtain⟨o,eo⟩:=c.al GU (.inr z);rw[s1 _ _ eo] at e;cases e;exact⟨vs,eo⟩
 have F4:aF C (upd H2 mo (.lst ((xs.map fun x=>V.ref x.m.d).set j (.ref m2.d)))) a2 ps ts L pk R N Xv cs:=F.kept fun d o hd e=>k2 d o (nbo d hd).1 (nbo d hd).2 e;have nmo:∀d∈m2.own,d≠bo∧d≠mo:=fun d hd=>(m2H d hd).elim (fun z=>⟨z.2.2.1,z.2.2.2⟩) (fun z=>⟨z.2.1,z.2.2.1⟩)
 have M4:aO (upd H2 mo (.lst ((xs.map fun x=>V.ref x.m.d).set j (.ref m2.d)))) m2 ps ts L pk R ws Xc cs:=M.kept fun d o hd e=>by
  rw[af (nmo d hd).2];exact e
 have ap2:∀d∈a2.own,¬d∈m2.own:=fun d hd z=>by
  obtain⟨o,e⟩:=F.al d hd;rcases m2H d z with q|q
  ·rw[q.2.1] at e;cases e
  ·obtain⟨vs,ev⟩:=q.2.2.2;rw[fa d hd] at ev;cases ev
 have inH:∀d,(⟨a2,m2⟩:Wd).In d→H d=none∨∃vs,H d=some (.tup vs)∧d≠bo∧d≠mo∧x.In d:=fun d hd=>by
  rcases hd with hd|hd
  ·exact .inl (fa d hd)
  ·rcases m2H d hd with q|⟨q1,q2,q3,vs,q4⟩
   ·exact .inl q.1
   ·exact .inr ⟨vs,q4,q2,q3,.inr q1⟩
 have azd:j<xs.length:=by rw[c.l3];exact hj
 refine⟨⟨fun d o e=>kH d o (ag e c.n0.1) (ag e c.n0.2) (c.sm d o e),?_,?_,c.bm,by rw[List.length_set];exact c.l3,fun l y hy=> ?_,fun j1 j2 y1 y2 h1 h2 jw d g1 g2=> ?_,fun y hy d h=> ?_,c.n0⟩,kH,fun b a hb=> ?_⟩
 ·rw[af c.bm,map_set];exact s2 _ _ ae
 ·rw[ae,map_set]
 ·rcases wS hy with⟨rfl,rfl⟩|⟨hl,hy⟩
  ·exact⟨ps,ts,L,pk,R,N,Xv,ws,Xc,cs,⟨F4,M4,Z.G,Z.ok,ap2⟩,hR,hN⟩
  ·exact(c.p l y hy).kept (fun d o h e=>kH d o (c.nb y (List.mem_of_getElem? hy) d h).1 (c.nb y (List.mem_of_getElem? hy) d h).2.1 e) (Nat.le_refl _)
 ·have one:∀y,y∈xs→(⟨a2,m2⟩:Wd).In d→y.In d→∃vs,upd H2 mo (.lst ((xs.map fun x=>V.ref x.m.d).set j (.ref m2.d))) d=some (.tup vs):=fun y hy h1 h2=>by
   rcases inH d h1 with z|⟨vs,z,z1,z2,_⟩
   ·obtain⟨o,e⟩:=c.al hy h2;rw[z] at e;cases e
   ·exact⟨vs,kH d _ z1 z2 z⟩
  rcases wS h1 with⟨rfl,rfl⟩|⟨hj1,Rn⟩
  ·rcases wS h2 with⟨rfl,rfl⟩|⟨QA,NR⟩
   ·exact absurd rfl jw
   ·exact one y2 (List.mem_of_getElem? NR) g1 g2
  ·rcases wS h2 with⟨rfl,rfl⟩|⟨QA,NR⟩
   ·exact one y1 (List.mem_of_getElem? Rn) g2 g1
   ·obtain⟨vs,e⟩:=c.ap j1 j2 y1 y2 Rn NR jw d g1 g2;have hn:=c.nb y1 (List.mem_of_getElem? Rn) d g1;exact⟨vs,kH d _ hn.1 hn.2.1 e⟩
 ·rcases WP hy with rfl|hy
  ·rcases inH d h with z|⟨vs,z,z1,z2,z3⟩
   ·exact⟨(ag c.hb z).symm,(ag c.hm z).symm,c.sm.free z⟩
   ·exact c.nb x GU d z3
  ·exact c.nb y hy d h
 ·obtain⟨h1,h2,h3,h4⟩:=a;refine⟨h1,h2,fun y hy z=> ?_,h4⟩;rcases WP hy with rfl|hy
  ·rcases inH b z with q|⟨vs,q,q1,q2,q3⟩
   ·obtain⟨o,e⟩:=hb;rw[q] at e;cases e
   ·exact h3 x GU q3
  ·exact h3 y hy z
end
theorem jao{L:Nat}(h1:1≤L)(h2:L≤1000):Good [none] [none] L 0 []:=⟨⟨rfl,(by decide),(by decide),rfl,(fun i h0 hi=>absurd hi (by simp;omega)),(fun i j e=>by
 cases i with
 |zero=>cases e
 |succ i=>simp at e)⟩,rfl,(fun r hr=>nomatch hr),h1,h2,Nat.zero_le _,Nat.zero_le _⟩
theorem cs0:BN [] [] []:=⟨rfl,(fun i vs e=>by simp at e),(fun i vs e=>by simp at e)⟩
theorem Core.get{C:Addr}{H0 H:Hp}{bo mo:Addr}{xs:List Wd}{nf:Nat→Nat}(c:Core C H0 H bo mo xs nf){i:Nat}(h:i<3):∃x,xs[i]? =some x:=by
 have hl:i<xs.length:=by rw[c.l3];exact h
 exact⟨xs[i],by simp[hl]⟩
def abb(C a:Addr):TS:=fun D σ H=>∃(x1 x4 x6 x7 x8 x9 IE:Option V) (b bo mo:Addr) (xs:List Wd) (k n:Nat) (H0:Hp),σ=[some (.ref a),x1,some (.ref bo),some (.ref mo),x4,some (.ref b),x6,x7,x8,x9,IE]∧cX H b k∧k≤1000∧NG H0 bo mo xs b∧Core C H0 H bo mo xs (fun _=>n)∧n≤120∧
 ∀H',Core C H0 H' bo mo xs (fun _=>n)→∀y10,D.nx [some (.ref a),x1,some (.ref bo),some (.ref mo),x4,some (.ref b),x6,x7,x8,x9,y10] H'
section
variable{P:Program}{w:World}{K:Frag}{mg:Str→aH}{base:Heap}{A:qH}
def FA(K:Frag):Sp:=fun vs H Q _=>∃(a:Addr) (ns:List Int),vs=[.ref a]∧bB K H a (ns.map V.int)∧ns.length≤63∧∀H',Q (.bl true) H'
theorem Ux(T:Txt K mg A):aV P w K mg base eJ 11 A.Lv A.CO ["_law_script"] (FA K):=by
 have vm:=(AZ (P:=P) (w:=w) (base:=base) T).mono (by decide:_≤10);have xZ:=(C_ (P:=P) (w:=w) (base:=base) T).mono (by decide:_≤10);have bL:=(kc (P:=P) (w:=w) (base:=base) T).mono (by decide:_≤10);have oS:=(zl (P:=P) (w:=w) (base:=base) T).mono (by decide:_≤10);have Cy:=(A3 (P:=P) (w:=w) (base:=base) T).mono (by decide:_≤10);have AN:=(yy (P:=P) (w:=w) (base:=base) T).mono (by decide:_≤10);have Dt:=(BA (P:=P) (w:=w) (base:=base) T).mono (by decide:_≤10);have gG:=(mT (P:=P) (w:=w) (base:=base) T).mono (by decide:_≤10);have hX:=(pD (P:=P) (w:=w) (base:=base) T).mono (by decide:_≤10);have BI:=(yG (P:=P) (w:=w) (base:=base) T).mono (by decide:_≤10);have Bz:=zA (P:=P) (w:=w) (base:=base) T;have d8:=(lH (P:=P) (w:=w) (base:=base) T).mono (by decide:_≤9);refine T.aa6.ok jO (fun vs H Q E h=> ?_) (fun cG Ar outer s H vs Q E hr h=> ?_)
 ·obtain⟨a,ns,rfl,_⟩:=h;rfl
 ·obtain⟨a,ns,rfl,hS,hlen,q⟩:=h;have hu:=dY hr;have BY:=hr.gd;have Xp:=hr.Ej;have sP:_+100<cLine:=Nat.lt_of_le_of_lt (Nat.add_le_add_left (by decide:100≤16*10+200) _) (by have:=hr.un;omega);refine⟨_,(ak (a_ (i:=1) jO.nd rfl (Or.inl rfl) (bC bp (bO (aa ax (aa ax ah))) (bH ur (ay bL hr rfl T.bX T.bT.kp T.b8 .nil aw (aa (ay xZ hr rfl T.xI T.rQ.kp T.xN .nil aw (aa (ay vm hr rfl T.vi T.pL.kp T.vE .nil aw (aa (pv 0) (aa ax ah))) ah)) (aa ax ah))) ax) (fun _ _=>rfl))) (ak (a_ (i:=2) jO.nd rfl (Or.inr rfl) (bO (aa (wy T.wq d8 hr rfl T.tm T.fW .nil aw (aa (pv 1) ah)) (aa (wy T.wq d8 hr rfl T.tm T.fW .nil aw (aa (pv 1) ah)) (aa (wy T.wq d8 hr rfl T.tm T.fW .nil aw (aa (pv 1) ah)) ah))))) (ak (a_ (i:=3) jO.nd rfl (Or.inr rfl) (bO (aa (ay oS hr rfl T.oN T.ko.kp T.nY .nil aw (aa (pv 1) ah)) (aa (ay oS hr rfl T.oN T.ko.kp T.nY .nil aw (aa (pv 1) ah)) (aa (ay oS hr rfl T.oN T.ko.kp T.nY .nil aw (aa (pv 1) ah)) ah))))) (ak (gR PassesOwn.never rfl (iZ rfl T.ke (aa (aE (qL rfl) (by rfl) T.z9 Boot.«max» (aa ax (aa (aE (Hk rfl) (by rfl) T.LN Boot.«min» (aa ax (aa (aE aU (by rfl) T.eh Boot.«len» (aa (pv 0) ah)) ah))) ah))) ah)) (ba (i:=4) jO.nd rfl (Or.inl rfl) (Or.inl rfl)) (ak (a_ (i:=5) jO.nd rfl (Or.inl rfl) (ay xZ hr rfl T.xI T.rQ.kp T.xN .nil aw (aa (ay vm hr rfl T.vi T.pL.kp T.vE .nil aw (aa (pv 0) (aa (pv 4) ah))) ah))) (ak (a_ (i:=6) jO.nd rfl (Or.inl rfl) (ay bL hr rfl T.bX T.bT.kp T.b8 .nil aw (aa (pv 5) (aa ax ah)))) (ak (a_ (i:=7) jO.nd rfl (Or.inl rfl) (bH rO (bH iP (bH iP (pv 6) ax) (ay bL hr rfl T.bX T.bT.kp T.b8 .nil aw (aa (pv 5) (aa ax ah)))) ax)) (ak (a_ (i:=8) jO.nd rfl (Or.inl rfl) (lS xj (ay bL hr rfl T.bX T.bT.kp T.b8 .nil aw (aa (pv 5) (aa ax ah))) ax (bu _))) (ak (gR PassesOwn.never rfl (iZ rfl T.ke (aa (bH iP ax (ay bL hr rfl T.bX T.bT.kp T.b8 .nil aw (aa (pv 5) (aa ax ah)))) ah)) (ba (i:=9) jO.nd rfl (Or.inl rfl) (Or.inl rfl)) (aq (aY (ay Cy hr rfl T.DG T.vA.kp T.DS .nil aw (aa (pv 5) (aa (bC bp (pv 2) (pv 6) (fun _ _=>rfl)) (aa (bC bp (pv 3) (pv 6) (fun _ _=>rfl)) ah))))))) (ak (cg (eZ (pv 8)) (ak (nG (cf (bC bp (pv 2) (pv 6) (fun _ _=>rfl)) T.ar T.Bt AN hr T.A7 .nil aw) (oA (pv 2) (pv 7) ww)) (ak (nG (ay Dt hr rfl T.DD T.vq.kp T.Dj .nil aw (aa (bC bp (pv 3) (pv 6) (fun _ _=>rfl)) ah)) (oA (pv 3) (pv 7) ww)) (aq (cg (fu (eZ (aE (sQ (K:=K) rfl) (by rfl) T.cN Boot.«isinstance» (aa (bC bp (pv 2) (pv 7) (fun _ _=>rfl)) (aa (n5 (v:= .ref A.aj) rfl T.tm rfl) ah))))) (aq (aG j9)) bj)))) bj) (qG (abb A.aj a) (ak (a_ (i:=10) jO.nd rfl (Or.inl rfl) (ay bL hr rfl T.bX T.bT.kp T.b8 .nil aw (aa (pv 5) (aa ax ah)))) (aq (cg (bc vg (aE (cI BY sP) (by rfl) T.f_ Boot.«repr» (aa (cf (bC bp (pv 2) (pv 10) (fun _ _=>rfl)) T.ar T.jT gG hr T.jR .nil aw) ah)) (aE (cI BY sP) (by rfl) T.f_ Boot.«repr» (aa (ay hX hr rfl T.kD T.hZ.kp T.kY .nil aw (aa (bC bp (pv 3) (pv 10) (fun _ _=>rfl)) ah)) ah)) (bu _)) (aq (aG j9)) bj))) ?Wi)))))))) (ak (cg (bc (EI sP) (dn (N:=["_law_one_here"]) (k:=1) (js:=[]) rfl (bQ (by kernel_rfl)) (cy (pv 2)) (fun _ _ _ _ _=>⟨(ba (i:=0) (show(["_law_one_here"]:aX).Nodup by decide+kernel) rfl (Or.inl rfl) (Or.inr rfl)),(AD (fu (eZ (aE (sQ (K:=K) rfl) (by rfl) T.cN Boot.«isinstance» (aa (pv 0) (aa (n5 (v:= .ref A.eS) rfl T.DI rfl) ah)))))),(pv 0)⟩)) (bO ah) (bu _)) (aq (aG j9)) bj) (ak (gR PassesOwn.never rfl (iZ rfl T.ke (aa ax ah)) (ba (i:=4) jO.nd rfl (Or.inl rfl) (Or.inl rfl)) (aq (cg (fu (eZ (ay BI hr rfl T.AV T.tW.kp T.Bd .nil aw (aa (bC bp (pv 2) (pv 4) (fun _ _=>rfl)) (aa (bC bp (pv 3) (pv 4) (fun _ _=>rfl)) (aa (pv 3) ah)))))) (aq (aG j9)) bj))) (aq (aG (lS (xE Xp) (dn (N:=["_law_k","_law_houses","_law_models"]) (k:=1) (js:=[2,3]) rfl (bQ (by kernel_rfl)) (iZ rfl T.ke (aa ax ah)) (fun _ _ _ _ _=>⟨(ba (i:=0) (show(["_law_k","_law_houses","_law_models"]:aX).Nodup by decide+kernel) rfl (Or.inl rfl) (Or.inr rfl)),(AD (fu (eZ (ay Bz hr rfl T.Bu T.sW.kp T.BC .nil aw (aa (bC (qp (K:=K) rfl) (pv 1) (pv 0) (fun _ _=>rfl)) (aa (bC (qp (K:=K) rfl) (pv 2) (pv 0) (fun _ _=>rfl)) ah)))))),(pv 0)⟩)) (bO ah) (bu _)))))))))),?_⟩
  case Wi=>
   rintro D σ H1 ⟨x1,x4,x6,x7,x8,x9,IE,b,bo,mo,xs,k,n,H0,rfl,B,hk,ap,core,hn,q⟩
   refine⟨_,rfl,b,3,k,rfl,B,by omega,by decide,by decide,fun r H2 r0 r1 B2 O2=> ?_⟩;have c2:=core.box ap O2.kept;obtain⟨i,rfl⟩:∃i:Nat,r=i:=⟨r.toNat,by omega⟩;have xO:i<xs.length:=by rw[core.l3];omega
   have hx:xs[i]? =some xs[i]:=by simp[xO]
   obtain⟨ps,ts,L,pk,R,N,rs,ws,ms,cs,Z,hR,hN⟩:=c2.p i _ hx;obtain⟨dx,ho⟩:=Z.h.ob;have Gs:=Z.G.ts;have hl:=Z.G.W.len;obtain⟨dss,hdd,NZ⟩:=Z.dss (by omega);obtain⟨w1,w2,w3⟩:=xc (dss:=dss) (R:=R) Z.G.W Z.G.hi (by omega) NZ;refine⟨_,rfl,_,rfl,bo,_,_,_,rfl,rfl,bB.of c2.hb,dD (by rw[List.getElem?_map,hx];rfl),?_⟩;refine⟨_,dx,_,rfl,ho,aB (by decide+kernel),xs[i].a,ps,ts,L,pk,R,N,rs,cs,rfl,Z.h,Z.r1,Z.ok.cl,hl,Gs,by omega,fun v1 H3 s3 p1=>⟨v1,_,rfl,p1.dat (fun m vs e=>DatAll.same s3 (hdd m vs e)),w1,w2,w3,?_⟩⟩;refine⟨_,rfl,_,rfl,mo,_,_,_,rfl,rfl,bB.of (c2.same s3).hm,dD (by rw[List.getElem?_map,hx];rfl),xs[i].m,ps,ts,L,pk,R,ws,ms,cs,rfl,(Z.same s3).mo,hl,Gs,by omega,fun v2 H4 s4 p2=>⟨v2,_,rfl,p2.dat (fun m vs e=>DatAll.same (s3.trans s4) (hdd m vs e)),w1,w2,w3,rfl,_,rfl,?_⟩⟩;rw[z4];exact g9 (q H4 (c2.same (s3.trans s4)) _)
  have made:∀{H0 H1:Hp} {x dx:Addr} {a:HA},H0 x=none→H0 dx=none→a.f=x→(∀c∈a.own,c=x∨upd (upd H0 dx (.own x)) x (.ins A.aj dx []) c=none)→(∀b o,upd (upd H0 dx (.own x)) x (.ins A.aj dx []) b=some o→b≠x→H1 b=some o)→au H0 H1∧∀c∈a.own,H0 c=none:=fun{H0 H1 x dx a} hx CY ef go kp=>by
   have s0:au H0 (upd (upd H0 dx (.own x)) x (.ins A.aj dx [])):=fun c o e=>by
    rw[af (ag e hx),af (ag e CY)];exact e
   refine⟨fun c o e=>kp c o (s0 c o e) (ag e hx),fun c hc=> ?_⟩;rcases go c hc with h|h
   ·rw[h];exact hx
   ·exact s0.free h
  have Dq:(2:Nat)≤sizeLine:=by decide
  have h3L:(3:Nat)≤sizeLine:=by decide
  refine⟨Dq,fun lp hlp=> ?_⟩;have sl:=au.upd (o:= .lst [V.int 1000,V.int 30]) hlp;have el:upd H lp (.lst [V.int 1000,V.int 30]) lp=some (.lst [V.int 1000,V.int 30]):=ae;generalize upd H lp (.lst [V.int 1000,V.int 30])=Ha at sl el;refine⟨_,rfl,a,ns,0,rfl,sl.seq hS,by omega,by omega,fun c=>⟨c,rfl,fun b Hb hb Bb sb=>⟨b,5,0,rfl,Bb,by omega,by decide,by decide,fun r Hc r0 r1 Bc Oc=> ?_⟩⟩⟩;have sHc:au H Hc:=fun d o e=>Oc.kept d o (ag (sl _ _ e) hb) (sb _ _ (sl _ _ e));have elc:Hc lp=some (.lst [V.int 1000,V.int 30]):=Oc.kept _ _ (ag el hb) (sb _ _ el);refine⟨r,4,rfl,rfl,⟨by decide,by decide⟩,?_⟩;refine AK (fun v=>∃L:Nat,v= .int L∧1≤L∧L≤1000) elc (by omega) (by show r / 4<2;omega) ?_ fun v hv=> ?_
  ·intro x hx;simp only[List.mem_cons,List.not_mem_nil,or_false] at hx;rcases hx with rfl|rfl
   ·exact⟨1000,rfl,by decide,by decide⟩
   ·exact⟨30,rfl,by decide,by decide⟩
  obtain⟨L,rfl,hL1,X9⟩:=hv;refine⟨_,rfl,?_⟩;intro x0 dx0 hx0 apv ne0;refine⟨x0,dx0,L,rfl,ae,hL1,X9,fun a0 H1 ef0 go0 h0 kp0=>⟨rfl,_,rfl,?_⟩⟩;obtain⟨s1,fa0⟩:=made hx0 apv ef0 go0 kp0;subst ef0;intro x1 pG hx1 als ne1;refine⟨x1,pG,L,rfl,ae,hL1,X9,fun a1 H2 ef1 go1 h1 kp1=>⟨rfl,_,rfl,?_⟩⟩;obtain⟨s2,fa1⟩:=made hx1 als ef1 go1 kp1;subst ef1;intro x2 YG hx2 afu ne2;refine⟨x2,YG,L,rfl,ae,hL1,X9,fun a2 H3 ef2 go2 h2 kp2=>⟨rfl,h3L,fun bo YM=> ?_⟩⟩;obtain⟨s3,fa2⟩:=made hx2 afu ef2 go2 kp2;subst ef2;have s4:=au.upd (o:= .lst [V.ref a0.f,V.ref a1.f,V.ref a2.f]) YM;have hb4:upd H3 bo (.lst [V.ref a0.f,V.ref a1.f,V.ref a2.f]) bo=some (.lst [V.ref a0.f,V.ref a1.f,V.ref a2.f]):=ae;generalize upd H3 bo (.lst [V.ref a0.f,V.ref a1.f,V.ref a2.f])=H4 at s4 hb4;refine⟨_,rfl,L,rfl,fun m0 H5 gm0 M0 s5=>⟨_,rfl,L,rfl,fun m1 H6 gm1 M1 s6=>⟨_,rfl,L,rfl,fun m2 H7 gm2 M2 s7=>⟨h3L,fun mo hmo=> ?_⟩⟩⟩⟩;have s8:=au.upd (o:= .lst [V.ref m0.d,V.ref m1.d,V.ref m2.d]) hmo;have hm8:upd H7 mo (.lst [V.ref m0.d,V.ref m1.d,V.ref m2.d]) mo=some (.lst [V.ref m0.d,V.ref m1.d,V.ref m2.d]):=ae;generalize upd H7 mo (.lst [V.ref m0.d,V.ref m1.d,V.ref m2.d])=H8 at s8 hm8
  have core:∃xs,Core A.aj H H8 bo mo xs (fun _=>0):=by
   let G:Nat→Hp:=fun k=>[Hc,H1,H2,H3,H4,H5,H6,H7].getD k H8
   have st:∀k,au (G k) (G (k+1)):=fun k=>by
    match k with
    |0=>exact s1
    |1=>exact s2
    |2=>exact s3
    |3=>exact s4
    |4=>exact s5
    |5=>exact s6
    |6=>exact s7
    |7=>exact s8
    |k+8=>exact au.refl H8
   have Vz:∀d k,au (G k) (G (k+d)):=fun d=>by
    induction d with
    |zero=>exact fun k=>au.refl _
    |succ d ih=>exact fun k=>(ih k).trans (st (k+d))
   have up:∀{k k' :Nat},k≤k'→au (G k) (G k'):=fun{k k'} h=>by
    have:=Vz (k' - k) k;rw[show k+(k' - k)=k' by omega] at this;exact this
   have uq:∀{k k' :Nat} {c:Addr},G k c=none→(∃o,G (k+1) c=some o)→G k' c=none→(∃o,G (k' +1) c=some o)→k=k' :=fun{k k' c} n1 e1 n2 e2=>by
    rcases Nat.lt_trichotomy k k' with h|h|h
    ·obtain⟨o,e⟩:=e1;rw[up (show k+1≤k' by omega) _ _ e] at n2;cases n2
    ·exact h
    ·obtain⟨o,e⟩:=e2;rw[up (show k' +1≤k by omega) _ _ e] at n1;cases n1
   have Vm:∀(i:Nat) x,[(⟨a0,m0⟩:Wd),⟨a1,m1⟩,⟨a2,m2⟩][i]? =some x→(∀c∈x.a.own,G i c=none∧∃o,G (i+1) c=some o)∧(∀c∈x.m.own,G (4+i) c=none∧∃o,G (4+i+1) c=some o)∧aF A.aj H8 x.a [none] [none] L 0 [] 0 [] []∧aO H8 x.m [none] [none] L 0 [] [] [] []:=fun i x hx=>by
    match i,hx with
    |0,hx=>
     cases hx;exact⟨fun c hc=>⟨fa0 c hc,h0.al c hc⟩,fun c hc=>⟨gm0 c hc,M0.al c hc⟩,h0.same (up (k:=1) (k' :=8) (by decide)),M0.same (up (k:=5) (k' :=8) (by decide))⟩
    |1,hx=>
     cases hx;exact⟨fun c hc=>⟨fa1 c hc,h1.al c hc⟩,fun c hc=>⟨gm1 c hc,M1.al c hc⟩,h1.same (up (k:=2) (k' :=8) (by decide)),M1.same (up (k:=6) (k' :=8) (by decide))⟩
    |2,hx=>
     cases hx;exact⟨fun c hc=>⟨fa2 c hc,h2.al c hc⟩,fun c hc=>⟨gm2 c hc,M2.al c hc⟩,h2.same (up (k:=3) (k' :=8) (by decide)),M2.same (up (k:=7) (k' :=8) (by decide))⟩
    |i+3,hx=>simp at hx
   have lt3:∀{i:Nat} {x:Wd},[(⟨a0,m0⟩:Wd),⟨a1,m1⟩,⟨a2,m2⟩][i]? =some x→i<3:=fun h=>(List.getElem?_eq_some_iff.mp h).1
   have bIn:∀{i:Nat} {x:Wd},[(⟨a0,m0⟩:Wd),⟨a1,m1⟩,⟨a2,m2⟩][i]? =some x→∀{c:Addr},x.In c→∃k,(k=i∨k=4+i)∧G k c=none∧∃o,G (k+1) c=some o:=fun{i x} hx {c} h=>by
    rcases h with h|h
    ·exact⟨i,.inl rfl,(Vm i x hx).1 c h⟩
    ·exact⟨4+i,.inr rfl,(Vm i x hx).2.1 c h⟩
   have bb:G 3 bo=none∧∃o,G (3+1) bo=some o:=⟨YM,_,hb4⟩;have S1 :G 7 mo=none∧∃o,G (7+1) mo=some o:=⟨hmo,_,hm8⟩;have sH:∀k,au H (G k):=fun k=>sHc.trans (up (k:=0) (Nat.zero_le k));refine⟨[⟨a0,m0⟩,⟨a1,m1⟩,⟨a2,m2⟩],sH 8,up (k:=4) (k' :=8) (by decide) _ _ hb4,hm8,fun z=> ?_,rfl,fun i x hx=> ?_,fun i j x y hx hy Xh c U0 TR => ?_,fun x hx c h=> ?_,(sH 3).free YM,(sH 7).free hmo⟩
   ·have:=uq bb.1 bb.2 (k' :=7) (by rw[z];exact S1.1) (by rw[z];exact S1.2);omega
   ·obtain⟨b1,b2,b3,b4⟩:=Vm i x hx;refine⟨[none],[none],L,0,[],0,[],[],[],[],⟨b3,b4,jao hL1 X9,cs0,fun c hc XC => ?_⟩,Nat.le_refl _,Nat.le_refl _⟩;have:=uq (b1 c hc).1 (b1 c hc).2 (b2 c XC).1 (b2 c XC).2;omega
   ·obtain⟨k,hk,n1,e1⟩:=bIn hx U0;obtain⟨k',hk',n2,e2⟩:=bIn hy TR;have:=uq n1 e1 n2 e2;have:=lt3 hx;have:=lt3 hy;omega
   ·obtain⟨i,hi⟩:=List.mem_iff_getElem?.mp hx;obtain⟨k,hk,n1,e1⟩:=bIn hi h;have:=lt3 hi;refine⟨fun z=> ?_,fun z=> ?_,(sH k).free n1⟩
    ·have:=uq n1 e1 (k' :=3) (by rw[z];exact bb.1) (by rw[z];exact bb.2);omega
    ·have:=uq n1 e1 (k' :=7) (by rw[z];exact S1.1) (by rw[z];exact S1.2);omega
  obtain⟨xs0,core⟩:=core;refine⟨_,rfl,a,_,rfl,.inl (core.sm.seq hS),30,_,rfl,2,_,rfl,?_⟩;generalize hn:(if(if((List.map V.int ns).length:Int)<30 then((List.map V.int ns).length:Int) else 30)>2 then(if((List.map V.int ns).length:Int)<30 then((List.map V.int ns).length:Int) else 30) else 2)=n
  have nn:0≤n∧n≤30:=by
   rw[←hn]
   split<;>split<;>omega
  refine⟨n,rfl,by omega,by omega,?_⟩;refine qI (lo:=0) (n:=n.toNat) (fun i σ H' =>∃(x1 x4 x5 x6 x7 x8 x9 IE:Option V) (xs:List Wd),σ=[some (.ref a),x1,some (.ref bo),some (.ref mo),x4,x5,x6,x7,x8,x9,IE]∧Core A.aj H H' bo mo xs (fun _=>3*i)) ⟨_,_,_,_,_,_,_,_,xs0,rfl,core⟩ ?_ ?_
  ·rintro i σ H9 hi ⟨x1,x4,x5,x6,x7,x8,x9,IE,xs,rfl,core⟩
   have ym :i<30:=by omega
   refine⟨_,rfl,_,rfl,a,ns,_,rfl,core.sm.seq hS,by omega,by omega,fun c=>⟨c,rfl,fun b Fp hb B10 Eu=> ?_⟩⟩;have ap:=core.apart hb;refine⟨_,rfl,b,3,0,rfl,B10,by omega,by decide,by decide,fun at_ NT t0 t1 B11 O11=> ?_⟩;obtain⟨ai,rfl⟩:∃ai:Nat,at_=ai:=⟨at_.toNat,by omega⟩;refine⟨_,rfl,_,1,rfl,rfl,_,rfl,b,2,1,rfl,B11,by omega,by decide,by decide,fun t2 IB t20 t21 B12 O12=>⟨_,t2,rfl,rfl,_,3,rfl,rfl,(show(0:Int)<3 by decide),?_⟩⟩;obtain⟨oj,hoj⟩:∃oj:Nat,((ai:Int)+1+t2) % 3=oj:=⟨(((ai:Int)+1+t2) % 3).toNat,by omega⟩;dsimp only;rw[hoj];have Qi:oj<3:=by omega
   refine⟨_,rfl,b,5,2,rfl,B12,by omega,by decide,by decide,fun r13 H13 _ _ B13 O13=>⟨rfl,?_⟩⟩;generalize decide (V.int r13=V.int 0)=tw;refine⟨_,rfl,b,3,3,rfl,B13,by omega,by decide,by decide,fun r H14 r0 r1 B14 O14=>⟨1,r,rfl,rfl,1+r,rfl,by omega,by omega,?_⟩⟩;have K14:Kept b H9 H14:=(Eu.kept.trans O11.kept).trans (O12.kept.trans (O13.kept.trans O14.kept));refine qI (lo:=0) (n:=(1+r).toNat) (fun j σ H' =>∃(x4 x9 IE:Option V) (xs:List Wd),σ=[some (.ref a),x1,some (.ref bo),some (.ref mo),x4,some (.ref b),some (.int ai),some (.int oj),some (.bl tw),x9,IE]∧cX H' b (4+12*j)∧NG H bo mo xs b∧Core A.aj H H' bo mo xs (fun _=>3*i+j)) ⟨_,_,_,xs,rfl,B14,ap,core.box ap K14⟩ ?_ ?_
   ·rintro j σ H15 hj ⟨y4,y9,y10,xs,rfl,QH,vS,wD⟩
    have hj3:j<3:=by omega
    have xO:ai<xs.length:=by rw[wD.l3];omega
    have hx:xs[ai]? =some xs[ai]:=by simp[xO]
    generalize xs[ai]=x at hx;obtain⟨ps,ts,L',pk,R,N,rs,ws,ms,cs,Z,hR,hN⟩:=wD.p ai _ hx;have GU:=List.mem_of_getElem? hx;refine⟨_,rfl,_,rfl,_,rfl,bo,_,_,_,rfl,rfl,bB.of wD.hb,dD (by rw[List.getElem?_map,hx];rfl),_,rfl,_,rfl,mo,_,_,_,rfl,rfl,bB.of wD.hm,dD (by rw[List.getElem?_map,hx];rfl),b,4+12*j,x.a,x.m,ps,ts,L',pk,R,N,rs,ws,ms,cs,rfl,QH,by omega,Z,fun z=>vS.2.2.1 x GU (.inl z),fun z=>vS.2.2.1 x GU (.inr z),by omega,by omega,fun a' m' Bk zQ u7 R' N' xW vL vQ uO WZ Z' ef ed ga gm kp kt B' hR' hN' => ?_⟩;have gI:∀d,(⟨a',m'⟩:Wd).In d→x.In d∨H15 d=none:=fun d h=>h.elim (fun h=>(ga d h).imp .inl id) (fun h=>(gm d h).imp .inr id);obtain⟨bz1,bz2,bz3,hbz,_⟩:=id QH;have W9:=wD.step (x' :=⟨a',m'⟩) (nf' :=fun _=>3*i+(j+1)) (b:=b) hx ef ed gI vS.2.2.2 vS.1 vS.2.1 vS.2.2.1 (fun d o h1 h2 e=>kp d o h1 (fun z=>h2 (.inl z)) (fun z=>h2 (.inr z)) e) kt ⟨Bk,zQ,L',u7,R',N',xW,vL,vQ,uO,Z',by omega,by omega⟩ (fun l _=>by omega);exact⟨_,_,_,_,rfl,B'.mono (by omega),vS.step hx gI ⟨_,hbz⟩,W9⟩
   ·rintro σ H15 ⟨y4,y9,y10,xs,rfl,QH,vS,wD⟩
    have wD:=wD.mono (nf' :=fun _=>3*(i+1)) fun l=>by show 3*i+(1+r).toNat≤3*(i+1);omega
    have QH:cX H15 b 100:=QH.mono (by omega);refine⟨_,rfl,_,rfl,?_⟩;refine zm (fun _=> ?_) (fun _=>⟨_,_,_,_,_,_,_,b,bo,mo,xs,100,3*(i+1),H,rfl,QH,by omega,vS,wD,by omega,fun H' c' y10=>⟨_,_,_,_,_,_,_,_,xs,rfl,c'⟩⟩);have xO:ai<xs.length:=by rw[wD.l3];omega
    have hx:xs[ai]? =some xs[ai]:=by simp[xO]
    generalize xs[ai]=x at hx;obtain⟨ps,ts,L',pk,R,N,rs,ws,ms,cs,Z,hR,hN⟩:=wD.p ai _ hx;have GU:=List.mem_of_getElem? hx;obtain⟨dx,ho⟩:=Z.h.ob;have Gs:=Z.G.ts;have hl:=Z.G.W.len;obtain⟨bz1,bz2,bz3,hbz,_⟩:=id QH;refine⟨_,rfl,_,rfl,bo,_,_,_,rfl,rfl,bB.of wD.hb,dD (by rw[List.getElem?_map,hx];rfl),_,dx,_,rfl,ho,aB (by decide+kernel),x.a,ps,ts,L',pk,R,N,rs,cs,rfl,Z.h,Z.G.lo,Z.G.hi,by omega,by omega,by omega,by omega,Z.r1,fun a2 Xv H17 fa F s17=> ?_⟩;refine⟨_,rfl,_,rfl,bo,_,_,oj,rfl,rfl,s17 _ _ wD.hb,qN (by rw[List.length_map,wD.l3];exact Qi),?_⟩
    have M18:aO (upd H17 bo (.lst ((xs.map fun x=>V.ref x.a.f).set oj (.ref a2.f)))) x.m ps ts L' pk R ws ms cs:=(Z.mo.same s17).kept fun c o hc e=>by
     rw[af (wD.nb x GU c (.inr hc)).1];exact e
    have XN:upd H17 bo (.lst ((xs.map fun x=>V.ref x.a.f).set oj (.ref a2.f))) mo=some (.lst (xs.map fun x=>V.ref x.m.d)):=by
     rw[af wD.bm.symm];exact s17 _ _ wD.hm
    refine⟨_,rfl,_,rfl,mo,_,_,_,rfl,rfl,bB.of XN,dD (by rw[List.getElem?_map,hx];rfl),x.m,ps,ts,L',pk,R,ws,ms,cs,rfl,M18,Z.r1,by omega,fun m2 Xc H19 M2 fm s19=> ?_⟩;refine⟨_,rfl,_,rfl,mo,_,_,oj,rfl,rfl,s19 _ _ XN,qN (by rw[List.length_map,wD.l3];exact Qi),?_⟩;obtain⟨Xj,YA,ahi⟩:=wD.twin hx Qi Z hR hN fa F s17 s19 M2 fm;have hx2:(xs.set oj ⟨a2,m2⟩)[oj]? =some ⟨a2,m2⟩:=List.getElem?_set_self (by rw[wD.l3];exact Qi);obtain⟨_,_,_,_,_,_,_,_,_,_,Z2,_⟩:=Xj.p oj _ hx2;obtain⟨YG,Wa⟩:=Z2.h.ob;refine⟨_,rfl,_,rfl,bo,_,_,_,rfl,rfl,bB.of Xj.hb,dD (by rw[List.getElem?_map,hx2];rfl),_,_,_,_,rfl,T.Gf.ty T.ar Wa,T.yQ,_,rfl,?_⟩;exact⟨_,_,_,_,_,_,_,b,bo,mo,_,100,3*(i+1),H,rfl,QH.kept fun o e=>YA b o vS.1 vS.2.1 e,by omega,ahi b vS ⟨_,hbz⟩,Xj,by omega,fun H' c' y10=>⟨_,_,_,_,_,_,_,_,_,rfl,c'⟩⟩
  ·rintro σ H9 ⟨x1,x4,x5,x6,x7,x8,x9,IE,xs,rfl,core⟩
   have core:=core.mono (nf' :=fun _=>90) fun l=>by show 3*n.toNat≤90;omega
   refine⟨_,rfl,bo,rfl,⟨_,bB.of core.hb⟩,?_⟩;have wC:(xs.map fun x=>V.ref x.a.f).length=3:=by rw[List.length_map,core.l3]
   refine eX (fun _=>false) (fun _=>V.bJ) (cV (bB.of core.hb)).g ?_ ?_ fun pc Fp hpc Eu O9=> ?_
   ·rw[wC];exact h3L
   ·intro l v H' C1 C0 hl sm hv c1 c0;rw[wC] at hl;obtain⟨x,hx⟩:=core.get hl;rw[List.getElem?_map,hx] at hv;cases hv;obtain⟨_,_,_,_,_,_,_,_,_,_,Z,_⟩:=(core.same sm).p l _ hx;obtain⟨dx,ho⟩:=Z.h.ob;exact⟨(gk.refl _).own (by decide),_,rfl,_,_,_,_,rfl,T.Gf.ty T.ar ho,T.wW,_,rfl,c0 rfl H' (au.refl H')⟩
   rw[List.filter_eq_nil_iff.mpr (fun _ _=>Bool.false_ne_true)] at O9;have O9:Fp pc=some (.lst ([]:az)):=O9;refine⟨(show 0≤sizeLine by decide),fun e0 Hw=> ?_⟩;have NX:=au.upd (o:= .lst []) Hw;refine⟨pc,e0,[],[],rfl,rfl,NX _ _ O9,ae,_,rfl,g9 ?_⟩;generalize upd Fp e0 (.lst [])=NT at NX;have c11:=(core.same Eu).same NX;refine⟨3,rfl,by decide,by decide,?_⟩;refine qI (lo:=0) (n:=3) (fun i σ H' =>∃(x1 x4 x5 x6 x7 x8 x9 IE:Option V),σ=[some (.ref a),x1,some (.ref bo),some (.ref mo),x4,x5,x6,x7,x8,x9,IE]∧Core A.aj H H' bo mo xs (fun _=>90)) ⟨_,_,_,_,_,_,_,_,rfl,c11⟩ ?_ ?_
   ·rintro i σ IB hi ⟨x1,x4,x5,x6,x7,x8,x9,IE,rfl,G1⟩
    obtain⟨x,hx⟩:=G1.get hi;obtain⟨ps,ts,L',pk,R,N,rs,ws,ms,cs,Z,hR,hN⟩:=G1.p i _ hx;have ei:(0:Int)+(i:Int)=i:=by omega
    have hds:∀H',au IB H'→∀d∈xs.map (fun x=>x.m.d),∃qs,Lm H' d qs:=fun H' s' d hd=>by
     obtain⟨y,hy,rfl⟩:=List.mem_map.mp hd;obtain⟨l,hl⟩:=List.mem_iff_getElem?.mp hy;obtain⟨ps,ts,L',pk,R,N,rs,ws,ms,cs,Z,hR,hN⟩:=(G1.same s').p l _ hl;refine⟨ws,y.m.wl,Z.mo.yR,Z.mo.wl,fun q hq=> ?_⟩;obtain⟨k,hk⟩:=List.mem_iff_getElem?.mp hq
     have hkl:k<R.length:=by
      have:=(List.getElem?_eq_some_iff.mp hk).1;rw[Z.mo.iB] at this;exact this
     have:=(Z.mo.way k hkl).2;rw[show ws.getD k 0=q by rw[List.getD_eq_getElem?_getD,hk];rfl] at this;exact⟨_,_,this⟩
    have aoq:=G1.hm;have emm:(xs.map fun x=>V.ref x.m.d)=(xs.map fun x=>x.m.d).map V.ref:=by rw[List.map_map];rfl
    refine⟨_,rfl,_,rfl,bo,_,_,_,rfl,rfl,bB.of G1.hb,(by show IL _ (0+(i:Int))=_;rw[ei];exact dD (by rw[List.getElem?_map,hx];rfl)),_,rfl,_,rfl,mo,_,_,_,rfl,rfl,bB.of G1.hm,(by show IL _ (0+(i:Int))=_;rw[ei];exact dD (by rw[List.getElem?_map,hx];rfl)),_,rfl,x.a,x.m,ps,ts,L',pk,R,N,rs,ws,ms,cs,mo,xs.map (fun x=>x.m.d),rfl,Z,by omega,(by rw[←emm];exact aoq),hds,fun H13 NK=>⟨_,rfl,?_⟩⟩;exact⟨_,_,_,_,_,_,_,_,rfl,G1.same NK⟩
   ·rintro σ IB ⟨x1,x4,x5,x6,x7,x8,x9,IE,rfl,G1⟩
    refine⟨3,rfl,by decide,by decide,?_⟩;refine HV (fun p i H' =>∃xs,H' p=some (.lst [])∧NG H bo mo xs p∧Core A.aj H H' bo mo xs (fun l=>if l<i then 300 else 90)) (fun p hp=>⟨xs,ae,G1.apart hp,(G1.same (au.upd hp)).mono fun l=>by simp⟩) (fun p i H' h=>by obtain⟨xs,h,_⟩:=h;exact h) ?_ ?_
    ·rintro p i H' C1 C0 hi ⟨xs,hp,ap,Qu⟩ c0
     obtain⟨x,hx⟩:=Qu.get hi;obtain⟨ps,ts,L',pk,R,N,rs,ws,ms,cs,Z,hR,hN⟩:=Qu.p i _ hx;simp only[Nat.lt_irrefl,if_false] at hR hN;have Gs:=Z.G.ts;have ei:(0:Int)+(i:Int)=i:=by omega
     refine⟨(gk.refl _).own (by decide),?_⟩;refine⟨_,rfl,_,rfl,bo,_,_,_,rfl,rfl,bB.of Qu.hb,(by show IL _ (0+(i:Int))=_;rw[ei];exact dD (by rw[List.getElem?_map,hx];rfl)),_,rfl,_,rfl,mo,_,_,_,rfl,rfl,bB.of Qu.hm,(by show IL _ (0+(i:Int))=_;rw[ei];exact dD (by rw[List.getElem?_map,hx];rfl)),x.a,x.m,ps,ts,L',pk,R,N,rs,ws,ms,cs,rfl,Z,by omega,by omega,fun a' m' Bk zQ u7 R' N' xW vL vQ uO WZ Z' ef ed ga gm kp kt hR' hN' => ?_⟩;have gI:∀d,(⟨a',m'⟩:Wd).In d→x.In d∨H' d=none:=fun d h=>h.elim (fun h=>(ga d h).imp .inl id) (fun h=>(gm d h).imp .inr id);have azX :=Z'.G.ts
     have W9:=Qu.step (x' :=⟨a',m'⟩) (nf' :=fun l=>if l<i+1 then 300 else 90) (b:=p) hx ef ed gI ap.2.2.2 ap.1 ap.2.1 ap.2.2.1 (fun d o h1 h2 e=>kp d o (fun z=>h2 (.inl z)) (fun z=>h2 (.inr z)) e) kt ⟨Bk,zQ,L',u7,R',N',xW,vL,vQ,uO,Z',by rw[if_pos (Nat.lt_succ_self i)];omega,by rw[if_pos (Nat.lt_succ_self i)];omega⟩ (fun l hl=>by
      split<;>split<;>omega)
     refine⟨_,rfl,c0 WZ ⟨_,kp _ _ (fun z=>ap.2.2.1 x (List.mem_of_getElem? hx) (.inl z)) (fun z=>ap.2.2.1 x (List.mem_of_getElem? hx) (.inr z)) hp,ap.step hx gI ⟨_,hp⟩,W9⟩⟩
    ·rintro p H' ⟨xs,hp,ap,Qu⟩
     refine⟨(show 0≤sizeLine by decide),fun e0 Hw=> ?_⟩;have s14:=au.upd (o:= .lst []) Hw;exact⟨p,e0,[],[],rfl,rfl,s14 _ _ hp,ae,.inr ⟨rfl,rfl,rfl,q _⟩⟩
end
theorem walk{l:PySem.W.OpenLaw}{q:Program}{loose:aX}{XP:(Str→aH)→Heap→Prop}{YP:World→Heap→Prop}{d:DefRec}{K:Params→Frag}(hn:l.most=some 63)(NZ:d.params.defaults=[])
 (hY:∀(w:World) (h:Heap),YP w h→(K w.params).In h)
 (F:∀(w:World) (mg:Str→aH) (fa:Addr) (h:Heap),(K w.params).In h→h.Ns mainGlobals mg→mg d.name=some (.ref fa)→
  ∃fd:FuncData,(∀(s:Shared) (u:Value),BindsTo s fd ⟨[u],[]⟩ [("_law_script",u)])∧∀base:Heap,(K w.params).In base→base.Ns mainGlobals mg→aV l.prog w (K w.params) mg base eJ 11 fa fd ["_law_script"] (FA (K w.params))):
 PySem.W.WalkO q loose XP YP l.row.toRowW d [] (fun f vs=>PySem.call f vs):=
 L2.OW (n:=63) (k:=11) (x:="_law_script") (CX:=fun _=>eJ) (sp:=fun w=>FA (K w.params)) hn (by decide) NZ ⟨rfl,by decide,by decide,rfl⟩ hY F (fun _ _ a ns hl _ hS=>⟨a,ns,rfl,hS,hl,fun _=>rfl⟩) fun _ _ _ _ _ z=>z
theorem VS{l:PySem.W.OpenLaw}{w:World}{K:Frag}{h:Heap}{mg:Str→aH}{fa:Addr}(X:K.In h)(G:h.Ns mainGlobals mg)(UI:mg "law"=some (.ref fa))(hT:∃A:qH,Txt K mg A):
 ∃fd:FuncData,(∀(s:Shared) (u:Value),BindsTo s fd ⟨[u],[]⟩ [("_law_script",u)])∧∀base:Heap,K.In base→base.Ns mainGlobals mg→aV l.prog w K mg base eJ 11 fa fd ["_law_script"] (FA K):=by
 obtain⟨A,T⟩:=hT;have e:=UI.symm.trans T.Y9;cases e;exact⟨A.CO,T.abR,fun base _ _=>Ux T⟩
abbrev fS(n q:Str)(s:Stmt)(kV dc pm:Value)(an:Option Addr)(cd ct:Value):FuncData:=fnOf n q (oC s) (kq s) (av s) .none kV dc pm an cd ct
abbrev LK(K:Frag)(f:Addr)(n q:Str)(s:Stmt)(kV dc pm:Value)(an:Option Addr)(cd ct oc:Value)(od:Option Addr)(sl:Array (aH)):Prop:=K.lookup f=some ⟨oc,od,.func (fS n q s kV dc pm an cd ct),sl⟩
theorem fm{K:Frag}{f:Addr}{n q:Str}{s:Stmt}{kV dc pm:Value}{an:Option Addr}{cd ct oc:Value}{od:Option Addr}{sl:Array (aH)}(l:LK K f n q s kV dc pm an cd ct oc od sl)(c:PySem.W.codeIn K cd q=true)(k:PySem.W.keepIn K (.ref f)=true):fc K n q s f (fS n q s kV dc pm an cd ct):=US (st:=s) l c k
theorem As{P:aA→Prop}(h:∀a,P [a]):∀us:aA,us.length=1→P us:=fun us hl=>match us,hl with|[_],_=>h _
theorem pJ{P:aA→Prop}(h:∀a b,P [a,b]):∀us:aA,us.length=2→P us:=fun us hl=>match us,hl with|[_,_],_=>h _ _
theorem P_{P:aA→Prop}(h:∀a b c,P [a,b,c]):∀us:aA,us.length=3→P us:=fun us hl=>match us,hl with|[_,_,_],_=>h _ _ _
theorem bn4{P:aA→Prop}(h:∀a b c d,P [a,b,c,d]):∀us:aA,us.length=4→P us:=fun us hl=>match us,hl with|[_,_,_,_],_=>h _ _ _ _
open PySem.W (nsIn findIn isFn codeIn keepIn typeIn specialIn readsIn findCls mroIn hasDictIn plainGet plainOver makesIn takesIn mg_of mg_none_of) in
theorem UD{K:Frag}{h:Heap}{mg:Str→aH}(X:K.In h)(G:h.Ns mainGlobals mg)
 {zO:Addr}
 {BV:Addr}
 {AY:Addr}
 {BU:Addr}
 {BZ:Addr}
 {zd:Addr}
 {jI:Addr}
 {f0 f1 f2 f3 f4 f5 f6 f7 f8 f9 f10 f11 Wv f13 f14 Sr f16 Ze XS f19 YV f21 Vi f23 YI Wn f26 Yq f28 f29 f30 f31 Vq f33 f34 V_ XO XQ f38 f39 f40 f41 W7 f43 f44 W5 f46 f47 f48 f49 f50 f51 f52 f53 f54 f55 f56 f57 f58 f59 f60 f61 f62 f63 f64 f65:Addr} {od0 an0 od1 an1 od2 an2 od3 an3 od4 an4 od5 an5 od6 an6 od7 an7 od8 an8 od9 an9 alx apK ahA anF al8 apj aoj ae6 amq agz aiL al3 ap8 ajV afM aox aeC akM ajI ag8 aeE akp akF ahl afl amD afn ajE ak8 akV ant aeH aoM ape ahx aoV agM aon afo ahZ ajY ahk ahy ajs aiR afF apY alR akC aek aeO aex al2 aiO amJ ago amw anC ahf ag0 aeX aiu apt anV ae9 anh agd alv ae3 alq ako afV af0 ajg alI aeR akY aiX afG aoA ahR apW aly ajv aof akN agL agj aiC aoo aph ak6 anH ak5 akl aiq ahK am4 akd ajA aji amV ali aix ahW anq af3 aiZ afw akI aeP aiS:Option Addr} {sl0 sl1 Xf WY sl4 sl5 sl6 sl7 sl8 sl9 afi ahM afT akq ak0 ajZ anQ al6 ai9 ai5 ag6 afe ahT amM anz apc ane aeg aew am_ ala apk aiF aeV apS aoY alJ aiA ahQ ae1 ajC alG apa aes amd anZ alN alf ag_ afa aki ag4 ag2 am0 alh ai6 amh ah4 anD alD ak4 aoR ag1 amb aib apB:Array (aH)} {oc0 kV0 dc0 pm0 cd0 ct0 oc1 kV1 dc1 pm1 cd1 ct1 oc2 kV2 dc2 pm2 cd2 ct2 oc3 kV3 dc3 pm3 cd3 ct3 oc4 kV4 dc4 pm4 cd4 ct4 oc5 kV5 dc5 pm5 cd5 ct5 oc6 kV6 dc6 pm6 cd6 ct6 oc7 kV7 dc7 pm7 cd7 ct7 oc8 kV8 dc8 pm8 cd8 ct8 oc9 kV9 dc9 pm9 cd9 ct9 apg ald akh alw aav am5 aoK amc am8 apb abD alZ alm amW aiK aj7 aag am6 apJ aiQ amO am2 ZT ajq apX agQ agK aeh aa2 amH ait ajo anP aoO acz anx agG alo agl ai1 YT aej afg apy akL ahF ace afI amg aeL ah9 agJ Yb ahV aoy ap9 agE alE abm afb agR aet ao2 anK aaV ahB aeQ amE apl ap7 XD aiz ajj anj afd amG ZG ahm aj5 apM aop anY YD amS ahU ahz ag7 aen Yo aif anN ajk alX aow abt agk apA aih alB alV Y4 ahb alr agN ah8 apm acO aik ahS agh aqe aim ZN agc anm ag9 alU aeT acr ajB ajP amI aoQ af2 aaE ael agm amY alW aiJ aar agF ahE ah5 ans aic Zi apE alM aky ahp af7 YN akj aeK af_ ao4 alK abu ajy afX amy afp alT abF apH af9 ajr aj3 ahr aab akb alH agV agZ ani abM ajw alk ahJ al1 aid Yp ai3 aiI air apo aoH ZP alA aey aot amU aeI Zf agp amf aeW ahv aml aaa aj2 afW agY aoF apR Y8 aov ah6 ajn ajx af4 Yk afP apP alY anS anu abN aoG agA ahq agI ajb Zo aeU akt aiD aeS apd YU afz agn akf akH amC ZO apU aoB am7 agT aeB abI aoa anM apn aiM apw abi apC aqd ae8 akx anl Y7 ahX akG ajQ amK ak3 abQ aos aoz ai4 akD af5 aaC aoS api afc aiG ae2 Zn anI ami ang akK aoE abr anw ano aoI aog alS ZA aeF amA ae_ alg af1 Zw ale amT ajT anc ajG X5 amL aoD agg ao7 apT Yg aft aj4 anf agw al9 YC agD apV ama ajd aoN Zz ahY af8 ai8 aoh ap6 Ye amr afk ain ahg aiE abS apO afh agX ajD amm abP ai0 aoL aev ah3 ajU aaB ak2 ae4 afv agy agi XF ak1:Value}
 {Qp q_0:Str} {N_0:Addr} {OO C6:aA} {Oz:aX} {sub_0:aA} {N0:Bool} {Gm:Option Bool} {Qc:Option Addr} {Qg OR Om O_ Pr:aH}
 {JK q_1:Str} {Yi:Addr} {J2 yB:aA} {JR:aX} {B9:aA} {JP:Bool} {Dk:Option Bool} {LU:Option Addr} {L0 Ls Jb L8 Kx:aH}
 {Kz q_2:Str} {Zt:Addr} {LL yt:aA} {Kp:aX} {Dp:aA} {Ll:Bool} {Cr:Option Bool} {KU:Option Addr} {LI JG Lr MF JC:aH}
 {Kt q_3:Str} {ZL:Addr} {Km yv:aA} {Li:aX} {Cz:aA} {Ku:Bool} {DL:Option Bool} {Mc:Option Addr} {Mr Ng IU Mq IY:aH}
 {MT q_4:Str} {N_4:Addr} {Ml yH:aA} {MC:aX} {Dn:aA} {JY:Bool} {CI:Option Bool} {JQ:Option Addr} {JD Ju LR Ma Nk:aH}
 {sV:Tok}
 {oI:Tok}
 {fq:Tok}
 {mF:Tok}
 (c_0:nsIn K mainGlobals "RoomError"=some (some (.ref zO)))
 (c_1:nsIn K mainGlobals "NoValue"=some (some (.ref BV)))
 (c_2:nsIn K mainGlobals "Gone"=some (some (.ref AY)))
 (c_3:nsIn K mainGlobals "NoWay"=some (some (.ref BU)))
 (c_4:nsIn K mainGlobals "NoCell"=some (some (.ref BZ)))
 (c_5:nsIn K mainGlobals "Frames"=some (some (.ref zd)))
 (c_6:nsIn K mainGlobals "House"=some (some (.ref jI)))
 (a0:findIn K (.ref zO) "__init__"=some (some (.ref f0)))
 (i0:isFn K (.ref f0)=true)
 (l0:LK K f0 "__init__" "RoomError.__init__" cF kV0 dc0 pm0 an0 cd0 ct0 oc0 od0 sl0) (c0:codeIn K cd0 "RoomError.__init__"=true) (k0:keepIn K (.ref f0)=true)
 (a1:findIn K (.ref BV) "__init__"=some (some (.ref f1)))
 (i1:isFn K (.ref f1)=true)
 (l1:LK K f1 "__init__" "NoValue.__init__" dg kV1 dc1 pm1 an1 cd1 ct1 oc1 od1 sl1) (c1:codeIn K cd1 "NoValue.__init__"=true) (k1:keepIn K (.ref f1)=true)
 (a2:findIn K (.ref AY) "__init__"=some (some (.ref f2)))
 (i2:isFn K (.ref f2)=true)
 (l2:LK K f2 "__init__" "Gone.__init__" eK kV2 dc2 pm2 an2 cd2 ct2 oc2 od2 Xf) (c2:codeIn K cd2 "Gone.__init__"=true) (k2:keepIn K (.ref f2)=true)
 (a3:findIn K (.ref BU) "__init__"=some (some (.ref f3)))
 (i3:isFn K (.ref f3)=true)
 (l3:LK K f3 "__init__" "NoWay.__init__" d5 kV3 dc3 pm3 an3 cd3 ct3 oc3 od3 WY) (c3:codeIn K cd3 "NoWay.__init__"=true) (k3:keepIn K (.ref f3)=true)
 (a4:findIn K (.ref BZ) "__init__"=some (some (.ref f4)))
 (i4:isFn K (.ref f4)=true)
 (l4:LK K f4 "__init__" "NoCell.__init__" dA kV4 dc4 pm4 an4 cd4 ct4 oc4 od4 sl4) (c4:codeIn K cd4 "NoCell.__init__"=true) (k4:keepIn K (.ref f4)=true)
 (a5:nsIn K mainGlobals "is_number"=some (some (.ref f5)))
 (l5:LK K f5 "is_number" "is_number" jg kV5 dc5 pm5 an5 cd5 ct5 oc5 od5 sl5) (c5:codeIn K cd5 "is_number"=true) (k5:keepIn K (.ref f5)=true)
 (a6:nsIn K mainGlobals "is_whole"=some (some (.ref f6)))
 (l6:LK K f6 "is_whole" "is_whole" kX kV6 dc6 pm6 an6 cd6 ct6 oc6 od6 sl6) (c6:codeIn K cd6 "is_whole"=true) (k6:keepIn K (.ref f6)=true)
 (a7:nsIn K mainGlobals "is_count"=some (some (.ref f7)))
 (l7:LK K f7 "is_count" "is_count" lh kV7 dc7 pm7 an7 cd7 ct7 oc7 od7 sl7) (c7:codeIn K cd7 "is_count"=true) (k7:keepIn K (.ref f7)=true)
 (a8:nsIn K mainGlobals "is_pair"=some (some (.ref f8)))
 (l8:LK K f8 "is_pair" "is_pair" m9 kV8 dc8 pm8 an8 cd8 ct8 oc8 od8 sl8) (c8:codeIn K cd8 "is_pair"=true) (k8:keepIn K (.ref f8)=true)
 (a9:findIn K (.ref zd) "__init__"=some (some (.ref f9)))
 (i9:isFn K (.ref f9)=true)
 (l9:LK K f9 "__init__" "Frames.__init__" dI kV9 dc9 pm9 an9 cd9 ct9 oc9 od9 sl9) (c9:codeIn K cd9 "Frames.__init__"=true) (k9:keepIn K (.ref f9)=true)
 (a10:findIn K (.ref jI) "begin"=some (some (.ref f10)))
 (i10:isFn K (.ref f10)=true)
 (l10:LK K f10 "begin" "Frames.begin" fM ald akh alw apK aav am5 apg alx afi) (c10:codeIn K aav "Frames.begin"=true) (k10:keepIn K (.ref f10)=true)
 (a11:findIn K (.ref jI) "finish"=some (some (.ref f11)))
 (i11:isFn K (.ref f11)=true)
 (l11:LK K f11 "finish" "Frames.finish" eR amc am8 apb anF abD alZ aoK ahA ahM) (c11:codeIn K abD "Frames.finish"=true) (k11:keepIn K (.ref f11)=true)
 (a12:findIn K (.ref jI) "part"=some (some (.ref Wv)))
 (i12:isFn K (.ref Wv)=true)
 (l12:LK K Wv "part" "Frames.part" gw amW aiK aj7 apj aag am6 alm al8 afT) (G1:codeIn K aag "Frames.part"=true) (k12:keepIn K (.ref Wv)=true)
 (a13:findIn K (.ref jI) "inside"=some (some (.ref f13)))
 (i13:isFn K (.ref f13)=true)
 (l13:LK K f13 "inside" "Frames.inside" eP aiQ amO am2 ae6 ZT ajq apJ aoj akq) (Qu:codeIn K ZT "Frames.inside"=true) (k13:keepIn K (.ref f13)=true)
 (a14:findIn K (.ref jI) "row"=some (some (.ref f14)))
 (i14:isFn K (.ref f14)=true)
 (l14:LK K f14 "row" "Frames.row" iK agQ agK aeh agz aa2 amH apX amq ak0) (c14:codeIn K aa2 "Frames.row"=true) (k14:keepIn K (.ref f14)=true)
 (a15:findIn K (.ref jI) "ended_by"=some (some (.ref Sr)))
 (i15:isFn K (.ref Sr)=true)
 (Zq:LK K Sr "ended_by" "Frames.ended_by" dC ajo anP aoO al3 acz anx ait aiL ajZ) (wD:codeIn K acz "Frames.ended_by"=true) (k15:keepIn K (.ref Sr)=true)
 (a16:findIn K (.ref jI) "stands"=some (some (.ref f16)))
 (i16:isFn K (.ref f16)=true)
 (l16:LK K f16 "stands" "Frames.stands" eU alo agl ai1 ajV YT aej agG ap8 anQ) (W9:codeIn K YT "Frames.stands"=true) (k16:keepIn K (.ref f16)=true)
 (a17:findIn K (.ref jI) "standing"=some (some (.ref Ze)))
 (i17:isFn K (.ref Ze)=true)
 (l17:LK K Ze "standing" "Frames.standing" dv apy akL ahF aox ace afI afg afM al6) (c17:codeIn K ace "Frames.standing"=true) (k17:keepIn K (.ref Ze)=true)
 (a18:findIn K (.ref jI) "begun"=some (some (.ref XS)))
 (i18:isFn K (.ref XS)=true)
 (l18:LK K XS "begun" "Frames.begun" fH aeL ah9 agJ akM Yb ahV amg aeC ai9) (c18:codeIn K Yb "Frames.begun"=true) (k18:keepIn K (.ref XS)=true)
 (a19:findIn K (.ref jI) "was_begun"=some (some (.ref f19)))
 (i19:isFn K (.ref f19)=true)
 (l19:LK K f19 "was_begun" "Frames.was_begun" cT ap9 agE alE ag8 abm afb aoy ajI ai5) (c19:codeIn K abm "Frames.was_begun"=true) (k19:keepIn K (.ref f19)=true)
 (a20:findIn K (.ref jI) "want_begun"=some (some (.ref YV)))
 (i20:isFn K (.ref YV)=true)
 (l20:LK K YV "want_begun" "Frames.want_begun" cM aet ao2 anK akp aaV ahB agR aeE ag6) (Xj:codeIn K aaV "Frames.want_begun"=true) (YA:keepIn K (.ref YV)=true)
 (a21:findIn K (.ref jI) "want_standing"=some (some (.ref f21)))
 (i21:isFn K (.ref f21)=true)
 (l21:LK K f21 "want_standing" "Frames.want_standing" cj amE apl ap7 ahl XD aiz aeQ akF afe) (c21:codeIn K XD "Frames.want_standing"=true) (k21:keepIn K (.ref f21)=true)
 (a22:findIn K (.ref jI) "want_beginning"=some (some (.ref Vi)))
 (i22:isFn K (.ref Vi)=true)
 (l22:LK K Vi "want_beginning" "Frames.want_beginning" bZ anj afd amG amD ZG ahm ajj afl ahT) (c22:codeIn K ZG "Frames.want_beginning"=true) (k22:keepIn K (.ref Vi)=true)
 (a23:findIn K (.ref jI) "want_finishing"=some (some (.ref f23)))
 (i23:isFn K (.ref f23)=true)
 (l23:LK K f23 "want_finishing" "Frames.want_finishing" b7 apM aop anY ajE YD amS aj5 afn amM) (c23:codeIn K YD "Frames.want_finishing"=true) (WR:keepIn K (.ref f23)=true)
 (a24:findIn K (.ref jI) "__init__"=some (some (.ref YI)))
 (i24:isFn K (.ref YI)=true)
 (l24:LK K YI "__init__" "House.__init__" dU ahz ag7 aen akV Yo aif ahU ak8 anz) (c24:codeIn K Yo "House.__init__"=true) (k24:keepIn K (.ref YI)=true)
 (a25:findIn K (.ref jI) "make"=some (some (.ref Wn)))
 (i25:isFn K (.ref Wn)=true)
 (l25:LK K Wn "make" "House.make" ig ajk alX aow aeH abt agk anN ant apc) (c25:codeIn K abt "House.make"=true) (k25:keepIn K (.ref Wn)=true)
 (a26:findIn K (.ref jI) "get"=some (some (.ref f26)))
 (i26:isFn K (.ref f26)=true)
 (l26:LK K f26 "get" "House.get" jv aih alB alV ape Y4 ahb apA aoM ane) (c26:codeIn K Y4 "House.get"=true) (k26:keepIn K (.ref f26)=true)
 (a27:findIn K (.ref jI) "put"=some (some (.ref Yq)))
 (i27:isFn K (.ref Yq)=true)
 (l27:LK K Yq "put" "House.put" jm agN ah8 apm aoV acO aik alr ahx aeg) (c27:codeIn K acO "House.put"=true) (k27:keepIn K (.ref Yq)=true)
 (a28:findIn K (.ref jI) "size"=some (some (.ref f28)))
 (i28:isFn K (.ref f28)=true)
 (l28:LK K f28 "size" "House.size" il agh aqe aim aon ZN agc ahS agM aew) (c28:codeIn K ZN "House.size"=true) (k28:keepIn K (.ref f28)=true)
 (a29:findIn K (.ref jI) "cells"=some (some (.ref f29)))
 (i29:isFn K (.ref f29)=true)
 (l29:LK K f29 "cells" "House.cells" gg ag9 alU aeT ahZ acr ajB anm afo am_) (c29:codeIn K acr "House.cells"=true) (k29:keepIn K (.ref f29)=true)
 (a30:findIn K (.ref jI) "used"=some (some (.ref f30)))
 (i30:isFn K (.ref f30)=true)
 (l30:LK K f30 "used" "House.used" iL amI aoQ af2 ahk aaE ael ajP ajY ala) (c30:codeIn K aaE "House.used"=true) (k30:keepIn K (.ref f30)=true)
 (a31:findIn K (.ref jI) "left"=some (some (.ref f31)))
 (i31:isFn K (.ref f31)=true)
 (l31:LK K f31 "left" "House.left" iC amY alW aiJ ajs aar agF agm ahy apk) (c31:codeIn K aar "House.left"=true) (k31:keepIn K (.ref f31)=true)
 (a32:findIn K (.ref jI) "limit"=some (some (.ref Vq)))
 (i32:isFn K (.ref Vq)=true)
 (l32:LK K Vq "limit" "House.limit" gx ah5 ans aic afF Zi apE ahE aiR aiF) (c32:codeIn K Zi "House.limit"=true) (k32:keepIn K (.ref Vq)=true)
 (a33:findIn K (.ref jI) "greatest"=some (some (.ref f33)))
 (i33:isFn K (.ref f33)=true)
 (l33:LK K f33 "greatest" "House.greatest" dZ aky ahp af7 alR YN akj alM apY aeV) (c33:codeIn K YN "House.greatest"=true) (k33:keepIn K (.ref f33)=true)
 (a34:findIn K (.ref jI) "rooms"=some (some (.ref f34)))
 (i34:isFn K (.ref f34)=true)
 (l34:LK K f34 "rooms" "House.rooms" gv af_ ao4 alK aek abu ajy aeK akC apS) (c34:codeIn K abu "House.rooms"=true) (WM:keepIn K (.ref f34)=true)
 (a35:findIn K (.ref jI) "picture"=some (some (.ref V_)))
 (i35:isFn K (.ref V_)=true)
 (l35:LK K V_ "picture" "House.picture" eO amy afp alT aex abF apH afX aeO aoY) (c35:codeIn K abF "House.picture"=true) (k35:keepIn K (.ref V_)=true)
 (a36:findIn K (.ref jI) "picture_of"=some (some (.ref XO)))
 (i36:isFn K (.ref XO)=true)
 (l36:LK K XO "picture_of" "House.picture_of" cW ajr aj3 ahr aiO aab akb af9 al2 alJ) (c36:codeIn K aab "House.picture_of"=true) (k36:keepIn K (.ref XO)=true)
 (a37:findIn K (.ref jI) "twin"=some (some (.ref XQ)))
 (i37:isFn K (.ref XQ)=true)
 (l37:LK K XQ "twin" "House.twin" iD agV agZ ani ago abM ajw alH amJ aiA) (c37:codeIn K abM "House.twin"=true) (k37:keepIn K (.ref XQ)=true)
 (a38:findIn K (.ref jI) "is_way"=some (some (.ref f38)))
 (i38:isFn K (.ref f38)=true)
 (l38:LK K f38 "is_way" "House.is_way" fB ahJ al1 aid anC Yp ai3 alk amw ahQ) (c38:codeIn K Yp "House.is_way"=true) (k38:keepIn K (.ref f38)=true)
 (a39:findIn K (.ref jI) "is_value"=some (some (.ref f39)))
 (i39:isFn K (.ref f39)=true)
 (l39:LK K f39 "is_value" "House.is_value" d6 air apo aoH ag0 ZP alA aiI ahf ae1) (c39:codeIn K ZP "House.is_value"=true) (k39:keepIn K (.ref f39)=true)
 (a40:findIn K (.ref jI) "want_room"=some (some (.ref f40)))
 (i40:isFn K (.ref f40)=true)
 (l40:LK K f40 "want_room" "House.want_room" dJ aot amU aeI aiu Zf agp aey aeX ajC) (c40:codeIn K Zf "House.want_room"=true) (k40:keepIn K (.ref f40)=true)
 (a41:nsIn K mainGlobals "want_cell"=some (some (.ref f41)))
 (l41:LK K f41 "want_cell" "want_cell" ju aeW ahv aml anV aaa aj2 amf apt alG) (c41:codeIn K aaa "want_cell"=true) (k41:keepIn K (.ref f41)=true)
 (a42:nsIn K mainGlobals "_law_cell"=some (some (.ref W7)))
 (l42:LK K W7 "_law_cell" "_law_cell" jB agY aoF apR anh Y8 aov afW ae9 apa) (c42:codeIn K Y8 "_law_cell"=true) (k42:keepIn K (.ref W7)=true)
 (a43:nsIn K mainGlobals "_law_box"=some (some (.ref f43)))
 (l43:LK K f43 "_law_box" "_law_box" lj ajn ajx af4 alv Yk afP ah6 agd aes) (c43:codeIn K Yk "_law_box"=true) (k43:keepIn K (.ref f43)=true)
 (a44:nsIn K mainGlobals "_law_take"=some (some (.ref f44)))
 (l44:LK K f44 "_law_take" "_law_take" jG alY anS anu alq abN aoG apP ae3 amd) (c44:codeIn K abN "_law_take"=true) (k44:keepIn K (.ref f44)=true)
 (a45:nsIn K mainGlobals "_law_house"=some (some (.ref W5)))
 (l45:LK K W5 "_law_house" "_law_house" hU ahq agI ajb afV Zo aeU agA ako anZ) (c45:codeIn K Zo "_law_house"=true) (k45:keepIn K (.ref W5)=true)
 (a46:nsIn K mainGlobals "_law_standing"=some (some (.ref f46)))
 (l46:LK K f46 "_law_standing" "_law_standing" eM aiD aeS apd ajg YU afz akt af0 alN) (c46:codeIn K YU "_law_standing"=true) (k46:keepIn K (.ref f46)=true)
 (a47:nsIn K mainGlobals "_law_row"=some (some (.ref f47)))
 (l47:LK K f47 "_law_row" "_law_row" ly akf akH amC aeR ZO apU agn alI alf) (c47:codeIn K ZO "_law_row"=true) (k47:keepIn K (.ref f47)=true)
 (a48:nsIn K mainGlobals "_law_begin"=some (some (.ref f48)))
 (l48:LK K f48 "_law_begin" "_law_begin" ix am7 agT aeB aiX abI aoa aoB akY ag_) (c48:codeIn K abI "_law_begin"=true) (k48:keepIn K (.ref f48)=true)
 (a49:nsIn K mainGlobals "_law_finish"=some (some (.ref f49)))
 (l49:LK K f49 "_law_finish" "_law_finish" gh apn aiM apw aoA abi apC anM afG afa) (c49:codeIn K abi "_law_finish"=true) (k49:keepIn K (.ref f49)=true)
 (a50:nsIn K mainGlobals "_law_given"=some (some (.ref f50)))
 (l50:LK K f50 "_law_given" "_law_given" iu ae8 akx anl apW Y7 ahX aqd ahR aki) (c50:codeIn K Y7 "_law_given"=true) (k50:keepIn K (.ref f50)=true)
 (a51:nsIn K mainGlobals "_law_used"=some (some (.ref f51)))
 (l51:LK K f51 "_law_used" "_law_used" jd ajQ amK ak3 ajv abQ aos akG aly ag4) (c51:codeIn K abQ "_law_used"=true) (k51:keepIn K (.ref f51)=true)
 (a52:nsIn K mainGlobals "_law_make"=some (some (.ref f52)))
 (l52:LK K f52 "_law_make" "_law_make" jq ai4 akD af5 akN aaC aoS aoz aof ag2) (c52:codeIn K aaC "_law_make"=true) (k52:keepIn K (.ref f52)=true)
 (a53:nsIn K mainGlobals "_law_one"=some (some (.ref f53)))
 (l53:LK K f53 "_law_one" "_law_one" kJ afc aiG ae2 agj Zn anI api agL am0) (c53:codeIn K Zn "_law_one"=true) (k53:keepIn K (.ref f53)=true)
 (a54:nsIn K mainGlobals "_law_value"=some (some (.ref f54)))
 (l54:LK K f54 "_law_value" "_law_value" ij ang akK aoE aoo abr anw ami aiC alh) (c54:codeIn K abr "_law_value"=true) (k54:keepIn K (.ref f54)=true)
 (a55:nsIn K mainGlobals "_law_here"=some (some (.ref f55)))
 (l55:LK K f55 "_law_here" "_law_here" jl aoI aog alS ak6 ZA aeF ano aph ai6) (c55:codeIn K ZA "_law_here"=true) (k55:keepIn K (.ref f55)=true)
 (a56:nsIn K mainGlobals "_law_deed"=some (some (.ref f56)))
 (l56:LK K f56 "_law_deed" "_law_deed" je ae_ alg af1 ak5 Zw ale amA anH amh) (c56:codeIn K Zw "_law_deed"=true) (k56:keepIn K (.ref f56)=true)
 (a57:nsIn K mainGlobals "_law_picture"=some (some (.ref f57)))
 (l57:LK K f57 "_law_picture" "_law_picture" fC ajT anc ajG aiq X5 amL amT akl ah4) (c57:codeIn K X5 "_law_picture"=true) (k57:keepIn K (.ref f57)=true)
 (a58:nsIn K mainGlobals "_law_copy"=some (some (.ref f58)))
 (l58:LK K f58 "_law_copy" "_law_copy" jx agg ao7 apT am4 Yg aft aoD ahK anD) (c58:codeIn K Yg "_law_copy"=true) (k58:keepIn K (.ref f58)=true)
 (a59:nsIn K mainGlobals "_law_by"=some (some (.ref f59)))
 (l59:LK K f59 "_law_by" "_law_by" mL anf agw al9 ajA YC agD aj4 akd alD) (c59:codeIn K YC "_law_by"=true) (k59:keepIn K (.ref f59)=true)
 (a60:nsIn K mainGlobals "_law_caught"=some (some (.ref f60)))
 (l60:LK K f60 "_law_caught" "_law_caught" gp ama ajd aoN amV Zz ahY apV aji ak4) (c60:codeIn K Zz "_law_caught"=true) (k60:keepIn K (.ref f60)=true)
 (a61:nsIn K mainGlobals "_law_apart"=some (some (.ref f61)))
 (l61:LK K f61 "_law_apart" "_law_apart" g_ ai8 aoh ap6 aix Ye amr af8 ali aoR) (c61:codeIn K Ye "_law_apart"=true) (k61:keepIn K (.ref f61)=true)
 (a62:nsIn K mainGlobals "_law_no_cell"=some (some (.ref f62)))
 (l62:LK K f62 "_law_no_cell" "_law_no_cell" fJ ain ahg aiE anq abS apO afk ahW ag1) (c62:codeIn K abS "_law_no_cell"=true) (k62:keepIn K (.ref f62)=true)
 (a63:nsIn K mainGlobals "_law_rooms_right"=some (some (.ref f63)))
 (l63:LK K f63 "_law_rooms_right" "_law_rooms_right" cU agX ajD amm aiZ abP ai0 afh af3 amb) (c63:codeIn K abP "_law_rooms_right"=true) (k63:keepIn K (.ref f63)=true)
 (a64:nsIn K mainGlobals "_law_right"=some (some (.ref f64)))
 (l64:LK K f64 "_law_right" "_law_right" iF aev ah3 ajU akI aaB ak2 aoL afw aib) (c64:codeIn K aaB "_law_right"=true) (k64:keepIn K (.ref f64)=true)
 (a65:nsIn K mainGlobals "law"=some (some (.ref f65)))
 (l65:LK K f65 "law" "law" CW afv agy agi aiS XF ak1 ae4 aeP apB) (c65:codeIn K XF "law"=true) (k65:keepIn K (.ref f65)=true)
 (x_0:K.lookup zO=some (excClassObj Qp q_0 zO N_0 OO C6 true Oz sub_0 N0 Gm Qc Qg OR Om O_ Pr "ValueError.__new__"))
 (t_0:gC C6)
 (afK:typeIn K (.ref f0)=some (.type "function")) (alO:keepIn K (.ref zO)=true) (aeY:specialIn K (.ref zO) "__getattribute__"=some (some (.builtin "type.__getattribute__"))) (aqb:readsIn K zO (.type "type")=true) (ahh:findCls K (.ref zO) (.type "type") "__init__"=some (.val (.ref f0)))
 (am9:∀self,refuseLoop self "__setattr__" C6=pure ())
 (am1:C6.contains (.type "object")=true)
 (ak9:findIn K (.ref zO) "__setattr__"=some (some (.builtin "object.__setattr__"))) (amj:findIn K (.ref zO) "__getattribute__"=some (some (.builtin "BaseException.__getattribute__"))) (agH:findIn K (.ref zO) "__getattr__"=some none) (agP:mroIn K zO (.type "BaseException")=some true) (aeu:hasDictIn K zO=true)
 (YW:(Value.ref zO::C6).contains (.ref zO)=true)
 (x_1:K.lookup BV=some (excClassObj JK q_1 BV Yi J2 yB true JR B9 JP Dk LU L0 Ls Jb L8 Kx "ValueError.__new__"))
 (t_1:gC yB)
 (ao3:typeIn K (.ref f1)=some (.type "function")) (apF:keepIn K (.ref BV)=true) (akz:specialIn K (.ref BV) "__getattribute__"=some (some (.builtin "type.__getattribute__"))) (aoi:readsIn K BV (.type "type")=true) (aob:findCls K (.ref BV) (.type "type") "__init__"=some (.val (.ref f1)))
 (akm:∀self,refuseLoop self "__setattr__" yB=pure ())
 (ana:yB.contains (.type "object")=true)
 (aln:findIn K (.ref BV) "__setattr__"=some (some (.builtin "object.__setattr__"))) (aha:findIn K (.ref BV) "__getattribute__"=some (some (.builtin "BaseException.__getattribute__"))) (agU:findIn K (.ref BV) "__getattr__"=some none) (aok:mroIn K BV (.type "BaseException")=some true) (aeo:hasDictIn K BV=true)
 (Yv:(Value.ref BV::yB).contains (.ref BV)=true)
 (zp:(Value.ref BV::yB).contains (.ref zO)=true)
 (HN:findIn K (.ref BV) "found"=some none)
 (x_2:K.lookup AY=some (excClassObj Kz q_2 AY Zt LL yt true Kp Dp Ll Cr KU LI JG Lr MF JC "ValueError.__new__"))
 (t_2:gC yt)
 (ae5:typeIn K (.ref f2)=some (.type "function")) (ahw:keepIn K (.ref AY)=true) (aoC:specialIn K (.ref AY) "__getattribute__"=some (some (.builtin "type.__getattribute__"))) (ajJ:readsIn K AY (.type "type")=true) (afj:findCls K (.ref AY) (.type "type") "__init__"=some (.val (.ref f2)))
 (akJ:∀self,refuseLoop self "__setattr__" yt=pure ())
 (ah7:yt.contains (.type "object")=true)
 (amo:findIn K (.ref AY) "__setattr__"=some (some (.builtin "object.__setattr__"))) (akc:findIn K (.ref AY) "__getattribute__"=some (some (.builtin "BaseException.__getattribute__"))) (aoP:findIn K (.ref AY) "__getattr__"=some none) (amk:mroIn K AY (.type "BaseException")=some true) (ame:hasDictIn K AY=true)
 (XA:(Value.ref AY::yt).contains (.ref AY)=true)
 (zu:(Value.ref AY::yt).contains (.ref zO)=true)
 (Wz:findIn K (.ref AY) "by"=some none)
 (GQ:findIn K (.ref AY) "found"=some none)
 (x_3:K.lookup BU=some (excClassObj Kt q_3 BU ZL Km yv true Li Cz Ku DL Mc Mr Ng IU Mq IY "ValueError.__new__"))
 (t_3:gC yv)
 (amB:typeIn K (.ref f3)=some (.type "function")) (akW:keepIn K (.ref BU)=true) (aei:specialIn K (.ref BU) "__getattribute__"=some (some (.builtin "type.__getattribute__"))) (agq:readsIn K BU (.type "type")=true) (agO:findCls K (.ref BU) (.type "type") "__init__"=some (.val (.ref f3)))
 (amR:∀self,refuseLoop self "__setattr__" yv=pure ())
 (ahP:yv.contains (.type "object")=true)
 (alb:findIn K (.ref BU) "__setattr__"=some (some (.builtin "object.__setattr__"))) (aiw:findIn K (.ref BU) "__getattribute__"=some (some (.builtin "BaseException.__getattribute__"))) (akg:findIn K (.ref BU) "__getattr__"=some none) (aiB:mroIn K BU (.type "BaseException")=some true) (aoW:hasDictIn K BU=true)
 (ZE:(Value.ref BU::yv).contains (.ref BU)=true)
 (zy:(Value.ref BU::yv).contains (.ref zO)=true)
 (Ho:findIn K (.ref BU) "found"=some none)
 (x_4:K.lookup BZ=some (excClassObj MT q_4 BZ N_4 Ml yH true MC Dn JY CI JQ JD Ju LR Ma Nk "ValueError.__new__"))
 (t_4:gC yH)
 (akX:typeIn K (.ref f4)=some (.type "function")) (afU:keepIn K (.ref BZ)=true) (akR:specialIn K (.ref BZ) "__getattribute__"=some (some (.builtin "type.__getattribute__"))) (anJ:readsIn K BZ (.type "type")=true) (anT:findCls K (.ref BZ) (.type "type") "__init__"=some (.val (.ref f4)))
 (ao6:∀self,refuseLoop self "__setattr__" yH=pure ())
 (aiW:yH.contains (.type "object")=true)
 (ajM:findIn K (.ref BZ) "__setattr__"=some (some (.builtin "object.__setattr__"))) (apN:findIn K (.ref BZ) "__getattribute__"=some (some (.builtin "BaseException.__getattribute__"))) (anW:findIn K (.ref BZ) "__getattr__"=some none) (anG:mroIn K BZ (.type "BaseException")=some true) (akU:hasDictIn K BZ=true)
 (abk:(Value.ref BZ::yH).contains (.ref BZ)=true)
 (yV:(Value.ref BZ::yH).contains (.ref zO)=true)
 (HJ:findIn K (.ref BZ) "found"=some none)
 (ags:plainGet K zd Str.empty=true) (aaw:hasDictIn K zd=true) (aoZ:plainOver K zd=true) (ah1:findIn K (.ref zd) "__setattr__"=some (some (.builtin "object.__setattr__"))) (ajR:makesIn K zd=true) (apx:keepIn K (.ref zd)=true)
 (amz:specialIn K (.ref zd) "__getattribute__"=some (some (.builtin "type.__getattribute__"))) (aoT:readsIn K zd (.type "type")=true) (ahO:findCls K (.ref zd) (.type "type") "__init__"=some (.val (.ref f9)))
 (CL:findIn K (.ref zd) "parents"=some none)
 (Fb:findIn K (.ref zd) "takers"=some none)
 (aol:findIn K (.ref zd) "__class__"=some (some (.builtin "object.__class__"))) (aiN:specialIn K (.builtin "object.__class__") "__get__"=some (some (.builtin "getset_descriptor.__get__"))) (aem:takesIn K (.builtin "object.__class__")=some true) (akv:mroIn K zd (.type "object")=some true)
 (aiH:typeIn K (.ref zd)=some (.type "type"))
 (Um:(Value.ref zd==Value.ref jI)=false) (VX:mroIn K zd (.ref jI)=some false)
 (apQ:plainGet K jI Str.empty=true) (aa3:hasDictIn K jI=true) (alj:plainOver K jI=true) (ajh:findIn K (.ref jI) "__setattr__"=some (some (.builtin "object.__setattr__"))) (ail:makesIn K jI=true) (aii:keepIn K (.ref jI)=true)
 (Hi:findIn K (.ref jI) "bound"=some none)
 (Ew:findIn K (.ref jI) "floors"=some none)
 (C2:findIn K (.ref jI) "lengths"=some none)
 (Cb:findIn K (.ref jI) "parents"=some none)
 (Jn:findIn K (.ref jI) "peak"=some none)
 (E8:findIn K (.ref jI) "takers"=some none)
 (ajO:findIn K (.ref jI) "__class__"=some (some (.builtin "object.__class__"))) (alF:specialIn K (.builtin "object.__class__") "__get__"=some (some (.builtin "getset_descriptor.__get__"))) (aia:takesIn K (.builtin "object.__class__")=some true) (akr:mroIn K jI (.type "object")=some true)
 (DT:(Value.ref jI==Value.ref zd)=false) (Dy:mroIn K jI (.ref zd)=some true)
 (ajW:typeIn K (.ref jI)=some (.type "type"))
 (nA:nsIn K mainGlobals "ValueError"=some none)
 (AE:nsIn K mainGlobals "bool"=some none)
 (uS:nsIn K mainGlobals "dict"=some none)
 (qh:nsIn K mainGlobals "enumerate"=some none)
 (Fo:nsIn K mainGlobals "int"=some none)
 (cN:nsIn K mainGlobals "isinstance"=some none)
 (eh:nsIn K mainGlobals "len"=some none)
 (oM:nsIn K mainGlobals "list"=some none)
 (z9:nsIn K mainGlobals "max"=some none)
 (LN:nsIn K mainGlobals "min"=some none)
 (ke:nsIn K mainGlobals "range"=some none)
 (f_:nsIn K mainGlobals "repr"=some none)
 (n8:nsIn K mainGlobals "reversed"=some none)
 (C9:nsIn K mainGlobals "sum"=some none)
 (kr:nsIn K mainGlobals "tuple"=some none)
 (L_:nsIn K mainGlobals "GROUND"=some (some (.int 0 sV)))
 (A_:nsIn K mainGlobals "MOST_CELLS"=some (some (.int 1000 oI)))
 (pS:nsIn K mainGlobals "MOST_CELLS_OF_ROOM"=some (some (.int 6 fq)))
 (yS:nsIn K mainGlobals "MOST_FRAMES"=some (some (.int 100 mF))):
 ∃A:qH,Txt K mg A:=
 ⟨⟨f0,_,f1,_,f2,_,f3,_,f4,_,f5,_,f6,_,f7,_,f8,_,f9,_,f10,_,f11,_,Wv,_,f13,_,f14,_,Sr,_,f16,_,Ze,_,XS,_,f19,_,YV,_,f21,_,Vi,_,f23,_,YI,_,Wn,_,f26,_,Yq,_,f28,_,f29,_,f30,_,f31,_,Vq,_,f33,_,f34,_,V_,_,XO,_,XQ,_,f38,_,f39,_,f40,_,f41,_,W7,_,f43,_,f44,_,W5,_,f46,_,f47,_,f48,_,f49,_,f50,_,f51,_,f52,_,f53,_,f54,_,f55,_,f56,_,f57,_,f58,_,f59,_,f60,_,f61,_,f62,_,f63,_,f64,_,f65,_,zO,BV,AY,BU,BZ,zd,jI⟩,
  ⟨fm l0 c0 k0,
  (fm l0 c0 k0).binds (ps:=["self","text"]) fun _ _ _ _ _ _=>pJ fun _ _=>rfl,
  fm l1 c1 k1,
  (fm l1 c1 k1).binds (ps:=["self","found"]) fun _ _ _ _ _ _=>pJ fun _ _=>rfl,
  fm l2 c2 k2,
  (fm l2 c2 k2).binds (ps:=["self","found","by"]) fun _ _ _ _ _ _=>P_ fun _ _ _=>rfl,
  fm l3 c3 k3,
  (fm l3 c3 k3).binds (ps:=["self","found"]) fun _ _ _ _ _ _=>pJ fun _ _=>rfl,
  fm l4 c4 k4,
  (fm l4 c4 k4).binds (ps:=["self","found"]) fun _ _ _ _ _ _=>pJ fun _ _=>rfl,
  mg_of X G a5,
  fm l5 c5 k5,
  (fm l5 c5 k5).binds (ps:=["thing"]) fun _ _ _ _ _ _=>As fun _=>rfl,
  mg_of X G a6,
  fm l6 c6 k6,
  (fm l6 c6 k6).binds (ps:=["thing","low","high"]) fun _ _ _ _ _ _=>P_ fun _ _ _=>rfl,
  mg_of X G a7,
  fm l7 c7 k7,
  (fm l7 c7 k7).binds (ps:=["thing"]) fun _ _ _ _ _ _=>As fun _=>rfl,
  mg_of X G a8,
  fm l8 c8 k8,
  (fm l8 c8 k8).binds (ps:=["thing"]) fun _ _ _ _ _ _=>As fun _=>rfl,
  fm l9 c9 k9,
  (fm l9 c9 k9).binds (ps:=["self"]) fun _ _ _ _ _ _=>As fun _=>rfl,
  fm l10 c10 k10,
  (fm l10 c10 k10).binds (ps:=["self","frame"]) fun _ _ _ _ _ _=>pJ fun _ _=>rfl,
  ⟨a10,i10,k10⟩,
  fm l11 c11 k11,
  (fm l11 c11 k11).binds (ps:=["self","frame"]) fun _ _ _ _ _ _=>pJ fun _ _=>rfl,
  ⟨a11,i11,k11⟩,
  fm l12 G1 k12,
  (fm l12 G1 k12).binds (ps:=["self","frame"]) fun _ _ _ _ _ _=>pJ fun _ _=>rfl,
  ⟨a12,i12,k12⟩,
  fm l13 Qu k13,
  (fm l13 Qu k13).binds (ps:=["self","frame"]) fun _ _ _ _ _ _=>pJ fun _ _=>rfl,
  ⟨a13,i13,k13⟩,
  fm l14 c14 k14,
  (fm l14 c14 k14).binds (ps:=["self","frame"]) fun _ _ _ _ _ _=>pJ fun _ _=>rfl,
  ⟨a14,i14,k14⟩,
  fm Zq wD k15,
  (fm Zq wD k15).binds (ps:=["self","frame"]) fun _ _ _ _ _ _=>pJ fun _ _=>rfl,
  ⟨a15,i15,k15⟩,
  fm l16 W9 k16,
  (fm l16 W9 k16).binds (ps:=["self","thing"]) fun _ _ _ _ _ _=>pJ fun _ _=>rfl,
  ⟨a16,i16,k16⟩,
  fm l17 c17 k17,
  (fm l17 c17 k17).binds (ps:=["self"]) fun _ _ _ _ _ _=>As fun _=>rfl,
  ⟨a17,i17,k17⟩,
  fm l18 c18 k18,
  (fm l18 c18 k18).binds (ps:=["self"]) fun _ _ _ _ _ _=>As fun _=>rfl,
  ⟨a18,i18,k18⟩,
  fm l19 c19 k19,
  (fm l19 c19 k19).binds (ps:=["self","thing"]) fun _ _ _ _ _ _=>pJ fun _ _=>rfl,
  ⟨a19,i19,k19⟩,
  fm l20 Xj YA,
  (fm l20 Xj YA).binds (ps:=["self","thing"]) fun _ _ _ _ _ _=>pJ fun _ _=>rfl,
  ⟨a20,i20,YA⟩,
  fm l21 c21 k21,
  (fm l21 c21 k21).binds (ps:=["self","thing"]) fun _ _ _ _ _ _=>pJ fun _ _=>rfl,
  ⟨a21,i21,k21⟩,
  fm l22 c22 k22,
  (fm l22 c22 k22).binds (ps:=["self","thing"]) fun _ _ _ _ _ _=>pJ fun _ _=>rfl,
  ⟨a22,i22,k22⟩,
  fm l23 c23 WR,
  (fm l23 c23 WR).binds (ps:=["self","thing"]) fun _ _ _ _ _ _=>pJ fun _ _=>rfl,
  ⟨a23,i23,WR⟩,
  fm l24 c24 k24,
  (fm l24 c24 k24).binds (ps:=["self","limit"]) fun _ _ _ _ _ _=>pJ fun _ _=>rfl,
  fm l25 c25 k25,
  (fm l25 c25 k25).binds (ps:=["self","frame","size"]) fun _ _ _ _ _ _=>P_ fun _ _ _=>rfl,
  ⟨a25,i25,k25⟩,
  fm l26 c26 k26,
  (fm l26 c26 k26).binds (ps:=["self","way","k"]) fun _ _ _ _ _ _=>P_ fun _ _ _=>rfl,
  ⟨a26,i26,k26⟩,
  fm l27 c27 k27,
  (fm l27 c27 k27).binds (ps:=["self","way","k","value"]) fun _ _ _ _ _ _=>bn4 fun _ _ _ _=>rfl,
  ⟨a27,i27,k27⟩,
  fm l28 c28 k28,
  (fm l28 c28 k28).binds (ps:=["self","way"]) fun _ _ _ _ _ _=>pJ fun _ _=>rfl,
  ⟨a28,i28,k28⟩,
  fm l29 c29 k29,
  (fm l29 c29 k29).binds (ps:=["self","way"]) fun _ _ _ _ _ _=>pJ fun _ _=>rfl,
  ⟨a29,i29,k29⟩,
  fm l30 c30 k30,
  (fm l30 c30 k30).binds (ps:=["self"]) fun _ _ _ _ _ _=>As fun _=>rfl,
  ⟨a30,i30,k30⟩,
  fm l31 c31 k31,
  (fm l31 c31 k31).binds (ps:=["self"]) fun _ _ _ _ _ _=>As fun _=>rfl,
  ⟨a31,i31,k31⟩,
  fm l32 c32 k32,
  (fm l32 c32 k32).binds (ps:=["self"]) fun _ _ _ _ _ _=>As fun _=>rfl,
  ⟨a32,i32,k32⟩,
  fm l33 c33 k33,
  (fm l33 c33 k33).binds (ps:=["self"]) fun _ _ _ _ _ _=>As fun _=>rfl,
  ⟨a33,i33,k33⟩,
  fm l34 c34 WM,
  (fm l34 c34 WM).binds (ps:=["self","frame"]) fun _ _ _ _ _ _=>pJ fun _ _=>rfl,
  ⟨a34,i34,WM⟩,
  fm l35 c35 k35,
  (fm l35 c35 k35).binds (ps:=["self"]) fun _ _ _ _ _ _=>As fun _=>rfl,
  ⟨a35,i35,k35⟩,
  fm l36 c36 k36,
  (fm l36 c36 k36).binds (ps:=["self","frame"]) fun _ _ _ _ _ _=>pJ fun _ _=>rfl,
  ⟨a36,i36,k36⟩,
  fm l37 c37 k37,
  (fm l37 c37 k37).binds (ps:=["self"]) fun _ _ _ _ _ _=>As fun _=>rfl,
  ⟨a37,i37,k37⟩,
  fm l38 c38 k38,
  (fm l38 c38 k38).binds (ps:=["self","thing"]) fun _ _ _ _ _ _=>pJ fun _ _=>rfl,
  ⟨a38,i38,k38⟩,
  fm l39 c39 k39,
  (fm l39 c39 k39).binds (ps:=["self","thing"]) fun _ _ _ _ _ _=>pJ fun _ _=>rfl,
  ⟨a39,i39,k39⟩,
  fm l40 c40 k40,
  (fm l40 c40 k40).binds (ps:=["self","thing"]) fun _ _ _ _ _ _=>pJ fun _ _=>rfl,
  ⟨a40,i40,k40⟩,
  mg_of X G a41,
  fm l41 c41 k41,
  (fm l41 c41 k41).binds (ps:=["room","thing"]) fun _ _ _ _ _ _=>pJ fun _ _=>rfl,
  mg_of X G a42,
  fm l42 c42 k42,
  (fm l42 c42 k42).binds (ps:=["_law_script","_law_k"]) fun _ _ _ _ _ _=>pJ fun _ _=>rfl,
  mg_of X G a43,
  fm l43 c43 k43,
  (fm l43 c43 k43).binds (ps:=["_law_cell_here"]) fun _ _ _ _ _ _=>As fun _=>rfl,
  mg_of X G a44,
  fm l44 c44 k44,
  (fm l44 c44 k44).binds (ps:=["_law_box_here","_law_many"]) fun _ _ _ _ _ _=>pJ fun _ _=>rfl,
  mg_of X G a45,
  fm l45 c45 k45,
  (fm l45 c45 k45).binds (ps:=["_law_limit"]) fun _ _ _ _ _ _=>As fun _=>rfl,
  mg_of X G a46,
  fm l46 c46 k46,
  (fm l46 c46 k46).binds (ps:=["_law_model"]) fun _ _ _ _ _ _=>As fun _=>rfl,
  mg_of X G a47,
  fm l47 c47 k47,
  (fm l47 c47 k47).binds (ps:=["_law_model","_law_frame"]) fun _ _ _ _ _ _=>pJ fun _ _=>rfl,
  mg_of X G a48,
  fm l48 c48 k48,
  (fm l48 c48 k48).binds (ps:=["_law_model","_law_frame"]) fun _ _ _ _ _ _=>pJ fun _ _=>rfl,
  mg_of X G a49,
  fm l49 c49 k49,
  (fm l49 c49 k49).binds (ps:=["_law_model","_law_frame"]) fun _ _ _ _ _ _=>pJ fun _ _=>rfl,
  mg_of X G a50,
  fm l50 c50 k50,
  (fm l50 c50 k50).binds (ps:=["_law_model","_law_frame"]) fun _ _ _ _ _ _=>pJ fun _ _=>rfl,
  mg_of X G a51,
  fm l51 c51 k51,
  (fm l51 c51 k51).binds (ps:=["_law_model"]) fun _ _ _ _ _ _=>As fun _=>rfl,
  mg_of X G a52,
  fm l52 c52 k52,
  (fm l52 c52 k52).binds (ps:=["_law_model","_law_frame","_law_size"]) fun _ _ _ _ _ _=>P_ fun _ _ _=>rfl,
  mg_of X G a53,
  fm l53 c53 k53,
  (fm l53 c53 k53).binds (ps:=["_law_box_here","_law_some"]) fun _ _ _ _ _ _=>pJ fun _ _=>rfl,
  mg_of X G a54,
  fm l54 c54 k54,
  (fm l54 c54 k54).binds (ps:=["_law_box_here","_law_model"]) fun _ _ _ _ _ _=>pJ fun _ _=>rfl,
  mg_of X G a55,
  fm l55 c55 k55,
  (fm l55 c55 k55).binds (ps:=["_law_model"]) fun _ _ _ _ _ _=>As fun _=>rfl,
  mg_of X G a56,
  fm l56 c56 k56,
  (fm l56 c56 k56).binds (ps:=["_law_box_here","_law_house_here","_law_model"]) fun _ _ _ _ _ _=>P_ fun _ _ _=>rfl,
  mg_of X G a57,
  fm l57 c57 k57,
  (fm l57 c57 k57).binds (ps:=["_law_model"]) fun _ _ _ _ _ _=>As fun _=>rfl,
  mg_of X G a58,
  fm l58 c58 k58,
  (fm l58 c58 k58).binds (ps:=["_law_model"]) fun _ _ _ _ _ _=>As fun _=>rfl,
  mg_of X G a59,
  fm l59 c59 k59,
  (fm l59 c59 k59).binds (ps:=["_law_house_here","_law_way"]) fun _ _ _ _ _ _=>pJ fun _ _=>rfl,
  mg_of X G a60,
  fm l60 c60 k60,
  (fm l60 c60 k60).binds (ps:=["_law_house_here","_law_rooms","_law_way"]) fun _ _ _ _ _ _=>P_ fun _ _ _=>rfl,
  mg_of X G a61,
  fm l61 c61 k61,
  (fm l61 c61 k61).binds (ps:=["_law_house_here","_law_model","_law_others"]) fun _ _ _ _ _ _=>P_ fun _ _ _=>rfl,
  mg_of X G a62,
  fm l62 c62 k62,
  (fm l62 c62 k62).binds (ps:=["_law_house_here","_law_way","_law_k"]) fun _ _ _ _ _ _=>P_ fun _ _ _=>rfl,
  mg_of X G a63,
  fm l63 c63 k63,
  (fm l63 c63 k63).binds (ps:=["_law_house_here","_law_model"]) fun _ _ _ _ _ _=>pJ fun _ _=>rfl,
  mg_of X G a64,
  fm l64 c64 k64,
  (fm l64 c64 k64).binds (ps:=["_law_house_here","_law_model"]) fun _ _ _ _ _ _=>pJ fun _ _=>rfl,
  mg_of X G a65,
  fm l65 c65 k65,
  (fm l65 c65 k65).binds (ps:=["_law_script"]) fun _ _ _ _ _ _=>As fun _=>rfl,
  mg_of X G c_0,
  ⟨⟨⟨Qp,q_0,N_0,OO,C6,true,Oz,sub_0,N0,Gm,Qc,Qg,OR,Om,O_,Pr,x_0,t_0⟩⟩,a0,afK,alO⟩,
  ⟨aeY,aqb,ahh,k0⟩,
  ⟨⟨Qp,q_0,N_0,OO,C6,Oz,sub_0,N0,Gm,Qc,Qg,OR,Om,O_,Pr,x_0,am9,am1⟩,ak9⟩,
  ⟨amj,agH,agP,aeu⟩,
  ⟨⟨Qp,q_0,N_0,OO,C6,true,Oz,sub_0,N0,Gm,Qc,Qg,OR,Om,O_,Pr,"ValueError.__new__",x_0,YW⟩⟩,
  mg_of X G c_1,
  ⟨⟨⟨JK,q_1,Yi,J2,yB,true,JR,B9,JP,Dk,LU,L0,Ls,Jb,L8,Kx,x_1,t_1⟩⟩,a1,ao3,apF⟩,
  ⟨akz,aoi,aob,k1⟩,
  ⟨⟨JK,q_1,Yi,J2,yB,JR,B9,JP,Dk,LU,L0,Ls,Jb,L8,Kx,x_1,akm,ana⟩,aln⟩,
  ⟨aha,agU,aok,aeo⟩,
  ⟨⟨JK,q_1,Yi,J2,yB,true,JR,B9,JP,Dk,LU,L0,Ls,Jb,L8,Kx,"ValueError.__new__",x_1,Yv⟩⟩,
  ⟨⟨JK,q_1,Yi,J2,yB,true,JR,B9,JP,Dk,LU,L0,Ls,Jb,L8,Kx,"ValueError.__new__",x_1,zp⟩⟩,
  HN,
  mg_of X G c_2,
  ⟨⟨⟨Kz,q_2,Zt,LL,yt,true,Kp,Dp,Ll,Cr,KU,LI,JG,Lr,MF,JC,x_2,t_2⟩⟩,a2,ae5,ahw⟩,
  ⟨aoC,ajJ,afj,k2⟩,
  ⟨⟨Kz,q_2,Zt,LL,yt,Kp,Dp,Ll,Cr,KU,LI,JG,Lr,MF,JC,x_2,akJ,ah7⟩,amo⟩,
  ⟨akc,aoP,amk,ame⟩,
  ⟨⟨Kz,q_2,Zt,LL,yt,true,Kp,Dp,Ll,Cr,KU,LI,JG,Lr,MF,JC,"ValueError.__new__",x_2,XA⟩⟩,
  ⟨⟨Kz,q_2,Zt,LL,yt,true,Kp,Dp,Ll,Cr,KU,LI,JG,Lr,MF,JC,"ValueError.__new__",x_2,zu⟩⟩,
  Wz,
  GQ,
  mg_of X G c_3,
  ⟨⟨⟨Kt,q_3,ZL,Km,yv,true,Li,Cz,Ku,DL,Mc,Mr,Ng,IU,Mq,IY,x_3,t_3⟩⟩,a3,amB,akW⟩,
  ⟨aei,agq,agO,k3⟩,
  ⟨⟨Kt,q_3,ZL,Km,yv,Li,Cz,Ku,DL,Mc,Mr,Ng,IU,Mq,IY,x_3,amR,ahP⟩,alb⟩,
  ⟨aiw,akg,aiB,aoW⟩,
  ⟨⟨Kt,q_3,ZL,Km,yv,true,Li,Cz,Ku,DL,Mc,Mr,Ng,IU,Mq,IY,"ValueError.__new__",x_3,ZE⟩⟩,
  ⟨⟨Kt,q_3,ZL,Km,yv,true,Li,Cz,Ku,DL,Mc,Mr,Ng,IU,Mq,IY,"ValueError.__new__",x_3,zy⟩⟩,
  Ho,
  mg_of X G c_4,
  ⟨⟨⟨MT,q_4,N_4,Ml,yH,true,MC,Dn,JY,CI,JQ,JD,Ju,LR,Ma,Nk,x_4,t_4⟩⟩,a4,akX,afU⟩,
  ⟨akR,anJ,anT,k4⟩,
  ⟨⟨MT,q_4,N_4,Ml,yH,MC,Dn,JY,CI,JQ,JD,Ju,LR,Ma,Nk,x_4,ao6,aiW⟩,ajM⟩,
  ⟨apN,anW,anG,akU⟩,
  ⟨⟨MT,q_4,N_4,Ml,yH,true,MC,Dn,JY,CI,JQ,JD,Ju,LR,Ma,Nk,"ValueError.__new__",x_4,abk⟩⟩,
  ⟨⟨MT,q_4,N_4,Ml,yH,true,MC,Dn,JY,CI,JQ,JD,Ju,LR,Ma,Nk,"ValueError.__new__",x_4,yV⟩⟩,
  HJ,
  mg_of X G c_5,
  ⟨ags,aaw,aoZ,ah1⟩,
  ⟨ajR,a9,i9,apx⟩,
  ⟨amz,aoT,ahO,k9⟩,
  CL,
  Fb,
  ⟨aol,aiN,aem,akv⟩,
  FD,
  (S8 Um aa3 ajW VX),
  mg_of X G c_6,
  ⟨apQ,aa3,alj,ajh⟩,
  ⟨ail,a24,i24,aii⟩,
  Hi,
  Ew,
  C2,
  Cb,
  Jn,
  E8,
  ⟨ajO,alF,aia,akr⟩,
  (S8 DT aaw aiH Dy),
  FD,
  fun s v=> .of_eq rfl,
  mg_none_of X G nA,
  mg_none_of X G AE,
  mg_none_of X G uS,
  mg_none_of X G qh,
  mg_none_of X G Fo,
  mg_none_of X G cN,
  mg_none_of X G eh,
  mg_none_of X G oM,
  mg_none_of X G z9,
  mg_none_of X G LN,
  mg_none_of X G ke,
  mg_none_of X G f_,
  mg_none_of X G n8,
  mg_none_of X G C9,
  mg_none_of X G kr,
  ⟨_,⟨_,rfl⟩,mg_of X G L_⟩,
  ⟨_,⟨_,rfl⟩,mg_of X G A_⟩,
  ⟨_,⟨_,rfl⟩,mg_of X G pS⟩,
  ⟨_,⟨_,rfl⟩,mg_of X G yS⟩⟩⟩
end My
open PySem PySem.W PyProof.Rows
set_option maxRecDepth 100000 in
set_option maxHeartbeats 0 in
theorem PySem.Challenge.cw_framerooms_k15_pictures_and_twins_holds : PySem.Challenge.rw_framerooms_k15_pictures_and_twins.Holds := by
 w_on
 refine holds_law (by decide+kernel) fun aep=> ?_;refine holds_open (q:=My.ql) (loose:=[]) (Xt:=fun s=>xlAt My.ql [] s&&recOk (RowW.records PySem.Challenge.rw_framerooms_k15_pictures_and_twins.row.toRowW) s) (XP:=XL My.ql []) (Yf:=My.pK.obs) (Ya:=My.pK.val) (YP:=Hook.says (kHook My.Ee My.V0 My.FL)) My.UT My.pK.of My.pK.keeps (fun s e=>xl_of s (Bool.and_eq_true_iff.mp e).1) XL.keeps (by rfl) (by rfl) (by rfl) (fun s e=>recFacts_of (Bool.and_eq_true_iff.mp e).2) (by rfl) aep (by decide+kernel) ⟨rfl,rfl,rfl,rfl,rfl,by decide+kernel⟩ ?hw ?hc
 case hw=>w_witness2
 k_fill
 refine My.walk (l:=PySem.Challenge.rw_framerooms_k15_pictures_and_twins) rfl rfl (fun w h Y=>PySem.W.kIn_of Y) ?F
 case F=>
  intro w mg fa h KX G X4;refine' My.VS KX G X4 ?T
  refine' My.UD KX G _ _ _ _ _ _ _ _ _ _ _ _ _ _ _ _ _ _ _ _ _ _ _ _ _ _ _ _ _ _ _ _ _ _ _ _ _ _ _ _ _ _ _ _ _ _ _ _ _ _ _ _ _ _ _ _ _ _ _ _ _ _ _ _ _ _ _ _ _ _ _ _ _ _ _ _ _ _ _ _ _ _ _ _ _ _ _ _ _ _ _ _ _ _ _ _ _ _ _ _ _ _ _ _ _ _ _ _ _ _ _ _ _ _ _ _ _ _ _ _ _ _ _ _ _ _ _ _ _ _ _ _ _ _ _ _ _ _ _ _ _ _ _ _ _ _ _ _ _ _ _ _ _ _ _ _ _ _ _ _ _ _ _ _ _ _ _ _ _ _ _ _ _ _ _ _ _ _ _ _ _ _ _ _ _ _ _ _ _ _ _ _ _ _ _ _ _ _ _ _ _ _ _ _ _ _ _ _ _ _ _ _ _ _ _ _ _ _ _ _ _ _ _ _ _ _ _ _ _ _ _ _ _ _ _ _ _ _ _ _ _ _ _ _ _ _ _ _ _ _ _ _ _ _ _ _ _ _ _ _ _ _ _ _ _ _ _ _ _ _ _ _ _ _ _ _ _ _ _ _ _ _ _ _ _ _ _ _ _ _ _ _ _ _ _ _ _ _ _ _ _ _ _ _ _ _ _ _ _ _ _ _ _ _ _ _ _ _ _ _ _ _ _ _ _ _ _ _ _ _ _ _ _ _ _ _ _ _ _ _ _ _ _ _ _ _ _ _ _ _ _ _ _ _ _ _ _ _ _ _ _ _ _ _ _ _ _ _ _ _ _ _ _ _ _ _ _ _ _ _ _ _ _ _ _ _ _ _ _ _ _ _ _ _ _ _ _ _ _ _ _ _ _ _ _ _ _ _ _ _ _ _ _ _ _ _ _ _ _ _ _ _ _ _ _ _ _ _ _ _ _ _ _ _ _ _ _ _ _ _ _ _ _ _ _ _ _ _
  any_goals first|k_is|(show _=_;k_is)|exact⟨rfl,rfl,rfl,rfl⟩|rfl|decide+kernel|(intro self;(repeat rw[refuseLoop_ref]);exact L2.A8 self)
