import PyProof.Rows.All
import Wide.All
import OpenK.AllK
import Wide.FinOn
import Lean
import PyProof.EqAt
import PyProof.EqKinds
import PyProof.TupleCall
import PySem.Challenge.RW_framerooms_k03_refusals_apart
set_option Elab.async false
set_option linter.all false
set_option maxRecDepth 100000
set_option maxHeartbeats 4000000
namespace L2
open PySem PySem.Spec PyProof.Rows
noncomputable def inClass (s:Stmt) (j:Nat):Stmt:=match s with
  | .ClassDef _ _ _ body _ _ _ _ _ _ _=>body.getD j (.Pass ⟨0,0,0,0⟩)
  |_=> .Pass ⟨0,0,0,0⟩
noncomputable def defArgs (s:Stmt):Arguments:=match s with
  | .FunctionDef _ a _ _ _ _ _ _ _ _=>a
  |_=>{posonlyargs:=[],args:=[],vararg:=none,kwonlyargs:=[],kw_defaults:=[],kwarg:=none,defaults:=[]}
noncomputable def defBody (s:Stmt):List Stmt:=match s with
  | .FunctionDef _ _ b _ _ _ _ _ _ _=>b
  |_=>[]
noncomputable def defScope (s:Stmt):Scope:=match s with
  | .FunctionDef _ _ _ _ _ _ sc _ _ _=>sc
  |_=>{kind:= .function,names:=[],isGenerator:=false,isCoroutine:=false}
end L2
namespace My
open PySem L2 PyProof.Rows
noncomputable def top(i:Nat):Stmt:=PySem.Challenge.pw_framerooms_k03_refusals_apart.main.body.getD i (.Pass ⟨0,0,0,0⟩)
noncomputable abbrev s_RoomError___init__:Stmt:=(inClass (top 1) 0)
noncomputable abbrev s_NoNumber___init__:Stmt:=(inClass (top 2) 0)
noncomputable abbrev s_NoName___init__:Stmt:=(inClass (top 3) 0)
noncomputable abbrev s_NoValue___init__:Stmt:=(inClass (top 4) 0)
noncomputable abbrev s_NoFrame___init__:Stmt:=(inClass (top 5) 0)
noncomputable abbrev s_Gone___init__:Stmt:=(inClass (top 6) 0)
noncomputable abbrev s_Ground___init__:Stmt:=(inClass (top 7) 0)
noncomputable abbrev s_TooMany___init__:Stmt:=(inClass (top 8) 0)
noncomputable abbrev s_Full___init__:Stmt:=(inClass (top 9) 0)
noncomputable abbrev s_NoWay___init__:Stmt:=(inClass (top 10) 0)
noncomputable abbrev s_NoCell___init__:Stmt:=(inClass (top 11) 0)
noncomputable abbrev s_NoHands___init__:Stmt:=(inClass (top 12) 0)
noncomputable abbrev s_Kept___init__:Stmt:=(inClass (top 13) 0)
noncomputable abbrev s_NoDeed___init__:Stmt:=(inClass (top 14) 0)
noncomputable abbrev s_TooDeep___init__:Stmt:=(inClass (top 15) 0)
noncomputable abbrev s_TooWide___init__:Stmt:=(inClass (top 16) 0)
noncomputable abbrev s_TooLong___init__:Stmt:=(inClass (top 17) 0)
noncomputable abbrev s_Twice___init__:Stmt:=(inClass (top 18) 0)
noncomputable abbrev s_NoLabel___init__:Stmt:=(inClass (top 19) 0)
noncomputable abbrev s_NoChoices___init__:Stmt:=(inClass (top 20) 0)
noncomputable abbrev s_NoMaking___init__:Stmt:=(inClass (top 21) 0)
noncomputable abbrev s_NotStraight___init__:Stmt:=(inClass (top 22) 0)
noncomputable abbrev s_NoText___init__:Stmt:=(inClass (top 23) 0)
noncomputable abbrev s_NoManner___init__:Stmt:=(inClass (top 24) 0)
noncomputable abbrev s_NoNames___init__:Stmt:=(inClass (top 25) 0)
noncomputable abbrev s_NoLine___init__:Stmt:=(inClass (top 26) 0)
noncomputable abbrev s_NoHouse___init__:Stmt:=(inClass (top 27) 0)
noncomputable abbrev s_NoProgram___init__:Stmt:=(inClass (top 28) 0)
noncomputable abbrev s__law_cell:Stmt:=(top 30)
noncomputable abbrev s__law_box:Stmt:=(top 31)
noncomputable abbrev s__law_take:Stmt:=(top 32)
noncomputable abbrev s__law_thing:Stmt:=(top 33)
noncomputable abbrev s__law_made:Stmt:=(top 34)
noncomputable abbrev s__law_field:Stmt:=(top 35)
noncomputable abbrev s__law_kinds:Stmt:=(top 36)
noncomputable abbrev s__law_apart:Stmt:=(top 37)
noncomputable abbrev s__law_number:Stmt:=(top 38)
noncomputable abbrev s__law_text:Stmt:=(top 39)
noncomputable abbrev s__law_plain_right:Stmt:=(top 40)
noncomputable abbrev s__law_bare_right:Stmt:=(top 41)
noncomputable abbrev s_law:Stmt:=(top 42)
section hd
open PySem PySem.W PySem.Calls PyProof.Rows
noncomputable section
noncomputable abbrev hdS(x:String)(n:Nat):Value:=Value.str (Str.ofString x) n
noncomputable abbrev hdT(l:Array Value):Obj:={cls:=Value.type "tuple",data:=Data.seq l}
noncomputable abbrev hdN(l:Array Value):Obj:={cls:=Value.none,data:=Data.fields l}
noncomputable abbrev hdO(l:Array Value):Obj:={cls:=Value.type "code",data:=Data.fields l}
noncomputable abbrev hdK(a b:String)(n l r u:Nat):Obj:=hdO #[hdS a n,hdS b (n+1),hdS "/claim/cut.py" (n+2),.int l 0,.int 0 0,.int 0 0,.int 0 0,.int 0 0,.ref r,.bool false,.int 181 0,.ref (r+1),.none,.none,.none,.none,.int u 0,.int l 0,hdS "/claim/cut.py" (u+1)]
noncomputable abbrev hdP(a b:String)(n l p r u:Nat):Obj:=hdO #[hdS a n,hdS b (n+1),hdS "/claim/cut.py" (n+2),.int l 0,.int p 0,.int 0 0,.int 0 0,.int 3 0,.ref r,.bool true,.int 181 0,.ref (r+1),.none,.ref (r+2),.ref (r+3),.ref (r+4),.int u 0,.int l 0,hdS "/claim/cut.py" (u+1)]
noncomputable abbrev hdF(n q:String)(s:Stmt)(m:String)(k:Nat)(c:Addr):Obj:={cls:=Value.type "function",data:=Data.func {name:=Str.ofString n,qualname:=Str.ofString q,params:=L2.defArgs s,body:= .stmts (L2.defBody s),scope:=L2.defScope s,globals:=3,closure:=[],defaults:=Value.none,kwdefaults:=Value.none,pyModule:=hdS m k,code:=Value.ref c}}
noncomputable abbrev hdG(n q:String)(s:Stmt):Obj:={cls:=Value.none,data:=Data.func {name:=Str.ofString n,qualname:=Str.ofString q,params:=L2.defArgs s,body:= .stmts (L2.defBody s),scope:=L2.defScope s,globals:=0,closure:=[],defaults:=Value.none,kwdefaults:=Value.none}}
variable(P:Params)
noncomputable abbrev hdE(P:Params)(x:String)(n:Nat)(v:Value):DictEntry:={hash:=PyData.keyHash P (Str.ofString x),key:=Value.str (Str.ofString x) n,val:=v}
noncomputable abbrev hd11:Obj:=hdT #[]
noncomputable abbrev hd12:Obj:=hdN #[]
noncomputable abbrev hd13:Obj:=hdK "<module>" "<module>" 182 1 11 185
noncomputable abbrev hd14:Obj:={cls:= .type "frame",slots:= #[some (.ref 13),some (.ref 3),some (.ref 3),none,some (hdS "__main__" 164),none,some (.ref 0)]}
noncomputable abbrev hd3:Obj:={cls:= .type "dict",data:=Data.dict #[hdE P "__name__" 165 (hdS "framerooms.errors" 187),hdE P "__doc__" 166 (.none),hdE P "__package__" 167 (.none),hdE P "__loader__" 168 (.builtin ("__main__.__loader__#opa" ++ "que")),hdE P "__spec__" 169 (.none),hdE P "__annotations__" 170 (.ref 6),hdE P "__builtins__" 171 (.ref 4),hdE P "__file__" 173 (hdS "/claim/cut.py" 172),hdE P "__cached__" 174 (.none),hdE P "RoomError" 214 (.ref 31),hdE P "NoNumber" 239 (.ref 51),hdE P "NoName" 264 (.ref 70),hdE P "NoValue" 289 (.ref 89),hdE P "NoFrame" 314 (.ref 108),hdE P "Gone" 341 (.ref 127),hdE P "Ground" 364 (.ref 146)] 16}
noncomputable abbrev hd12x:Obj:=hdN #[.int 2 0,.int 0 0,.ref 20,.int 6 0,.int 0 0,.ref 40,.int 11 0,.int 0 0,.ref 59,.int 16 0,.int 0 0,.ref 78,.int 21 0,.int 0 0,.ref 97,.int 26 0,.int 0 0,.ref 116,.int 32 0,.int 0 0,.ref 135]
noncomputable abbrev hd15:Obj:=hdT #[.type "ValueError"]
noncomputable abbrev hd16:Obj:={cls:= .type "builtin_function_or_method",data:=Data.fields #[.builtin "type.__prepare__",.type "type"]}
noncomputable abbrev hd17:Obj:={cls:= .type "dict",data:=Data.dict #[hdE P "__module__" 196 (hdS "framerooms.errors" 187),hdE P "__qualname__" 198 (hdS "RoomError" 197),hdE P "__firstlineno__" 200 (.int 2 199),hdE P "__init__" 208 (.ref 28),hdE P "__static_attributes__" 209 (.ref 29)] 5}
noncomputable abbrev hd19:Obj:=hdN #[.int 4 0,.int 4 0,.ref 27]
noncomputable abbrev hd20:Obj:=hdK "RoomError" "RoomError" 191 2 18 194
noncomputable abbrev hd21:Obj:={cls:= .type "frame",slots:= #[some (.ref 20),some (.ref 3),some (.ref 17),none,some (hdS "framerooms.errors" 187),none,some (.ref 0)]}
noncomputable abbrev hd24:Obj:=hdT #[hdS "self" 204,hdS "text" 205]
noncomputable abbrev hd26:Obj:=hdG "__init__" "RoomError.__init__" (inClass (top 1) 0)
noncomputable abbrev hd27:Obj:=hdP "__init__" "RoomError.__init__" 201 4 2 22 206
noncomputable abbrev hd28:Obj:=hdF "__init__" "RoomError.__init__" (inClass (top 1) 0) "framerooms.errors" 187 27
noncomputable abbrev hd30:Obj:={cls:= .type "dict",data:=Data.dict #[hdE P "__module__" 196 (hdS "framerooms.errors" 187),hdE P "__firstlineno__" 200 (.int 2 199),hdE P "__init__" 208 (.ref 28),hdE P "__static_attributes__" 209 (.ref 29),hdE P "__weakref__" 211 (.ref 32),hdE P "__doc__" 212 (.none)] 3}
noncomputable abbrev hd31:Obj:={cls:= .type "type",data:=Data.cls {name:=Str.ofString "RoomError",bases:=[.type "ValueError"],mro:=[.ref 31,.type "ValueError",.type "Exception",.type "BaseException",.type "object"],ns:=30,qualname:=Str.ofString "RoomError",subclasses:=[.ref 51,.ref 70,.ref 89,.ref 108,.ref 127,.ref 146]},slots:= #[some (.ref 15),none,some (hdS "RoomError" 189),some (hdS "RoomError" 197),some (.builtin "ValueError.__new__"),some (.bool true)]}
noncomputable abbrev hd32:Obj:={cls:= .type "getset_descriptor",data:=Data.fields #[hdS "__weakref__" 210,.ref 31,.builtin "ExceptionGroup.__weakref__",.none]}
noncomputable abbrev hd33:Obj:={cls:= .type "super",data:=Data.fields #[.ref 31,.ref 31,.ref 31]}
noncomputable abbrev hd34:Obj:={cls:= .type "builtin_function_or_method",data:=Data.fields #[.builtin "object.__init_subclass__",.ref 31]}
noncomputable abbrev hd35:Obj:=hdT #[.ref 31]
noncomputable abbrev hd37:Obj:={cls:= .type "dict",data:=Data.dict #[hdE P "__module__" 222 (hdS "framerooms.errors" 187),hdE P "__qualname__" 224 (hdS "NoNumber" 223),hdE P "__firstlineno__" 226 (.int 6 225),hdE P "__init__" 234 (.ref 48),hdE P "__static_attributes__" 236 (.ref 49)] 5}
noncomputable abbrev hd39:Obj:=hdN #[.int 8 0,.int 4 0,.ref 47]
noncomputable abbrev hd40:Obj:=hdK "NoNumber" "NoNumber" 217 6 38 220
noncomputable abbrev hd41:Obj:={cls:= .type "frame",slots:= #[some (.ref 40),some (.ref 3),some (.ref 37),none,some (hdS "framerooms.errors" 187),none,some (.ref 0)]}
noncomputable abbrev hd44:Obj:=hdT #[hdS "self" 230,hdS "found" 231]
noncomputable abbrev hd46:Obj:=hdG "__init__" "NoNumber.__init__" (inClass (top 2) 0)
noncomputable abbrev hd47:Obj:=hdP "__init__" "NoNumber.__init__" 227 8 2 42 232
noncomputable abbrev hd48:Obj:=hdF "__init__" "NoNumber.__init__" (inClass (top 2) 0) "framerooms.errors" 187 47
noncomputable abbrev hd49:Obj:=hdT #[hdS "found" 235]
noncomputable abbrev hd50:Obj:={cls:= .type "dict",data:=Data.dict #[hdE P "__module__" 222 (hdS "framerooms.errors" 187),hdE P "__firstlineno__" 226 (.int 6 225),hdE P "__init__" 234 (.ref 48),hdE P "__static_attributes__" 236 (.ref 49),hdE P "__doc__" 237 (.none)] 2}
noncomputable abbrev hd51:Obj:={cls:= .type "type",data:=Data.cls {name:=Str.ofString "NoNumber",bases:=[.ref 31],mro:=[.ref 51,.ref 31,.type "ValueError",.type "Exception",.type "BaseException",.type "object"],ns:=50,qualname:=Str.ofString "NoNumber"},slots:= #[some (.ref 35),none,some (hdS "NoNumber" 215),some (hdS "NoNumber" 223),some (.builtin "ValueError.__new__"),some (.bool true)]}
noncomputable abbrev hd52:Obj:={cls:= .type "super",data:=Data.fields #[.ref 51,.ref 51,.ref 51]}
noncomputable abbrev hd53:Obj:={cls:= .type "builtin_function_or_method",data:=Data.fields #[.builtin "object.__init_subclass__",.ref 51]}
noncomputable abbrev hd56:Obj:={cls:= .type "dict",data:=Data.dict #[hdE P "__module__" 247 (hdS "framerooms.errors" 187),hdE P "__qualname__" 249 (hdS "NoName" 248),hdE P "__firstlineno__" 251 (.int 11 250),hdE P "__init__" 259 (.ref 67),hdE P "__static_attributes__" 261 (.ref 68)] 5}
noncomputable abbrev hd58:Obj:=hdN #[.int 13 0,.int 4 0,.ref 66]
noncomputable abbrev hd59:Obj:=hdK "NoName" "NoName" 242 11 57 245
noncomputable abbrev hd60:Obj:={cls:= .type "frame",slots:= #[some (.ref 59),some (.ref 3),some (.ref 56),none,some (hdS "framerooms.errors" 187),none,some (.ref 0)]}
noncomputable abbrev hd63:Obj:=hdT #[hdS "self" 255,hdS "found" 256]
noncomputable abbrev hd65:Obj:=hdG "__init__" "NoName.__init__" (inClass (top 3) 0)
noncomputable abbrev hd66:Obj:=hdP "__init__" "NoName.__init__" 252 13 2 61 257
noncomputable abbrev hd67:Obj:=hdF "__init__" "NoName.__init__" (inClass (top 3) 0) "framerooms.errors" 187 66
noncomputable abbrev hd68:Obj:=hdT #[hdS "found" 260]
noncomputable abbrev hd69:Obj:={cls:= .type "dict",data:=Data.dict #[hdE P "__module__" 247 (hdS "framerooms.errors" 187),hdE P "__firstlineno__" 251 (.int 11 250),hdE P "__init__" 259 (.ref 67),hdE P "__static_attributes__" 261 (.ref 68),hdE P "__doc__" 262 (.none)] 2}
noncomputable abbrev hd70:Obj:={cls:= .type "type",data:=Data.cls {name:=Str.ofString "NoName",bases:=[.ref 31],mro:=[.ref 70,.ref 31,.type "ValueError",.type "Exception",.type "BaseException",.type "object"],ns:=69,qualname:=Str.ofString "NoName"},slots:= #[some (.ref 54),none,some (hdS "NoName" 240),some (hdS "NoName" 248),some (.builtin "ValueError.__new__"),some (.bool true)]}
noncomputable abbrev hd71:Obj:={cls:= .type "super",data:=Data.fields #[.ref 70,.ref 70,.ref 70]}
noncomputable abbrev hd72:Obj:={cls:= .type "builtin_function_or_method",data:=Data.fields #[.builtin "object.__init_subclass__",.ref 70]}
noncomputable abbrev hd75:Obj:={cls:= .type "dict",data:=Data.dict #[hdE P "__module__" 272 (hdS "framerooms.errors" 187),hdE P "__qualname__" 274 (hdS "NoValue" 273),hdE P "__firstlineno__" 276 (.int 16 275),hdE P "__init__" 284 (.ref 86),hdE P "__static_attributes__" 286 (.ref 87)] 5}
noncomputable abbrev hd77:Obj:=hdN #[.int 18 0,.int 4 0,.ref 85]
noncomputable abbrev hd78:Obj:=hdK "NoValue" "NoValue" 267 16 76 270
noncomputable abbrev hd79:Obj:={cls:= .type "frame",slots:= #[some (.ref 78),some (.ref 3),some (.ref 75),none,some (hdS "framerooms.errors" 187),none,some (.ref 0)]}
noncomputable abbrev hd82:Obj:=hdT #[hdS "self" 280,hdS "found" 281]
noncomputable abbrev hd84:Obj:=hdG "__init__" "NoValue.__init__" (inClass (top 4) 0)
noncomputable abbrev hd85:Obj:=hdP "__init__" "NoValue.__init__" 277 18 2 80 282
noncomputable abbrev hd86:Obj:=hdF "__init__" "NoValue.__init__" (inClass (top 4) 0) "framerooms.errors" 187 85
noncomputable abbrev hd87:Obj:=hdT #[hdS "found" 285]
noncomputable abbrev hd88:Obj:={cls:= .type "dict",data:=Data.dict #[hdE P "__module__" 272 (hdS "framerooms.errors" 187),hdE P "__firstlineno__" 276 (.int 16 275),hdE P "__init__" 284 (.ref 86),hdE P "__static_attributes__" 286 (.ref 87),hdE P "__doc__" 287 (.none)] 2}
noncomputable abbrev hd89:Obj:={cls:= .type "type",data:=Data.cls {name:=Str.ofString "NoValue",bases:=[.ref 31],mro:=[.ref 89,.ref 31,.type "ValueError",.type "Exception",.type "BaseException",.type "object"],ns:=88,qualname:=Str.ofString "NoValue"},slots:= #[some (.ref 73),none,some (hdS "NoValue" 265),some (hdS "NoValue" 273),some (.builtin "ValueError.__new__"),some (.bool true)]}
noncomputable abbrev hd90:Obj:={cls:= .type "super",data:=Data.fields #[.ref 89,.ref 89,.ref 89]}
noncomputable abbrev hd91:Obj:={cls:= .type "builtin_function_or_method",data:=Data.fields #[.builtin "object.__init_subclass__",.ref 89]}
noncomputable abbrev hd94:Obj:={cls:= .type "dict",data:=Data.dict #[hdE P "__module__" 297 (hdS "framerooms.errors" 187),hdE P "__qualname__" 299 (hdS "NoFrame" 298),hdE P "__firstlineno__" 301 (.int 21 300),hdE P "__init__" 309 (.ref 105),hdE P "__static_attributes__" 311 (.ref 106)] 5}
noncomputable abbrev hd96:Obj:=hdN #[.int 23 0,.int 4 0,.ref 104]
noncomputable abbrev hd97:Obj:=hdK "NoFrame" "NoFrame" 292 21 95 295
noncomputable abbrev hd98:Obj:={cls:= .type "frame",slots:= #[some (.ref 97),some (.ref 3),some (.ref 94),none,some (hdS "framerooms.errors" 187),none,some (.ref 0)]}
noncomputable abbrev hd101:Obj:=hdT #[hdS "self" 305,hdS "found" 306]
noncomputable abbrev hd103:Obj:=hdG "__init__" "NoFrame.__init__" (inClass (top 5) 0)
noncomputable abbrev hd104:Obj:=hdP "__init__" "NoFrame.__init__" 302 23 2 99 307
noncomputable abbrev hd105:Obj:=hdF "__init__" "NoFrame.__init__" (inClass (top 5) 0) "framerooms.errors" 187 104
noncomputable abbrev hd106:Obj:=hdT #[hdS "found" 310]
noncomputable abbrev hd107:Obj:={cls:= .type "dict",data:=Data.dict #[hdE P "__module__" 297 (hdS "framerooms.errors" 187),hdE P "__firstlineno__" 301 (.int 21 300),hdE P "__init__" 309 (.ref 105),hdE P "__static_attributes__" 311 (.ref 106),hdE P "__doc__" 312 (.none)] 2}
noncomputable abbrev hd108:Obj:={cls:= .type "type",data:=Data.cls {name:=Str.ofString "NoFrame",bases:=[.ref 31],mro:=[.ref 108,.ref 31,.type "ValueError",.type "Exception",.type "BaseException",.type "object"],ns:=107,qualname:=Str.ofString "NoFrame"},slots:= #[some (.ref 92),none,some (hdS "NoFrame" 290),some (hdS "NoFrame" 298),some (.builtin "ValueError.__new__"),some (.bool true)]}
noncomputable abbrev hd109:Obj:={cls:= .type "super",data:=Data.fields #[.ref 108,.ref 108,.ref 108]}
noncomputable abbrev hd110:Obj:={cls:= .type "builtin_function_or_method",data:=Data.fields #[.builtin "object.__init_subclass__",.ref 108]}
noncomputable abbrev hd113:Obj:={cls:= .type "dict",data:=Data.dict #[hdE P "__module__" 322 (hdS "framerooms.errors" 187),hdE P "__qualname__" 324 (hdS "Gone" 323),hdE P "__firstlineno__" 326 (.int 26 325),hdE P "__init__" 335 (.ref 124),hdE P "__static_attributes__" 338 (.ref 125)] 5}
noncomputable abbrev hd115:Obj:=hdN #[.int 28 0,.int 4 0,.ref 123]
noncomputable abbrev hd116:Obj:=hdK "Gone" "Gone" 317 26 114 320
noncomputable abbrev hd117:Obj:={cls:= .type "frame",slots:= #[some (.ref 116),some (.ref 3),some (.ref 113),none,some (hdS "framerooms.errors" 187),none,some (.ref 0)]}
noncomputable abbrev hd120:Obj:=hdT #[hdS "self" 330,hdS "found" 331,hdS "by" 332]
noncomputable abbrev hd122:Obj:=hdG "__init__" "Gone.__init__" (inClass (top 6) 0)
noncomputable abbrev hd123:Obj:=hdP "__init__" "Gone.__init__" 327 28 3 118 333
noncomputable abbrev hd124:Obj:=hdF "__init__" "Gone.__init__" (inClass (top 6) 0) "framerooms.errors" 187 123
noncomputable abbrev hd125:Obj:=hdT #[hdS "by" 336,hdS "found" 337]
noncomputable abbrev hd126:Obj:={cls:= .type "dict",data:=Data.dict #[hdE P "__module__" 322 (hdS "framerooms.errors" 187),hdE P "__firstlineno__" 326 (.int 26 325),hdE P "__init__" 335 (.ref 124),hdE P "__static_attributes__" 338 (.ref 125),hdE P "__doc__" 339 (.none)] 2}
noncomputable abbrev hd127:Obj:={cls:= .type "type",data:=Data.cls {name:=Str.ofString "Gone",bases:=[.ref 31],mro:=[.ref 127,.ref 31,.type "ValueError",.type "Exception",.type "BaseException",.type "object"],ns:=126,qualname:=Str.ofString "Gone"},slots:= #[some (.ref 111),none,some (hdS "Gone" 315),some (hdS "Gone" 323),some (.builtin "ValueError.__new__"),some (.bool true)]}
noncomputable abbrev hd128:Obj:={cls:= .type "super",data:=Data.fields #[.ref 127,.ref 127,.ref 127]}
noncomputable abbrev hd129:Obj:={cls:= .type "builtin_function_or_method",data:=Data.fields #[.builtin "object.__init_subclass__",.ref 127]}
noncomputable abbrev hd132:Obj:={cls:= .type "dict",data:=Data.dict #[hdE P "__module__" 349 (hdS "framerooms.errors" 187),hdE P "__qualname__" 351 (hdS "Ground" 350),hdE P "__firstlineno__" 353 (.int 32 352),hdE P "__init__" 360 (.ref 143),hdE P "__static_attributes__" 361 (.ref 144)] 5}
noncomputable abbrev hd134:Obj:=hdN #[.int 34 0,.int 4 0,.ref 142]
noncomputable abbrev hd135:Obj:=hdK "Ground" "Ground" 344 32 133 347
noncomputable abbrev hd136:Obj:={cls:= .type "frame",slots:= #[some (.ref 135),some (.ref 3),some (.ref 132),none,some (hdS "framerooms.errors" 187),none,some (.ref 0)]}
noncomputable abbrev hd139:Obj:=hdT #[hdS "self" 357]
noncomputable abbrev hd141:Obj:=hdG "__init__" "Ground.__init__" (inClass (top 7) 0)
noncomputable abbrev hd142:Obj:=hdP "__init__" "Ground.__init__" 354 34 1 137 358
noncomputable abbrev hd143:Obj:=hdF "__init__" "Ground.__init__" (inClass (top 7) 0) "framerooms.errors" 187 142
noncomputable abbrev hd145:Obj:={cls:= .type "dict",data:=Data.dict #[hdE P "__module__" 349 (hdS "framerooms.errors" 187),hdE P "__firstlineno__" 353 (.int 32 352),hdE P "__init__" 360 (.ref 143),hdE P "__static_attributes__" 361 (.ref 144),hdE P "__doc__" 362 (.none)] 2}
noncomputable abbrev hd146:Obj:={cls:= .type "type",data:=Data.cls {name:=Str.ofString "Ground",bases:=[.ref 31],mro:=[.ref 146,.ref 31,.type "ValueError",.type "Exception",.type "BaseException",.type "object"],ns:=145,qualname:=Str.ofString "Ground"},slots:= #[some (.ref 130),none,some (hdS "Ground" 342),some (hdS "Ground" 350),some (.builtin "ValueError.__new__"),some (.bool true)]}
noncomputable abbrev hd147:Obj:={cls:= .type "super",data:=Data.fields #[.ref 146,.ref 146,.ref 146]}
noncomputable abbrev hd148:Obj:={cls:= .type "builtin_function_or_method",data:=Data.fields #[.builtin "object.__init_subclass__",.ref 146]}
noncomputable abbrev hd3x:Obj:={cls:= .type "dict",data:=Data.dict #[hdE P "__name__" 165 (hdS "framerooms.errors" 187),hdE P "__doc__" 166 (.none),hdE P "__package__" 167 (.none),hdE P "__loader__" 168 (.builtin ("__main__.__loader__#opa" ++ "que")),hdE P "__spec__" 169 (.none),hdE P "__annotations__" 170 (.ref 6),hdE P "__builtins__" 171 (.ref 4),hdE P "__file__" 173 (hdS "/claim/cut.py" 172),hdE P "__cached__" 174 (.none),hdE P "RoomError" 214 (.ref 31),hdE P "NoNumber" 239 (.ref 51),hdE P "NoName" 264 (.ref 70),hdE P "NoValue" 289 (.ref 89),hdE P "NoFrame" 314 (.ref 108),hdE P "Gone" 341 (.ref 127),hdE P "Ground" 364 (.ref 146),hdE P "TooMany" 389 (.ref 165),hdE P "Full" 416 (.ref 184),hdE P "NoWay" 441 (.ref 203),hdE P "NoCell" 466 (.ref 222),hdE P "NoHands" 491 (.ref 241),hdE P "Kept" 516 (.ref 260)] 22}
noncomputable abbrev hd12xx:Obj:=hdN #[.int 2 0,.int 0 0,.ref 20,.int 6 0,.int 0 0,.ref 40,.int 11 0,.int 0 0,.ref 59,.int 16 0,.int 0 0,.ref 78,.int 21 0,.int 0 0,.ref 97,.int 26 0,.int 0 0,.ref 116,.int 32 0,.int 0 0,.ref 135,.int 36 0,.int 0 0,.ref 154,.int 41 0,.int 0 0,.ref 173,.int 47 0,.int 0 0,.ref 192,.int 52 0,.int 0 0,.ref 211,.int 57 0,.int 0 0,.ref 230,.int 62 0,.int 0 0,.ref 249]
noncomputable abbrev hd31x:Obj:={cls:= .type "type",data:=Data.cls {name:=Str.ofString "RoomError",bases:=[.type "ValueError"],mro:=[.ref 31,.type "ValueError",.type "Exception",.type "BaseException",.type "object"],ns:=30,qualname:=Str.ofString "RoomError",subclasses:=[.ref 51,.ref 70,.ref 89,.ref 108,.ref 127,.ref 146,.ref 165,.ref 184,.ref 203,.ref 222,.ref 241,.ref 260]},slots:= #[some (.ref 15),none,some (hdS "RoomError" 189),some (hdS "RoomError" 197),some (.builtin "ValueError.__new__"),some (.bool true)]}
noncomputable abbrev hd151:Obj:={cls:= .type "dict",data:=Data.dict #[hdE P "__module__" 372 (hdS "framerooms.errors" 187),hdE P "__qualname__" 374 (hdS "TooMany" 373),hdE P "__firstlineno__" 376 (.int 36 375),hdE P "__init__" 384 (.ref 162),hdE P "__static_attributes__" 386 (.ref 163)] 5}
noncomputable abbrev hd153:Obj:=hdN #[.int 38 0,.int 4 0,.ref 161]
noncomputable abbrev hd154:Obj:=hdK "TooMany" "TooMany" 367 36 152 370
noncomputable abbrev hd155:Obj:={cls:= .type "frame",slots:= #[some (.ref 154),some (.ref 3),some (.ref 151),none,some (hdS "framerooms.errors" 187),none,some (.ref 0)]}
noncomputable abbrev hd158:Obj:=hdT #[hdS "self" 380,hdS "many" 381]
noncomputable abbrev hd160:Obj:=hdG "__init__" "TooMany.__init__" (inClass (top 8) 0)
noncomputable abbrev hd161:Obj:=hdP "__init__" "TooMany.__init__" 377 38 2 156 382
noncomputable abbrev hd162:Obj:=hdF "__init__" "TooMany.__init__" (inClass (top 8) 0) "framerooms.errors" 187 161
noncomputable abbrev hd163:Obj:=hdT #[hdS "many" 385]
noncomputable abbrev hd164:Obj:={cls:= .type "dict",data:=Data.dict #[hdE P "__module__" 372 (hdS "framerooms.errors" 187),hdE P "__firstlineno__" 376 (.int 36 375),hdE P "__init__" 384 (.ref 162),hdE P "__static_attributes__" 386 (.ref 163),hdE P "__doc__" 387 (.none)] 2}
noncomputable abbrev hd165:Obj:={cls:= .type "type",data:=Data.cls {name:=Str.ofString "TooMany",bases:=[.ref 31],mro:=[.ref 165,.ref 31,.type "ValueError",.type "Exception",.type "BaseException",.type "object"],ns:=164,qualname:=Str.ofString "TooMany"},slots:= #[some (.ref 149),none,some (hdS "TooMany" 365),some (hdS "TooMany" 373),some (.builtin "ValueError.__new__"),some (.bool true)]}
noncomputable abbrev hd166:Obj:={cls:= .type "super",data:=Data.fields #[.ref 165,.ref 165,.ref 165]}
noncomputable abbrev hd167:Obj:={cls:= .type "builtin_function_or_method",data:=Data.fields #[.builtin "object.__init_subclass__",.ref 165]}
noncomputable abbrev hd170:Obj:={cls:= .type "dict",data:=Data.dict #[hdE P "__module__" 397 (hdS "framerooms.errors" 187),hdE P "__qualname__" 399 (hdS "Full" 398),hdE P "__firstlineno__" 401 (.int 41 400),hdE P "__init__" 410 (.ref 181),hdE P "__static_attributes__" 413 (.ref 182)] 5}
noncomputable abbrev hd172:Obj:=hdN #[.int 43 0,.int 4 0,.ref 180]
noncomputable abbrev hd173:Obj:=hdK "Full" "Full" 392 41 171 395
noncomputable abbrev hd174:Obj:={cls:= .type "frame",slots:= #[some (.ref 173),some (.ref 3),some (.ref 170),none,some (hdS "framerooms.errors" 187),none,some (.ref 0)]}
noncomputable abbrev hd177:Obj:=hdT #[hdS "self" 405,hdS "need" 406,hdS "spare" 407]
noncomputable abbrev hd179:Obj:=hdG "__init__" "Full.__init__" (inClass (top 9) 0)
noncomputable abbrev hd180:Obj:=hdP "__init__" "Full.__init__" 402 43 3 175 408
noncomputable abbrev hd181:Obj:=hdF "__init__" "Full.__init__" (inClass (top 9) 0) "framerooms.errors" 187 180
noncomputable abbrev hd182:Obj:=hdT #[hdS "need" 411,hdS "spare" 412]
noncomputable abbrev hd183:Obj:={cls:= .type "dict",data:=Data.dict #[hdE P "__module__" 397 (hdS "framerooms.errors" 187),hdE P "__firstlineno__" 401 (.int 41 400),hdE P "__init__" 410 (.ref 181),hdE P "__static_attributes__" 413 (.ref 182),hdE P "__doc__" 414 (.none)] 2}
noncomputable abbrev hd184:Obj:={cls:= .type "type",data:=Data.cls {name:=Str.ofString "Full",bases:=[.ref 31],mro:=[.ref 184,.ref 31,.type "ValueError",.type "Exception",.type "BaseException",.type "object"],ns:=183,qualname:=Str.ofString "Full"},slots:= #[some (.ref 168),none,some (hdS "Full" 390),some (hdS "Full" 398),some (.builtin "ValueError.__new__"),some (.bool true)]}
noncomputable abbrev hd185:Obj:={cls:= .type "super",data:=Data.fields #[.ref 184,.ref 184,.ref 184]}
noncomputable abbrev hd186:Obj:={cls:= .type "builtin_function_or_method",data:=Data.fields #[.builtin "object.__init_subclass__",.ref 184]}
noncomputable abbrev hd189:Obj:={cls:= .type "dict",data:=Data.dict #[hdE P "__module__" 424 (hdS "framerooms.errors" 187),hdE P "__qualname__" 426 (hdS "NoWay" 425),hdE P "__firstlineno__" 428 (.int 47 427),hdE P "__init__" 436 (.ref 200),hdE P "__static_attributes__" 438 (.ref 201)] 5}
noncomputable abbrev hd191:Obj:=hdN #[.int 49 0,.int 4 0,.ref 199]
noncomputable abbrev hd192:Obj:=hdK "NoWay" "NoWay" 419 47 190 422
noncomputable abbrev hd193:Obj:={cls:= .type "frame",slots:= #[some (.ref 192),some (.ref 3),some (.ref 189),none,some (hdS "framerooms.errors" 187),none,some (.ref 0)]}
noncomputable abbrev hd196:Obj:=hdT #[hdS "self" 432,hdS "found" 433]
noncomputable abbrev hd198:Obj:=hdG "__init__" "NoWay.__init__" (inClass (top 10) 0)
noncomputable abbrev hd199:Obj:=hdP "__init__" "NoWay.__init__" 429 49 2 194 434
noncomputable abbrev hd200:Obj:=hdF "__init__" "NoWay.__init__" (inClass (top 10) 0) "framerooms.errors" 187 199
noncomputable abbrev hd201:Obj:=hdT #[hdS "found" 437]
noncomputable abbrev hd202:Obj:={cls:= .type "dict",data:=Data.dict #[hdE P "__module__" 424 (hdS "framerooms.errors" 187),hdE P "__firstlineno__" 428 (.int 47 427),hdE P "__init__" 436 (.ref 200),hdE P "__static_attributes__" 438 (.ref 201),hdE P "__doc__" 439 (.none)] 2}
noncomputable abbrev hd203:Obj:={cls:= .type "type",data:=Data.cls {name:=Str.ofString "NoWay",bases:=[.ref 31],mro:=[.ref 203,.ref 31,.type "ValueError",.type "Exception",.type "BaseException",.type "object"],ns:=202,qualname:=Str.ofString "NoWay"},slots:= #[some (.ref 187),none,some (hdS "NoWay" 417),some (hdS "NoWay" 425),some (.builtin "ValueError.__new__"),some (.bool true)]}
noncomputable abbrev hd204:Obj:={cls:= .type "super",data:=Data.fields #[.ref 203,.ref 203,.ref 203]}
noncomputable abbrev hd205:Obj:={cls:= .type "builtin_function_or_method",data:=Data.fields #[.builtin "object.__init_subclass__",.ref 203]}
noncomputable abbrev hd208:Obj:={cls:= .type "dict",data:=Data.dict #[hdE P "__module__" 449 (hdS "framerooms.errors" 187),hdE P "__qualname__" 451 (hdS "NoCell" 450),hdE P "__firstlineno__" 453 (.int 52 452),hdE P "__init__" 461 (.ref 219),hdE P "__static_attributes__" 463 (.ref 220)] 5}
noncomputable abbrev hd210:Obj:=hdN #[.int 54 0,.int 4 0,.ref 218]
noncomputable abbrev hd211:Obj:=hdK "NoCell" "NoCell" 444 52 209 447
noncomputable abbrev hd212:Obj:={cls:= .type "frame",slots:= #[some (.ref 211),some (.ref 3),some (.ref 208),none,some (hdS "framerooms.errors" 187),none,some (.ref 0)]}
noncomputable abbrev hd215:Obj:=hdT #[hdS "self" 457,hdS "found" 458]
noncomputable abbrev hd217:Obj:=hdG "__init__" "NoCell.__init__" (inClass (top 11) 0)
noncomputable abbrev hd218:Obj:=hdP "__init__" "NoCell.__init__" 454 54 2 213 459
noncomputable abbrev hd219:Obj:=hdF "__init__" "NoCell.__init__" (inClass (top 11) 0) "framerooms.errors" 187 218
noncomputable abbrev hd220:Obj:=hdT #[hdS "found" 462]
noncomputable abbrev hd221:Obj:={cls:= .type "dict",data:=Data.dict #[hdE P "__module__" 449 (hdS "framerooms.errors" 187),hdE P "__firstlineno__" 453 (.int 52 452),hdE P "__init__" 461 (.ref 219),hdE P "__static_attributes__" 463 (.ref 220),hdE P "__doc__" 464 (.none)] 2}
noncomputable abbrev hd222:Obj:={cls:= .type "type",data:=Data.cls {name:=Str.ofString "NoCell",bases:=[.ref 31],mro:=[.ref 222,.ref 31,.type "ValueError",.type "Exception",.type "BaseException",.type "object"],ns:=221,qualname:=Str.ofString "NoCell"},slots:= #[some (.ref 206),none,some (hdS "NoCell" 442),some (hdS "NoCell" 450),some (.builtin "ValueError.__new__"),some (.bool true)]}
noncomputable abbrev hd223:Obj:={cls:= .type "super",data:=Data.fields #[.ref 222,.ref 222,.ref 222]}
noncomputable abbrev hd224:Obj:={cls:= .type "builtin_function_or_method",data:=Data.fields #[.builtin "object.__init_subclass__",.ref 222]}
noncomputable abbrev hd227:Obj:={cls:= .type "dict",data:=Data.dict #[hdE P "__module__" 474 (hdS "framerooms.errors" 187),hdE P "__qualname__" 476 (hdS "NoHands" 475),hdE P "__firstlineno__" 478 (.int 57 477),hdE P "__init__" 486 (.ref 238),hdE P "__static_attributes__" 488 (.ref 239)] 5}
noncomputable abbrev hd229:Obj:=hdN #[.int 59 0,.int 4 0,.ref 237]
noncomputable abbrev hd230:Obj:=hdK "NoHands" "NoHands" 469 57 228 472
noncomputable abbrev hd231:Obj:={cls:= .type "frame",slots:= #[some (.ref 230),some (.ref 3),some (.ref 227),none,some (hdS "framerooms.errors" 187),none,some (.ref 0)]}
noncomputable abbrev hd234:Obj:=hdT #[hdS "self" 482,hdS "found" 483]
noncomputable abbrev hd236:Obj:=hdG "__init__" "NoHands.__init__" (inClass (top 12) 0)
noncomputable abbrev hd237:Obj:=hdP "__init__" "NoHands.__init__" 479 59 2 232 484
noncomputable abbrev hd238:Obj:=hdF "__init__" "NoHands.__init__" (inClass (top 12) 0) "framerooms.errors" 187 237
noncomputable abbrev hd239:Obj:=hdT #[hdS "found" 487]
noncomputable abbrev hd240:Obj:={cls:= .type "dict",data:=Data.dict #[hdE P "__module__" 474 (hdS "framerooms.errors" 187),hdE P "__firstlineno__" 478 (.int 57 477),hdE P "__init__" 486 (.ref 238),hdE P "__static_attributes__" 488 (.ref 239),hdE P "__doc__" 489 (.none)] 2}
noncomputable abbrev hd241:Obj:={cls:= .type "type",data:=Data.cls {name:=Str.ofString "NoHands",bases:=[.ref 31],mro:=[.ref 241,.ref 31,.type "ValueError",.type "Exception",.type "BaseException",.type "object"],ns:=240,qualname:=Str.ofString "NoHands"},slots:= #[some (.ref 225),none,some (hdS "NoHands" 467),some (hdS "NoHands" 475),some (.builtin "ValueError.__new__"),some (.bool true)]}
noncomputable abbrev hd242:Obj:={cls:= .type "super",data:=Data.fields #[.ref 241,.ref 241,.ref 241]}
noncomputable abbrev hd243:Obj:={cls:= .type "builtin_function_or_method",data:=Data.fields #[.builtin "object.__init_subclass__",.ref 241]}
noncomputable abbrev hd246:Obj:={cls:= .type "dict",data:=Data.dict #[hdE P "__module__" 499 (hdS "framerooms.errors" 187),hdE P "__qualname__" 501 (hdS "Kept" 500),hdE P "__firstlineno__" 503 (.int 62 502),hdE P "__init__" 511 (.ref 257),hdE P "__static_attributes__" 513 (.ref 258)] 5}
noncomputable abbrev hd248:Obj:=hdN #[.int 64 0,.int 4 0,.ref 256]
noncomputable abbrev hd249:Obj:=hdK "Kept" "Kept" 494 62 247 497
noncomputable abbrev hd250:Obj:={cls:= .type "frame",slots:= #[some (.ref 249),some (.ref 3),some (.ref 246),none,some (hdS "framerooms.errors" 187),none,some (.ref 0)]}
noncomputable abbrev hd253:Obj:=hdT #[hdS "self" 507,hdS "ways" 508]
noncomputable abbrev hd255:Obj:=hdG "__init__" "Kept.__init__" (inClass (top 13) 0)
noncomputable abbrev hd256:Obj:=hdP "__init__" "Kept.__init__" 504 64 2 251 509
noncomputable abbrev hd257:Obj:=hdF "__init__" "Kept.__init__" (inClass (top 13) 0) "framerooms.errors" 187 256
noncomputable abbrev hd258:Obj:=hdT #[hdS "ways" 512]
noncomputable abbrev hd259:Obj:={cls:= .type "dict",data:=Data.dict #[hdE P "__module__" 499 (hdS "framerooms.errors" 187),hdE P "__firstlineno__" 503 (.int 62 502),hdE P "__init__" 511 (.ref 257),hdE P "__static_attributes__" 513 (.ref 258),hdE P "__doc__" 514 (.none)] 2}
noncomputable abbrev hd260:Obj:={cls:= .type "type",data:=Data.cls {name:=Str.ofString "Kept",bases:=[.ref 31],mro:=[.ref 260,.ref 31,.type "ValueError",.type "Exception",.type "BaseException",.type "object"],ns:=259,qualname:=Str.ofString "Kept"},slots:= #[some (.ref 244),none,some (hdS "Kept" 492),some (hdS "Kept" 500),some (.builtin "ValueError.__new__"),some (.bool true)]}
noncomputable abbrev hd261:Obj:={cls:= .type "super",data:=Data.fields #[.ref 260,.ref 260,.ref 260]}
noncomputable abbrev hd262:Obj:={cls:= .type "builtin_function_or_method",data:=Data.fields #[.builtin "object.__init_subclass__",.ref 260]}
noncomputable abbrev hd3xx:Obj:={cls:= .type "dict",data:=Data.dict #[hdE P "__name__" 165 (hdS "framerooms.errors" 187),hdE P "__doc__" 166 (.none),hdE P "__package__" 167 (.none),hdE P "__loader__" 168 (.builtin ("__main__.__loader__#opa" ++ "que")),hdE P "__spec__" 169 (.none),hdE P "__annotations__" 170 (.ref 6),hdE P "__builtins__" 171 (.ref 4),hdE P "__file__" 173 (hdS "/claim/cut.py" 172),hdE P "__cached__" 174 (.none),hdE P "RoomError" 214 (.ref 31),hdE P "NoNumber" 239 (.ref 51),hdE P "NoName" 264 (.ref 70),hdE P "NoValue" 289 (.ref 89),hdE P "NoFrame" 314 (.ref 108),hdE P "Gone" 341 (.ref 127),hdE P "Ground" 364 (.ref 146),hdE P "TooMany" 389 (.ref 165),hdE P "Full" 416 (.ref 184),hdE P "NoWay" 441 (.ref 203),hdE P "NoCell" 466 (.ref 222),hdE P "NoHands" 491 (.ref 241),hdE P "Kept" 516 (.ref 260),hdE P "NoDeed" 541 (.ref 279),hdE P "TooDeep" 566 (.ref 298),hdE P "TooWide" 591 (.ref 317),hdE P "TooLong" 616 (.ref 336),hdE P "Twice" 641 (.ref 355),hdE P "NoLabel" 666 (.ref 374)] 28}
noncomputable abbrev hd12xxx:Obj:=hdN #[.int 2 0,.int 0 0,.ref 20,.int 6 0,.int 0 0,.ref 40,.int 11 0,.int 0 0,.ref 59,.int 16 0,.int 0 0,.ref 78,.int 21 0,.int 0 0,.ref 97,.int 26 0,.int 0 0,.ref 116,.int 32 0,.int 0 0,.ref 135,.int 36 0,.int 0 0,.ref 154,.int 41 0,.int 0 0,.ref 173,.int 47 0,.int 0 0,.ref 192,.int 52 0,.int 0 0,.ref 211,.int 57 0,.int 0 0,.ref 230,.int 62 0,.int 0 0,.ref 249,.int 67 0,.int 0 0,.ref 268,.int 72 0,.int 0 0,.ref 287,.int 77 0,.int 0 0,.ref 306,.int 82 0,.int 0 0,.ref 325,.int 87 0,.int 0 0,.ref 344,.int 92 0,.int 0 0,.ref 363]
noncomputable abbrev hd31xx:Obj:={cls:= .type "type",data:=Data.cls {name:=Str.ofString "RoomError",bases:=[.type "ValueError"],mro:=[.ref 31,.type "ValueError",.type "Exception",.type "BaseException",.type "object"],ns:=30,qualname:=Str.ofString "RoomError",subclasses:=[.ref 51,.ref 70,.ref 89,.ref 108,.ref 127,.ref 146,.ref 165,.ref 184,.ref 203,.ref 222,.ref 241,.ref 260,.ref 279,.ref 298,.ref 317,.ref 336,.ref 355,.ref 374]},slots:= #[some (.ref 15),none,some (hdS "RoomError" 189),some (hdS "RoomError" 197),some (.builtin "ValueError.__new__"),some (.bool true)]}
noncomputable abbrev hd265:Obj:={cls:= .type "dict",data:=Data.dict #[hdE P "__module__" 524 (hdS "framerooms.errors" 187),hdE P "__qualname__" 526 (hdS "NoDeed" 525),hdE P "__firstlineno__" 528 (.int 67 527),hdE P "__init__" 536 (.ref 276),hdE P "__static_attributes__" 538 (.ref 277)] 5}
noncomputable abbrev hd267:Obj:=hdN #[.int 69 0,.int 4 0,.ref 275]
noncomputable abbrev hd268:Obj:=hdK "NoDeed" "NoDeed" 519 67 266 522
noncomputable abbrev hd269:Obj:={cls:= .type "frame",slots:= #[some (.ref 268),some (.ref 3),some (.ref 265),none,some (hdS "framerooms.errors" 187),none,some (.ref 0)]}
noncomputable abbrev hd272:Obj:=hdT #[hdS "self" 532,hdS "found" 533]
noncomputable abbrev hd274:Obj:=hdG "__init__" "NoDeed.__init__" (inClass (top 14) 0)
noncomputable abbrev hd275:Obj:=hdP "__init__" "NoDeed.__init__" 529 69 2 270 534
noncomputable abbrev hd276:Obj:=hdF "__init__" "NoDeed.__init__" (inClass (top 14) 0) "framerooms.errors" 187 275
noncomputable abbrev hd277:Obj:=hdT #[hdS "found" 537]
noncomputable abbrev hd278:Obj:={cls:= .type "dict",data:=Data.dict #[hdE P "__module__" 524 (hdS "framerooms.errors" 187),hdE P "__firstlineno__" 528 (.int 67 527),hdE P "__init__" 536 (.ref 276),hdE P "__static_attributes__" 538 (.ref 277),hdE P "__doc__" 539 (.none)] 2}
noncomputable abbrev hd279:Obj:={cls:= .type "type",data:=Data.cls {name:=Str.ofString "NoDeed",bases:=[.ref 31],mro:=[.ref 279,.ref 31,.type "ValueError",.type "Exception",.type "BaseException",.type "object"],ns:=278,qualname:=Str.ofString "NoDeed"},slots:= #[some (.ref 263),none,some (hdS "NoDeed" 517),some (hdS "NoDeed" 525),some (.builtin "ValueError.__new__"),some (.bool true)]}
noncomputable abbrev hd280:Obj:={cls:= .type "super",data:=Data.fields #[.ref 279,.ref 279,.ref 279]}
noncomputable abbrev hd281:Obj:={cls:= .type "builtin_function_or_method",data:=Data.fields #[.builtin "object.__init_subclass__",.ref 279]}
noncomputable abbrev hd284:Obj:={cls:= .type "dict",data:=Data.dict #[hdE P "__module__" 549 (hdS "framerooms.errors" 187),hdE P "__qualname__" 551 (hdS "TooDeep" 550),hdE P "__firstlineno__" 553 (.int 72 552),hdE P "__init__" 561 (.ref 295),hdE P "__static_attributes__" 563 (.ref 296)] 5}
noncomputable abbrev hd286:Obj:=hdN #[.int 74 0,.int 4 0,.ref 294]
noncomputable abbrev hd287:Obj:=hdK "TooDeep" "TooDeep" 544 72 285 547
noncomputable abbrev hd288:Obj:={cls:= .type "frame",slots:= #[some (.ref 287),some (.ref 3),some (.ref 284),none,some (hdS "framerooms.errors" 187),none,some (.ref 0)]}
noncomputable abbrev hd291:Obj:=hdT #[hdS "self" 557,hdS "depth" 558]
noncomputable abbrev hd293:Obj:=hdG "__init__" "TooDeep.__init__" (inClass (top 15) 0)
noncomputable abbrev hd294:Obj:=hdP "__init__" "TooDeep.__init__" 554 74 2 289 559
noncomputable abbrev hd295:Obj:=hdF "__init__" "TooDeep.__init__" (inClass (top 15) 0) "framerooms.errors" 187 294
noncomputable abbrev hd296:Obj:=hdT #[hdS "depth" 562]
noncomputable abbrev hd297:Obj:={cls:= .type "dict",data:=Data.dict #[hdE P "__module__" 549 (hdS "framerooms.errors" 187),hdE P "__firstlineno__" 553 (.int 72 552),hdE P "__init__" 561 (.ref 295),hdE P "__static_attributes__" 563 (.ref 296),hdE P "__doc__" 564 (.none)] 2}
noncomputable abbrev hd298:Obj:={cls:= .type "type",data:=Data.cls {name:=Str.ofString "TooDeep",bases:=[.ref 31],mro:=[.ref 298,.ref 31,.type "ValueError",.type "Exception",.type "BaseException",.type "object"],ns:=297,qualname:=Str.ofString "TooDeep"},slots:= #[some (.ref 282),none,some (hdS "TooDeep" 542),some (hdS "TooDeep" 550),some (.builtin "ValueError.__new__"),some (.bool true)]}
noncomputable abbrev hd299:Obj:={cls:= .type "super",data:=Data.fields #[.ref 298,.ref 298,.ref 298]}
noncomputable abbrev hd300:Obj:={cls:= .type "builtin_function_or_method",data:=Data.fields #[.builtin "object.__init_subclass__",.ref 298]}
noncomputable abbrev hd303:Obj:={cls:= .type "dict",data:=Data.dict #[hdE P "__module__" 574 (hdS "framerooms.errors" 187),hdE P "__qualname__" 576 (hdS "TooWide" 575),hdE P "__firstlineno__" 578 (.int 77 577),hdE P "__init__" 586 (.ref 314),hdE P "__static_attributes__" 588 (.ref 315)] 5}
noncomputable abbrev hd305:Obj:=hdN #[.int 79 0,.int 4 0,.ref 313]
noncomputable abbrev hd306:Obj:=hdK "TooWide" "TooWide" 569 77 304 572
noncomputable abbrev hd307:Obj:={cls:= .type "frame",slots:= #[some (.ref 306),some (.ref 3),some (.ref 303),none,some (hdS "framerooms.errors" 187),none,some (.ref 0)]}
noncomputable abbrev hd310:Obj:=hdT #[hdS "self" 582,hdS "many" 583]
noncomputable abbrev hd312:Obj:=hdG "__init__" "TooWide.__init__" (inClass (top 16) 0)
noncomputable abbrev hd313:Obj:=hdP "__init__" "TooWide.__init__" 579 79 2 308 584
noncomputable abbrev hd314:Obj:=hdF "__init__" "TooWide.__init__" (inClass (top 16) 0) "framerooms.errors" 187 313
noncomputable abbrev hd315:Obj:=hdT #[hdS "many" 587]
noncomputable abbrev hd316:Obj:={cls:= .type "dict",data:=Data.dict #[hdE P "__module__" 574 (hdS "framerooms.errors" 187),hdE P "__firstlineno__" 578 (.int 77 577),hdE P "__init__" 586 (.ref 314),hdE P "__static_attributes__" 588 (.ref 315),hdE P "__doc__" 589 (.none)] 2}
noncomputable abbrev hd317:Obj:={cls:= .type "type",data:=Data.cls {name:=Str.ofString "TooWide",bases:=[.ref 31],mro:=[.ref 317,.ref 31,.type "ValueError",.type "Exception",.type "BaseException",.type "object"],ns:=316,qualname:=Str.ofString "TooWide"},slots:= #[some (.ref 301),none,some (hdS "TooWide" 567),some (hdS "TooWide" 575),some (.builtin "ValueError.__new__"),some (.bool true)]}
noncomputable abbrev hd318:Obj:={cls:= .type "super",data:=Data.fields #[.ref 317,.ref 317,.ref 317]}
noncomputable abbrev hd319:Obj:={cls:= .type "builtin_function_or_method",data:=Data.fields #[.builtin "object.__init_subclass__",.ref 317]}
noncomputable abbrev hd322:Obj:={cls:= .type "dict",data:=Data.dict #[hdE P "__module__" 599 (hdS "framerooms.errors" 187),hdE P "__qualname__" 601 (hdS "TooLong" 600),hdE P "__firstlineno__" 603 (.int 82 602),hdE P "__init__" 611 (.ref 333),hdE P "__static_attributes__" 613 (.ref 334)] 5}
noncomputable abbrev hd324:Obj:=hdN #[.int 84 0,.int 4 0,.ref 332]
noncomputable abbrev hd325:Obj:=hdK "TooLong" "TooLong" 594 82 323 597
noncomputable abbrev hd326:Obj:={cls:= .type "frame",slots:= #[some (.ref 325),some (.ref 3),some (.ref 322),none,some (hdS "framerooms.errors" 187),none,some (.ref 0)]}
noncomputable abbrev hd329:Obj:=hdT #[hdS "self" 607,hdS "many" 608]
noncomputable abbrev hd331:Obj:=hdG "__init__" "TooLong.__init__" (inClass (top 17) 0)
noncomputable abbrev hd332:Obj:=hdP "__init__" "TooLong.__init__" 604 84 2 327 609
noncomputable abbrev hd333:Obj:=hdF "__init__" "TooLong.__init__" (inClass (top 17) 0) "framerooms.errors" 187 332
noncomputable abbrev hd334:Obj:=hdT #[hdS "many" 612]
noncomputable abbrev hd335:Obj:={cls:= .type "dict",data:=Data.dict #[hdE P "__module__" 599 (hdS "framerooms.errors" 187),hdE P "__firstlineno__" 603 (.int 82 602),hdE P "__init__" 611 (.ref 333),hdE P "__static_attributes__" 613 (.ref 334),hdE P "__doc__" 614 (.none)] 2}
noncomputable abbrev hd336:Obj:={cls:= .type "type",data:=Data.cls {name:=Str.ofString "TooLong",bases:=[.ref 31],mro:=[.ref 336,.ref 31,.type "ValueError",.type "Exception",.type "BaseException",.type "object"],ns:=335,qualname:=Str.ofString "TooLong"},slots:= #[some (.ref 320),none,some (hdS "TooLong" 592),some (hdS "TooLong" 600),some (.builtin "ValueError.__new__"),some (.bool true)]}
noncomputable abbrev hd337:Obj:={cls:= .type "super",data:=Data.fields #[.ref 336,.ref 336,.ref 336]}
noncomputable abbrev hd338:Obj:={cls:= .type "builtin_function_or_method",data:=Data.fields #[.builtin "object.__init_subclass__",.ref 336]}
noncomputable abbrev hd341:Obj:={cls:= .type "dict",data:=Data.dict #[hdE P "__module__" 624 (hdS "framerooms.errors" 187),hdE P "__qualname__" 626 (hdS "Twice" 625),hdE P "__firstlineno__" 628 (.int 87 627),hdE P "__init__" 636 (.ref 352),hdE P "__static_attributes__" 638 (.ref 353)] 5}
noncomputable abbrev hd343:Obj:=hdN #[.int 89 0,.int 4 0,.ref 351]
noncomputable abbrev hd344:Obj:=hdK "Twice" "Twice" 619 87 342 622
noncomputable abbrev hd345:Obj:={cls:= .type "frame",slots:= #[some (.ref 344),some (.ref 3),some (.ref 341),none,some (hdS "framerooms.errors" 187),none,some (.ref 0)]}
noncomputable abbrev hd348:Obj:=hdT #[hdS "self" 632,hdS "label" 633]
noncomputable abbrev hd350:Obj:=hdG "__init__" "Twice.__init__" (inClass (top 18) 0)
noncomputable abbrev hd351:Obj:=hdP "__init__" "Twice.__init__" 629 89 2 346 634
noncomputable abbrev hd352:Obj:=hdF "__init__" "Twice.__init__" (inClass (top 18) 0) "framerooms.errors" 187 351
noncomputable abbrev hd353:Obj:=hdT #[hdS "label" 637]
noncomputable abbrev hd354:Obj:={cls:= .type "dict",data:=Data.dict #[hdE P "__module__" 624 (hdS "framerooms.errors" 187),hdE P "__firstlineno__" 628 (.int 87 627),hdE P "__init__" 636 (.ref 352),hdE P "__static_attributes__" 638 (.ref 353),hdE P "__doc__" 639 (.none)] 2}
noncomputable abbrev hd355:Obj:={cls:= .type "type",data:=Data.cls {name:=Str.ofString "Twice",bases:=[.ref 31],mro:=[.ref 355,.ref 31,.type "ValueError",.type "Exception",.type "BaseException",.type "object"],ns:=354,qualname:=Str.ofString "Twice"},slots:= #[some (.ref 339),none,some (hdS "Twice" 617),some (hdS "Twice" 625),some (.builtin "ValueError.__new__"),some (.bool true)]}
noncomputable abbrev hd356:Obj:={cls:= .type "super",data:=Data.fields #[.ref 355,.ref 355,.ref 355]}
noncomputable abbrev hd357:Obj:={cls:= .type "builtin_function_or_method",data:=Data.fields #[.builtin "object.__init_subclass__",.ref 355]}
noncomputable abbrev hd360:Obj:={cls:= .type "dict",data:=Data.dict #[hdE P "__module__" 649 (hdS "framerooms.errors" 187),hdE P "__qualname__" 651 (hdS "NoLabel" 650),hdE P "__firstlineno__" 653 (.int 92 652),hdE P "__init__" 661 (.ref 371),hdE P "__static_attributes__" 663 (.ref 372)] 5}
noncomputable abbrev hd362:Obj:=hdN #[.int 94 0,.int 4 0,.ref 370]
noncomputable abbrev hd363:Obj:=hdK "NoLabel" "NoLabel" 644 92 361 647
noncomputable abbrev hd364:Obj:={cls:= .type "frame",slots:= #[some (.ref 363),some (.ref 3),some (.ref 360),none,some (hdS "framerooms.errors" 187),none,some (.ref 0)]}
noncomputable abbrev hd367:Obj:=hdT #[hdS "self" 657,hdS "label" 658]
noncomputable abbrev hd369:Obj:=hdG "__init__" "NoLabel.__init__" (inClass (top 19) 0)
noncomputable abbrev hd370:Obj:=hdP "__init__" "NoLabel.__init__" 654 94 2 365 659
noncomputable abbrev hd371:Obj:=hdF "__init__" "NoLabel.__init__" (inClass (top 19) 0) "framerooms.errors" 187 370
noncomputable abbrev hd372:Obj:=hdT #[hdS "label" 662]
noncomputable abbrev hd373:Obj:={cls:= .type "dict",data:=Data.dict #[hdE P "__module__" 649 (hdS "framerooms.errors" 187),hdE P "__firstlineno__" 653 (.int 92 652),hdE P "__init__" 661 (.ref 371),hdE P "__static_attributes__" 663 (.ref 372),hdE P "__doc__" 664 (.none)] 2}
noncomputable abbrev hd374:Obj:={cls:= .type "type",data:=Data.cls {name:=Str.ofString "NoLabel",bases:=[.ref 31],mro:=[.ref 374,.ref 31,.type "ValueError",.type "Exception",.type "BaseException",.type "object"],ns:=373,qualname:=Str.ofString "NoLabel"},slots:= #[some (.ref 358),none,some (hdS "NoLabel" 642),some (hdS "NoLabel" 650),some (.builtin "ValueError.__new__"),some (.bool true)]}
noncomputable abbrev hd375:Obj:={cls:= .type "super",data:=Data.fields #[.ref 374,.ref 374,.ref 374]}
noncomputable abbrev hd376:Obj:={cls:= .type "builtin_function_or_method",data:=Data.fields #[.builtin "object.__init_subclass__",.ref 374]}
noncomputable abbrev hd3xxx:Obj:={cls:= .type "dict",data:=Data.dict #[hdE P "__name__" 165 (hdS "framerooms.errors" 187),hdE P "__doc__" 166 (.none),hdE P "__package__" 167 (.none),hdE P "__loader__" 168 (.builtin ("__main__.__loader__#opa" ++ "que")),hdE P "__spec__" 169 (.none),hdE P "__annotations__" 170 (.ref 6),hdE P "__builtins__" 171 (.ref 4),hdE P "__file__" 173 (hdS "/claim/cut.py" 172),hdE P "__cached__" 174 (.none),hdE P "RoomError" 214 (.ref 31),hdE P "NoNumber" 239 (.ref 51),hdE P "NoName" 264 (.ref 70),hdE P "NoValue" 289 (.ref 89),hdE P "NoFrame" 314 (.ref 108),hdE P "Gone" 341 (.ref 127),hdE P "Ground" 364 (.ref 146),hdE P "TooMany" 389 (.ref 165),hdE P "Full" 416 (.ref 184),hdE P "NoWay" 441 (.ref 203),hdE P "NoCell" 466 (.ref 222),hdE P "NoHands" 491 (.ref 241),hdE P "Kept" 516 (.ref 260),hdE P "NoDeed" 541 (.ref 279),hdE P "TooDeep" 566 (.ref 298),hdE P "TooWide" 591 (.ref 317),hdE P "TooLong" 616 (.ref 336),hdE P "Twice" 641 (.ref 355),hdE P "NoLabel" 666 (.ref 374),hdE P "NoChoices" 691 (.ref 393),hdE P "NoMaking" 716 (.ref 412),hdE P "NotStraight" 741 (.ref 431),hdE P "NoText" 766 (.ref 450),hdE P "NoManner" 791 (.ref 469),hdE P "NoNames" 816 (.ref 488)] 34}
noncomputable abbrev hd12xxxx:Obj:=hdN #[.int 2 0,.int 0 0,.ref 20,.int 6 0,.int 0 0,.ref 40,.int 11 0,.int 0 0,.ref 59,.int 16 0,.int 0 0,.ref 78,.int 21 0,.int 0 0,.ref 97,.int 26 0,.int 0 0,.ref 116,.int 32 0,.int 0 0,.ref 135,.int 36 0,.int 0 0,.ref 154,.int 41 0,.int 0 0,.ref 173,.int 47 0,.int 0 0,.ref 192,.int 52 0,.int 0 0,.ref 211,.int 57 0,.int 0 0,.ref 230,.int 62 0,.int 0 0,.ref 249,.int 67 0,.int 0 0,.ref 268,.int 72 0,.int 0 0,.ref 287,.int 77 0,.int 0 0,.ref 306,.int 82 0,.int 0 0,.ref 325,.int 87 0,.int 0 0,.ref 344,.int 92 0,.int 0 0,.ref 363,.int 97 0,.int 0 0,.ref 382,.int 102 0,.int 0 0,.ref 401,.int 107 0,.int 0 0,.ref 420,.int 112 0,.int 0 0,.ref 439,.int 117 0,.int 0 0,.ref 458,.int 122 0,.int 0 0,.ref 477]
noncomputable abbrev hd31xxx:Obj:={cls:= .type "type",data:=Data.cls {name:=Str.ofString "RoomError",bases:=[.type "ValueError"],mro:=[.ref 31,.type "ValueError",.type "Exception",.type "BaseException",.type "object"],ns:=30,qualname:=Str.ofString "RoomError",subclasses:=[.ref 51,.ref 70,.ref 89,.ref 108,.ref 127,.ref 146,.ref 165,.ref 184,.ref 203,.ref 222,.ref 241,.ref 260,.ref 279,.ref 298,.ref 317,.ref 336,.ref 355,.ref 374,.ref 393,.ref 412,.ref 431,.ref 450,.ref 469,.ref 488]},slots:= #[some (.ref 15),none,some (hdS "RoomError" 189),some (hdS "RoomError" 197),some (.builtin "ValueError.__new__"),some (.bool true)]}
noncomputable abbrev hd379:Obj:={cls:= .type "dict",data:=Data.dict #[hdE P "__module__" 674 (hdS "framerooms.errors" 187),hdE P "__qualname__" 676 (hdS "NoChoices" 675),hdE P "__firstlineno__" 678 (.int 97 677),hdE P "__init__" 686 (.ref 390),hdE P "__static_attributes__" 688 (.ref 391)] 5}
noncomputable abbrev hd381:Obj:=hdN #[.int 99 0,.int 4 0,.ref 389]
noncomputable abbrev hd382:Obj:=hdK "NoChoices" "NoChoices" 669 97 380 672
noncomputable abbrev hd383:Obj:={cls:= .type "frame",slots:= #[some (.ref 382),some (.ref 3),some (.ref 379),none,some (hdS "framerooms.errors" 187),none,some (.ref 0)]}
noncomputable abbrev hd386:Obj:=hdT #[hdS "self" 682,hdS "found" 683]
noncomputable abbrev hd388:Obj:=hdG "__init__" "NoChoices.__init__" (inClass (top 20) 0)
noncomputable abbrev hd389:Obj:=hdP "__init__" "NoChoices.__init__" 679 99 2 384 684
noncomputable abbrev hd390:Obj:=hdF "__init__" "NoChoices.__init__" (inClass (top 20) 0) "framerooms.errors" 187 389
noncomputable abbrev hd391:Obj:=hdT #[hdS "found" 687]
noncomputable abbrev hd392:Obj:={cls:= .type "dict",data:=Data.dict #[hdE P "__module__" 674 (hdS "framerooms.errors" 187),hdE P "__firstlineno__" 678 (.int 97 677),hdE P "__init__" 686 (.ref 390),hdE P "__static_attributes__" 688 (.ref 391),hdE P "__doc__" 689 (.none)] 2}
noncomputable abbrev hd393:Obj:={cls:= .type "type",data:=Data.cls {name:=Str.ofString "NoChoices",bases:=[.ref 31],mro:=[.ref 393,.ref 31,.type "ValueError",.type "Exception",.type "BaseException",.type "object"],ns:=392,qualname:=Str.ofString "NoChoices"},slots:= #[some (.ref 377),none,some (hdS "NoChoices" 667),some (hdS "NoChoices" 675),some (.builtin "ValueError.__new__"),some (.bool true)]}
noncomputable abbrev hd394:Obj:={cls:= .type "super",data:=Data.fields #[.ref 393,.ref 393,.ref 393]}
noncomputable abbrev hd395:Obj:={cls:= .type "builtin_function_or_method",data:=Data.fields #[.builtin "object.__init_subclass__",.ref 393]}
noncomputable abbrev hd398:Obj:={cls:= .type "dict",data:=Data.dict #[hdE P "__module__" 699 (hdS "framerooms.errors" 187),hdE P "__qualname__" 701 (hdS "NoMaking" 700),hdE P "__firstlineno__" 703 (.int 102 702),hdE P "__init__" 711 (.ref 409),hdE P "__static_attributes__" 713 (.ref 410)] 5}
noncomputable abbrev hd400:Obj:=hdN #[.int 104 0,.int 4 0,.ref 408]
noncomputable abbrev hd401:Obj:=hdK "NoMaking" "NoMaking" 694 102 399 697
noncomputable abbrev hd402:Obj:={cls:= .type "frame",slots:= #[some (.ref 401),some (.ref 3),some (.ref 398),none,some (hdS "framerooms.errors" 187),none,some (.ref 0)]}
noncomputable abbrev hd405:Obj:=hdT #[hdS "self" 707,hdS "found" 708]
noncomputable abbrev hd407:Obj:=hdG "__init__" "NoMaking.__init__" (inClass (top 21) 0)
noncomputable abbrev hd408:Obj:=hdP "__init__" "NoMaking.__init__" 704 104 2 403 709
noncomputable abbrev hd409:Obj:=hdF "__init__" "NoMaking.__init__" (inClass (top 21) 0) "framerooms.errors" 187 408
noncomputable abbrev hd410:Obj:=hdT #[hdS "found" 712]
noncomputable abbrev hd411:Obj:={cls:= .type "dict",data:=Data.dict #[hdE P "__module__" 699 (hdS "framerooms.errors" 187),hdE P "__firstlineno__" 703 (.int 102 702),hdE P "__init__" 711 (.ref 409),hdE P "__static_attributes__" 713 (.ref 410),hdE P "__doc__" 714 (.none)] 2}
noncomputable abbrev hd412:Obj:={cls:= .type "type",data:=Data.cls {name:=Str.ofString "NoMaking",bases:=[.ref 31],mro:=[.ref 412,.ref 31,.type "ValueError",.type "Exception",.type "BaseException",.type "object"],ns:=411,qualname:=Str.ofString "NoMaking"},slots:= #[some (.ref 396),none,some (hdS "NoMaking" 692),some (hdS "NoMaking" 700),some (.builtin "ValueError.__new__"),some (.bool true)]}
noncomputable abbrev hd413:Obj:={cls:= .type "super",data:=Data.fields #[.ref 412,.ref 412,.ref 412]}
noncomputable abbrev hd414:Obj:={cls:= .type "builtin_function_or_method",data:=Data.fields #[.builtin "object.__init_subclass__",.ref 412]}
noncomputable abbrev hd417:Obj:={cls:= .type "dict",data:=Data.dict #[hdE P "__module__" 724 (hdS "framerooms.errors" 187),hdE P "__qualname__" 726 (hdS "NotStraight" 725),hdE P "__firstlineno__" 728 (.int 107 727),hdE P "__init__" 736 (.ref 428),hdE P "__static_attributes__" 738 (.ref 429)] 5}
noncomputable abbrev hd419:Obj:=hdN #[.int 109 0,.int 4 0,.ref 427]
noncomputable abbrev hd420:Obj:=hdK "NotStraight" "NotStraight" 719 107 418 722
noncomputable abbrev hd421:Obj:={cls:= .type "frame",slots:= #[some (.ref 420),some (.ref 3),some (.ref 417),none,some (hdS "framerooms.errors" 187),none,some (.ref 0)]}
noncomputable abbrev hd424:Obj:=hdT #[hdS "self" 732,hdS "number" 733]
noncomputable abbrev hd426:Obj:=hdG "__init__" "NotStraight.__init__" (inClass (top 22) 0)
noncomputable abbrev hd427:Obj:=hdP "__init__" "NotStraight.__init__" 729 109 2 422 734
noncomputable abbrev hd428:Obj:=hdF "__init__" "NotStraight.__init__" (inClass (top 22) 0) "framerooms.errors" 187 427
noncomputable abbrev hd429:Obj:=hdT #[hdS "number" 737]
noncomputable abbrev hd430:Obj:={cls:= .type "dict",data:=Data.dict #[hdE P "__module__" 724 (hdS "framerooms.errors" 187),hdE P "__firstlineno__" 728 (.int 107 727),hdE P "__init__" 736 (.ref 428),hdE P "__static_attributes__" 738 (.ref 429),hdE P "__doc__" 739 (.none)] 2}
noncomputable abbrev hd431:Obj:={cls:= .type "type",data:=Data.cls {name:=Str.ofString "NotStraight",bases:=[.ref 31],mro:=[.ref 431,.ref 31,.type "ValueError",.type "Exception",.type "BaseException",.type "object"],ns:=430,qualname:=Str.ofString "NotStraight"},slots:= #[some (.ref 415),none,some (hdS "NotStraight" 717),some (hdS "NotStraight" 725),some (.builtin "ValueError.__new__"),some (.bool true)]}
noncomputable abbrev hd432:Obj:={cls:= .type "super",data:=Data.fields #[.ref 431,.ref 431,.ref 431]}
noncomputable abbrev hd433:Obj:={cls:= .type "builtin_function_or_method",data:=Data.fields #[.builtin "object.__init_subclass__",.ref 431]}
noncomputable abbrev hd436:Obj:={cls:= .type "dict",data:=Data.dict #[hdE P "__module__" 749 (hdS "framerooms.errors" 187),hdE P "__qualname__" 751 (hdS "NoText" 750),hdE P "__firstlineno__" 753 (.int 112 752),hdE P "__init__" 761 (.ref 447),hdE P "__static_attributes__" 763 (.ref 448)] 5}
noncomputable abbrev hd438:Obj:=hdN #[.int 114 0,.int 4 0,.ref 446]
noncomputable abbrev hd439:Obj:=hdK "NoText" "NoText" 744 112 437 747
noncomputable abbrev hd440:Obj:={cls:= .type "frame",slots:= #[some (.ref 439),some (.ref 3),some (.ref 436),none,some (hdS "framerooms.errors" 187),none,some (.ref 0)]}
noncomputable abbrev hd443:Obj:=hdT #[hdS "self" 757,hdS "line" 758]
noncomputable abbrev hd445:Obj:=hdG "__init__" "NoText.__init__" (inClass (top 23) 0)
noncomputable abbrev hd446:Obj:=hdP "__init__" "NoText.__init__" 754 114 2 441 759
noncomputable abbrev hd447:Obj:=hdF "__init__" "NoText.__init__" (inClass (top 23) 0) "framerooms.errors" 187 446
noncomputable abbrev hd448:Obj:=hdT #[hdS "line" 762]
noncomputable abbrev hd449:Obj:={cls:= .type "dict",data:=Data.dict #[hdE P "__module__" 749 (hdS "framerooms.errors" 187),hdE P "__firstlineno__" 753 (.int 112 752),hdE P "__init__" 761 (.ref 447),hdE P "__static_attributes__" 763 (.ref 448),hdE P "__doc__" 764 (.none)] 2}
noncomputable abbrev hd450:Obj:={cls:= .type "type",data:=Data.cls {name:=Str.ofString "NoText",bases:=[.ref 31],mro:=[.ref 450,.ref 31,.type "ValueError",.type "Exception",.type "BaseException",.type "object"],ns:=449,qualname:=Str.ofString "NoText"},slots:= #[some (.ref 434),none,some (hdS "NoText" 742),some (hdS "NoText" 750),some (.builtin "ValueError.__new__"),some (.bool true)]}
noncomputable abbrev hd451:Obj:={cls:= .type "super",data:=Data.fields #[.ref 450,.ref 450,.ref 450]}
noncomputable abbrev hd452:Obj:={cls:= .type "builtin_function_or_method",data:=Data.fields #[.builtin "object.__init_subclass__",.ref 450]}
noncomputable abbrev hd455:Obj:={cls:= .type "dict",data:=Data.dict #[hdE P "__module__" 774 (hdS "framerooms.errors" 187),hdE P "__qualname__" 776 (hdS "NoManner" 775),hdE P "__firstlineno__" 778 (.int 117 777),hdE P "__init__" 786 (.ref 466),hdE P "__static_attributes__" 788 (.ref 467)] 5}
noncomputable abbrev hd457:Obj:=hdN #[.int 119 0,.int 4 0,.ref 465]
noncomputable abbrev hd458:Obj:=hdK "NoManner" "NoManner" 769 117 456 772
noncomputable abbrev hd459:Obj:={cls:= .type "frame",slots:= #[some (.ref 458),some (.ref 3),some (.ref 455),none,some (hdS "framerooms.errors" 187),none,some (.ref 0)]}
noncomputable abbrev hd462:Obj:=hdT #[hdS "self" 782,hdS "found" 783]
noncomputable abbrev hd464:Obj:=hdG "__init__" "NoManner.__init__" (inClass (top 24) 0)
noncomputable abbrev hd465:Obj:=hdP "__init__" "NoManner.__init__" 779 119 2 460 784
noncomputable abbrev hd466:Obj:=hdF "__init__" "NoManner.__init__" (inClass (top 24) 0) "framerooms.errors" 187 465
noncomputable abbrev hd467:Obj:=hdT #[hdS "found" 787]
noncomputable abbrev hd468:Obj:={cls:= .type "dict",data:=Data.dict #[hdE P "__module__" 774 (hdS "framerooms.errors" 187),hdE P "__firstlineno__" 778 (.int 117 777),hdE P "__init__" 786 (.ref 466),hdE P "__static_attributes__" 788 (.ref 467),hdE P "__doc__" 789 (.none)] 2}
noncomputable abbrev hd469:Obj:={cls:= .type "type",data:=Data.cls {name:=Str.ofString "NoManner",bases:=[.ref 31],mro:=[.ref 469,.ref 31,.type "ValueError",.type "Exception",.type "BaseException",.type "object"],ns:=468,qualname:=Str.ofString "NoManner"},slots:= #[some (.ref 453),none,some (hdS "NoManner" 767),some (hdS "NoManner" 775),some (.builtin "ValueError.__new__"),some (.bool true)]}
noncomputable abbrev hd470:Obj:={cls:= .type "super",data:=Data.fields #[.ref 469,.ref 469,.ref 469]}
noncomputable abbrev hd471:Obj:={cls:= .type "builtin_function_or_method",data:=Data.fields #[.builtin "object.__init_subclass__",.ref 469]}
noncomputable abbrev hd474:Obj:={cls:= .type "dict",data:=Data.dict #[hdE P "__module__" 799 (hdS "framerooms.errors" 187),hdE P "__qualname__" 801 (hdS "NoNames" 800),hdE P "__firstlineno__" 803 (.int 122 802),hdE P "__init__" 811 (.ref 485),hdE P "__static_attributes__" 813 (.ref 486)] 5}
noncomputable abbrev hd476:Obj:=hdN #[.int 124 0,.int 4 0,.ref 484]
noncomputable abbrev hd477:Obj:=hdK "NoNames" "NoNames" 794 122 475 797
noncomputable abbrev hd478:Obj:={cls:= .type "frame",slots:= #[some (.ref 477),some (.ref 3),some (.ref 474),none,some (hdS "framerooms.errors" 187),none,some (.ref 0)]}
noncomputable abbrev hd481:Obj:=hdT #[hdS "self" 807,hdS "found" 808]
noncomputable abbrev hd483:Obj:=hdG "__init__" "NoNames.__init__" (inClass (top 25) 0)
noncomputable abbrev hd484:Obj:=hdP "__init__" "NoNames.__init__" 804 124 2 479 809
noncomputable abbrev hd485:Obj:=hdF "__init__" "NoNames.__init__" (inClass (top 25) 0) "framerooms.errors" 187 484
noncomputable abbrev hd486:Obj:=hdT #[hdS "found" 812]
noncomputable abbrev hd487:Obj:={cls:= .type "dict",data:=Data.dict #[hdE P "__module__" 799 (hdS "framerooms.errors" 187),hdE P "__firstlineno__" 803 (.int 122 802),hdE P "__init__" 811 (.ref 485),hdE P "__static_attributes__" 813 (.ref 486),hdE P "__doc__" 814 (.none)] 2}
noncomputable abbrev hd488:Obj:={cls:= .type "type",data:=Data.cls {name:=Str.ofString "NoNames",bases:=[.ref 31],mro:=[.ref 488,.ref 31,.type "ValueError",.type "Exception",.type "BaseException",.type "object"],ns:=487,qualname:=Str.ofString "NoNames"},slots:= #[some (.ref 472),none,some (hdS "NoNames" 792),some (hdS "NoNames" 800),some (.builtin "ValueError.__new__"),some (.bool true)]}
noncomputable abbrev hd489:Obj:={cls:= .type "super",data:=Data.fields #[.ref 488,.ref 488,.ref 488]}
noncomputable abbrev hd490:Obj:={cls:= .type "builtin_function_or_method",data:=Data.fields #[.builtin "object.__init_subclass__",.ref 488]}
noncomputable abbrev hd3xxxx:Obj:={cls:= .type "dict",data:=Data.dict #[hdE P "__name__" 165 (hdS "law_framerooms_k03_refusals_apart" 888),hdE P "__doc__" 166 (.none),hdE P "__package__" 167 (.none),hdE P "__loader__" 168 (.builtin ("__main__.__loader__#opa" ++ "que")),hdE P "__spec__" 169 (.none),hdE P "__annotations__" 170 (.ref 6),hdE P "__builtins__" 171 (.ref 4),hdE P "__file__" 173 (hdS "/claim/cut.py" 172),hdE P "__cached__" 174 (.none),hdE P "RoomError" 214 (.ref 31),hdE P "NoNumber" 239 (.ref 51),hdE P "NoName" 264 (.ref 70),hdE P "NoValue" 289 (.ref 89),hdE P "NoFrame" 314 (.ref 108),hdE P "Gone" 341 (.ref 127),hdE P "Ground" 364 (.ref 146),hdE P "TooMany" 389 (.ref 165),hdE P "Full" 416 (.ref 184),hdE P "NoWay" 441 (.ref 203),hdE P "NoCell" 466 (.ref 222),hdE P "NoHands" 491 (.ref 241),hdE P "Kept" 516 (.ref 260),hdE P "NoDeed" 541 (.ref 279),hdE P "TooDeep" 566 (.ref 298),hdE P "TooWide" 591 (.ref 317),hdE P "TooLong" 616 (.ref 336),hdE P "Twice" 641 (.ref 355),hdE P "NoLabel" 666 (.ref 374),hdE P "NoChoices" 691 (.ref 393),hdE P "NoMaking" 716 (.ref 412),hdE P "NotStraight" 741 (.ref 431),hdE P "NoText" 766 (.ref 450),hdE P "NoManner" 791 (.ref 469),hdE P "NoNames" 816 (.ref 488),hdE P "NoLine" 841 (.ref 507),hdE P "NoHouse" 864 (.ref 526),hdE P "NoProgram" 887 (.ref 545),hdE P "_law_cell" 897 (.ref 554),hdE P "_law_box" 904 (.ref 561),hdE P "_law_take" 915 (.ref 568),hdE P "_law_thing" 921 (.ref 573),hdE P "_law_made" 927 (.ref 578),hdE P "_law_field" 935 (.ref 585),hdE P "_law_kinds" 943 (.ref 592),hdE P "_law_apart" 949 (.ref 597),hdE P "_law_number" 957 (.ref 604),hdE P "_law_text" 963 (.ref 609),hdE P "_law_plain_right" 969 (.ref 614),hdE P "_law_bare_right" 982 (.ref 621),hdE P "law" 997 (.ref 628)] 50}
noncomputable abbrev hd12xxxxx:Obj:=hdN #[.int 2 0,.int 0 0,.ref 20,.int 6 0,.int 0 0,.ref 40,.int 11 0,.int 0 0,.ref 59,.int 16 0,.int 0 0,.ref 78,.int 21 0,.int 0 0,.ref 97,.int 26 0,.int 0 0,.ref 116,.int 32 0,.int 0 0,.ref 135,.int 36 0,.int 0 0,.ref 154,.int 41 0,.int 0 0,.ref 173,.int 47 0,.int 0 0,.ref 192,.int 52 0,.int 0 0,.ref 211,.int 57 0,.int 0 0,.ref 230,.int 62 0,.int 0 0,.ref 249,.int 67 0,.int 0 0,.ref 268,.int 72 0,.int 0 0,.ref 287,.int 77 0,.int 0 0,.ref 306,.int 82 0,.int 0 0,.ref 325,.int 87 0,.int 0 0,.ref 344,.int 92 0,.int 0 0,.ref 363,.int 97 0,.int 0 0,.ref 382,.int 102 0,.int 0 0,.ref 401,.int 107 0,.int 0 0,.ref 420,.int 112 0,.int 0 0,.ref 439,.int 117 0,.int 0 0,.ref 458,.int 122 0,.int 0 0,.ref 477,.int 127 0,.int 0 0,.ref 496,.int 132 0,.int 0 0,.ref 515,.int 136 0,.int 0 0,.ref 534,.int 141 0,.int 0 0,.ref 553,.int 145 0,.int 0 0,.ref 560,.int 147 0,.int 0 0,.ref 567,.int 156 0,.int 0 0,.ref 572,.int 159 0,.int 0 0,.ref 577,.int 175 0,.int 0 0,.ref 584,.int 195 0,.int 0 0,.ref 591,.int 207 0,.int 0 0,.ref 596,.int 211 0,.int 0 0,.ref 603,.int 216 0,.int 0 0,.ref 608,.int 219 0,.int 0 0,.ref 613,.int 226 0,.int 0 0,.ref 620,.int 234 0,.int 0 0,.ref 627]
noncomputable abbrev hd31xxxx:Obj:={cls:= .type "type",data:=Data.cls {name:=Str.ofString "RoomError",bases:=[.type "ValueError"],mro:=[.ref 31,.type "ValueError",.type "Exception",.type "BaseException",.type "object"],ns:=30,qualname:=Str.ofString "RoomError",subclasses:=[.ref 51,.ref 70,.ref 89,.ref 108,.ref 127,.ref 146,.ref 165,.ref 184,.ref 203,.ref 222,.ref 241,.ref 260,.ref 279,.ref 298,.ref 317,.ref 336,.ref 355,.ref 374,.ref 393,.ref 412,.ref 431,.ref 450,.ref 469,.ref 488,.ref 507,.ref 526,.ref 545]},slots:= #[some (.ref 15),none,some (hdS "RoomError" 189),some (hdS "RoomError" 197),some (.builtin "ValueError.__new__"),some (.bool true)]}
noncomputable abbrev hd493:Obj:={cls:= .type "dict",data:=Data.dict #[hdE P "__module__" 824 (hdS "framerooms.errors" 187),hdE P "__qualname__" 826 (hdS "NoLine" 825),hdE P "__firstlineno__" 828 (.int 127 827),hdE P "__init__" 836 (.ref 504),hdE P "__static_attributes__" 838 (.ref 505)] 5}
noncomputable abbrev hd495:Obj:=hdN #[.int 129 0,.int 4 0,.ref 503]
noncomputable abbrev hd496:Obj:=hdK "NoLine" "NoLine" 819 127 494 822
noncomputable abbrev hd497:Obj:={cls:= .type "frame",slots:= #[some (.ref 496),some (.ref 3),some (.ref 493),none,some (hdS "framerooms.errors" 187),none,some (.ref 0)]}
noncomputable abbrev hd500:Obj:=hdT #[hdS "self" 832,hdS "found" 833]
noncomputable abbrev hd502:Obj:=hdG "__init__" "NoLine.__init__" (inClass (top 26) 0)
noncomputable abbrev hd503:Obj:=hdP "__init__" "NoLine.__init__" 829 129 2 498 834
noncomputable abbrev hd504:Obj:=hdF "__init__" "NoLine.__init__" (inClass (top 26) 0) "framerooms.errors" 187 503
noncomputable abbrev hd505:Obj:=hdT #[hdS "found" 837]
noncomputable abbrev hd506:Obj:={cls:= .type "dict",data:=Data.dict #[hdE P "__module__" 824 (hdS "framerooms.errors" 187),hdE P "__firstlineno__" 828 (.int 127 827),hdE P "__init__" 836 (.ref 504),hdE P "__static_attributes__" 838 (.ref 505),hdE P "__doc__" 839 (.none)] 2}
noncomputable abbrev hd507:Obj:={cls:= .type "type",data:=Data.cls {name:=Str.ofString "NoLine",bases:=[.ref 31],mro:=[.ref 507,.ref 31,.type "ValueError",.type "Exception",.type "BaseException",.type "object"],ns:=506,qualname:=Str.ofString "NoLine"},slots:= #[some (.ref 491),none,some (hdS "NoLine" 817),some (hdS "NoLine" 825),some (.builtin "ValueError.__new__"),some (.bool true)]}
noncomputable abbrev hd508:Obj:={cls:= .type "super",data:=Data.fields #[.ref 507,.ref 507,.ref 507]}
noncomputable abbrev hd509:Obj:={cls:= .type "builtin_function_or_method",data:=Data.fields #[.builtin "object.__init_subclass__",.ref 507]}
noncomputable abbrev hd512:Obj:={cls:= .type "dict",data:=Data.dict #[hdE P "__module__" 849 (hdS "framerooms.errors" 187),hdE P "__qualname__" 851 (hdS "NoHouse" 850),hdE P "__firstlineno__" 853 (.int 132 852),hdE P "__init__" 860 (.ref 523),hdE P "__static_attributes__" 861 (.ref 524)] 5}
noncomputable abbrev hd514:Obj:=hdN #[.int 134 0,.int 4 0,.ref 522]
noncomputable abbrev hd515:Obj:=hdK "NoHouse" "NoHouse" 844 132 513 847
noncomputable abbrev hd516:Obj:={cls:= .type "frame",slots:= #[some (.ref 515),some (.ref 3),some (.ref 512),none,some (hdS "framerooms.errors" 187),none,some (.ref 0)]}
noncomputable abbrev hd519:Obj:=hdT #[hdS "self" 857]
noncomputable abbrev hd521:Obj:=hdG "__init__" "NoHouse.__init__" (inClass (top 27) 0)
noncomputable abbrev hd522:Obj:=hdP "__init__" "NoHouse.__init__" 854 134 1 517 858
noncomputable abbrev hd523:Obj:=hdF "__init__" "NoHouse.__init__" (inClass (top 27) 0) "framerooms.errors" 187 522
noncomputable abbrev hd525:Obj:={cls:= .type "dict",data:=Data.dict #[hdE P "__module__" 849 (hdS "framerooms.errors" 187),hdE P "__firstlineno__" 853 (.int 132 852),hdE P "__init__" 860 (.ref 523),hdE P "__static_attributes__" 861 (.ref 524),hdE P "__doc__" 862 (.none)] 2}
noncomputable abbrev hd526:Obj:={cls:= .type "type",data:=Data.cls {name:=Str.ofString "NoHouse",bases:=[.ref 31],mro:=[.ref 526,.ref 31,.type "ValueError",.type "Exception",.type "BaseException",.type "object"],ns:=525,qualname:=Str.ofString "NoHouse"},slots:= #[some (.ref 510),none,some (hdS "NoHouse" 842),some (hdS "NoHouse" 850),some (.builtin "ValueError.__new__"),some (.bool true)]}
noncomputable abbrev hd527:Obj:={cls:= .type "super",data:=Data.fields #[.ref 526,.ref 526,.ref 526]}
noncomputable abbrev hd528:Obj:={cls:= .type "builtin_function_or_method",data:=Data.fields #[.builtin "object.__init_subclass__",.ref 526]}
noncomputable abbrev hd531:Obj:={cls:= .type "dict",data:=Data.dict #[hdE P "__module__" 872 (hdS "framerooms.errors" 187),hdE P "__qualname__" 874 (hdS "NoProgram" 873),hdE P "__firstlineno__" 876 (.int 136 875),hdE P "__init__" 883 (.ref 542),hdE P "__static_attributes__" 884 (.ref 543)] 5}
noncomputable abbrev hd533:Obj:=hdN #[.int 138 0,.int 4 0,.ref 541]
noncomputable abbrev hd534:Obj:=hdK "NoProgram" "NoProgram" 867 136 532 870
noncomputable abbrev hd535:Obj:={cls:= .type "frame",slots:= #[some (.ref 534),some (.ref 3),some (.ref 531),none,some (hdS "framerooms.errors" 187),none,some (.ref 0)]}
noncomputable abbrev hd538:Obj:=hdT #[hdS "self" 880]
noncomputable abbrev hd540:Obj:=hdG "__init__" "NoProgram.__init__" (inClass (top 28) 0)
noncomputable abbrev hd541:Obj:=hdP "__init__" "NoProgram.__init__" 877 138 1 536 881
noncomputable abbrev hd542:Obj:=hdF "__init__" "NoProgram.__init__" (inClass (top 28) 0) "framerooms.errors" 187 541
noncomputable abbrev hd544:Obj:={cls:= .type "dict",data:=Data.dict #[hdE P "__module__" 872 (hdS "framerooms.errors" 187),hdE P "__firstlineno__" 876 (.int 136 875),hdE P "__init__" 883 (.ref 542),hdE P "__static_attributes__" 884 (.ref 543),hdE P "__doc__" 885 (.none)] 2}
noncomputable abbrev hd545:Obj:={cls:= .type "type",data:=Data.cls {name:=Str.ofString "NoProgram",bases:=[.ref 31],mro:=[.ref 545,.ref 31,.type "ValueError",.type "Exception",.type "BaseException",.type "object"],ns:=544,qualname:=Str.ofString "NoProgram"},slots:= #[some (.ref 529),none,some (hdS "NoProgram" 865),some (hdS "NoProgram" 873),some (.builtin "ValueError.__new__"),some (.bool true)]}
noncomputable abbrev hd546:Obj:={cls:= .type "super",data:=Data.fields #[.ref 545,.ref 545,.ref 545]}
noncomputable abbrev hd547:Obj:={cls:= .type "builtin_function_or_method",data:=Data.fields #[.builtin "object.__init_subclass__",.ref 545]}
noncomputable abbrev hd550:Obj:=hdT #[hdS "_law_script" 893,hdS "_law_k" 894]
noncomputable abbrev hd552:Obj:=hdG "_law_cell" "_law_cell" (top 30)
noncomputable abbrev hd553:Obj:=hdP "_law_cell" "_law_cell" 890 141 2 548 895
noncomputable abbrev hd554:Obj:=hdF "_law_cell" "_law_cell" (top 30) "law_framerooms_k03_refusals_apart" 888 553
noncomputable abbrev hd557:Obj:=hdT #[hdS "_law_cell_here" 901]
noncomputable abbrev hd559:Obj:=hdG "_law_box" "_law_box" (top 31)
noncomputable abbrev hd560:Obj:=hdP "_law_box" "_law_box" 898 145 1 555 902
noncomputable abbrev hd561:Obj:=hdF "_law_box" "_law_box" (top 31) "law_framerooms_k03_refusals_apart" 888 560
noncomputable abbrev hd564:Obj:=hdT #[hdS "_law_box_here" 908,hdS "_law_many" 909,hdS "_law_digit" 910,hdS "_law_one" 911,hdS "_law_other" 912]
noncomputable abbrev hd566:Obj:=hdG "_law_take" "_law_take" (top 32)
noncomputable abbrev hd567:Obj:=hdP "_law_take" "_law_take" 905 147 2 562 913
noncomputable abbrev hd568:Obj:=hdF "_law_take" "_law_take" (top 32) "law_framerooms_k03_refusals_apart" 888 567
noncomputable abbrev hd571:Obj:=hdG "_law_thing" "_law_thing" (top 33)
noncomputable abbrev hd572:Obj:=hdO #[hdS "_law_thing" 916,hdS "_law_thing" 917,hdS "/claim/cut.py" 918,.int 156 0,.int 1 0,.int 0 0,.int 0 0,.int 3 0,.ref 569,.bool true,.int 181 0,.ref 570,.none,.none,.none,.ref 571,.int 919 0,.int 156 0,hdS "/claim/cut.py" 920]
noncomputable abbrev hd573:Obj:=hdF "_law_thing" "_law_thing" (top 33) "law_framerooms_k03_refusals_apart" 888 572
noncomputable abbrev hd576:Obj:=hdG "_law_made" "_law_made" (top 34)
noncomputable abbrev hd577:Obj:=hdO #[hdS "_law_made" 922,hdS "_law_made" 923,hdS "/claim/cut.py" 924,.int 159 0,.int 2 0,.int 0 0,.int 0 0,.int 3 0,.ref 574,.bool true,.int 181 0,.ref 575,.none,.none,.none,.ref 576,.int 925 0,.int 159 0,hdS "/claim/cut.py" 926]
noncomputable abbrev hd578:Obj:=hdF "_law_made" "_law_made" (top 34) "law_framerooms_k03_refusals_apart" 888 577
noncomputable abbrev hd581:Obj:=hdT #[hdS "_law_e" 931,hdS "_law_name" 932]
noncomputable abbrev hd583:Obj:=hdG "_law_field" "_law_field" (top 35)
noncomputable abbrev hd584:Obj:=hdP "_law_field" "_law_field" 928 175 2 579 933
noncomputable abbrev hd585:Obj:=hdF "_law_field" "_law_field" (top 35) "law_framerooms_k03_refusals_apart" 888 584
noncomputable abbrev hd588:Obj:=hdT #[hdS "_law_e" 939,hdS "_law_kinds_here" 940]
noncomputable abbrev hd590:Obj:=hdG "_law_kinds" "_law_kinds" (top 36)
noncomputable abbrev hd591:Obj:=hdP "_law_kinds" "_law_kinds" 936 195 1 586 941
noncomputable abbrev hd592:Obj:=hdF "_law_kinds" "_law_kinds" (top 36) "law_framerooms_k03_refusals_apart" 888 591
noncomputable abbrev hd595:Obj:=hdG "_law_apart" "_law_apart" (top 37)
noncomputable abbrev hd596:Obj:=hdO #[hdS "_law_apart" 944,hdS "_law_apart" 945,hdS "/claim/cut.py" 946,.int 207 0,.int 2 0,.int 0 0,.int 0 0,.int 3 0,.ref 593,.bool true,.int 181 0,.ref 594,.none,.none,.none,.ref 595,.int 947 0,.int 207 0,hdS "/claim/cut.py" 948]
noncomputable abbrev hd597:Obj:=hdF "_law_apart" "_law_apart" (top 37) "law_framerooms_k03_refusals_apart" 888 596
noncomputable abbrev hd600:Obj:=hdT #[hdS "_law_e" 953,hdS "_law_kinds_here" 954]
noncomputable abbrev hd602:Obj:=hdG "_law_number" "_law_number" (top 38)
noncomputable abbrev hd603:Obj:=hdP "_law_number" "_law_number" 950 211 1 598 955
noncomputable abbrev hd604:Obj:=hdF "_law_number" "_law_number" (top 38) "law_framerooms_k03_refusals_apart" 888 603
noncomputable abbrev hd607:Obj:=hdG "_law_text" "_law_text" (top 39)
noncomputable abbrev hd608:Obj:=hdO #[hdS "_law_text" 958,hdS "_law_text" 959,hdS "/claim/cut.py" 960,.int 216 0,.int 1 0,.int 0 0,.int 0 0,.int 3 0,.ref 605,.bool true,.int 181 0,.ref 606,.none,.none,.none,.ref 607,.int 961 0,.int 216 0,hdS "/claim/cut.py" 962]
noncomputable abbrev hd609:Obj:=hdF "_law_text" "_law_text" (top 39) "law_framerooms_k03_refusals_apart" 888 608
noncomputable abbrev hd612:Obj:=hdG "_law_plain_right" "_law_plain_right" (top 40)
noncomputable abbrev hd613:Obj:=hdO #[hdS "_law_plain_right" 964,hdS "_law_plain_right" 965,hdS "/claim/cut.py" 966,.int 219 0,.int 1 0,.int 0 0,.int 0 0,.int 3 0,.ref 610,.bool true,.int 181 0,.ref 611,.none,.none,.none,.ref 612,.int 967 0,.int 219 0,hdS "/claim/cut.py" 968]
noncomputable abbrev hd614:Obj:=hdF "_law_plain_right" "_law_plain_right" (top 40) "law_framerooms_k03_refusals_apart" 888 613
noncomputable abbrev hd617:Obj:=hdT #[hdS "_law_box_here" 973,hdS "_law_far" 974,hdS "_law_some" 975,hdS "_law_thing_here" 976,hdS "_law_made_here" 977,hdS "_law_name" 978,hdS "_law_own" 979]
noncomputable abbrev hd619:Obj:=hdG "_law_bare_right" "_law_bare_right" (top 41)
noncomputable abbrev hd620:Obj:=hdP "_law_bare_right" "_law_bare_right" 970 226 1 615 980
noncomputable abbrev hd621:Obj:=hdF "_law_bare_right" "_law_bare_right" (top 41) "law_framerooms_k03_refusals_apart" 888 620
noncomputable abbrev hd624:Obj:=hdT #[hdS "_law_script" 986,hdS "_law_k" 987,hdS "_law_box_here" 988,hdS "_law_thing_here" 989,hdS "_law_more" 990,hdS "_law_seen" 991,hdS "_law_made_here" 992,hdS "_law_name" 993,hdS "_law_own" 994]
noncomputable abbrev hd626:Obj:=hdG "law" "law" (top 42)
noncomputable abbrev hd627:Obj:=hdP "law" "law" 983 234 1 622 995
noncomputable abbrev hd628:Obj:=hdF "law" "law" (top 42) "law_framerooms_k03_refusals_apart" 888 627
noncomputable def hdH_pre:Heap:=⟨⟨[boot_o_0 P,boot_o_1 P,boot_o_2 P,boot_o_3 P,boot_o_4 P,boot_o_5 P,boot_o_6 P,boot_o_7 P,boot_o_8 P,boot_o_9 P,boot_o_10 P,hd11,hd12,hd13,hd14]⟩,{}⟩
noncomputable def hdH_cut7:Heap:=⟨⟨[boot_o_0 P,boot_o_1 P,boot_o_2 P,hd3 P,boot_o_4 P,boot_o_5 P,boot_o_6 P,boot_o_7 P,boot_o_8 P,boot_o_9 P,boot_o_10 P,hd11,hd12x,hd13,hd14,hd15,hd16,hd17 P,hd11,hd19,hd20,hd21,hd11,hd12,hd24,hd11,hd26,hd27,hd28,hd11,hd30 P,hd31,hd32,hd33,hd34,hd35,hd16,hd37 P,hd11,hd39,hd40,hd41,hd11,hd12,hd44,hd11,hd46,hd47,hd48,hd49,hd50 P,hd51,hd52,hd53,hd35,hd16,hd56 P,hd11,hd58,hd59,hd60,hd11,hd12,hd63,hd11,hd65,hd66,hd67,hd68,hd69 P,hd70,hd71,hd72,hd35,hd16,hd75 P,hd11,hd77,hd78,hd79,hd11,hd12,hd82,hd11,hd84,hd85,hd86,hd87,hd88 P,hd89,hd90,hd91,hd35,hd16,hd94 P,hd11,hd96,hd97,hd98,hd11,hd12,hd101,hd11,hd103,hd104,hd105,hd106,hd107 P,hd108,hd109,hd110,hd35,hd16,hd113 P,hd11,hd115,hd116,hd117,hd11,hd12,hd120,hd11,hd122,hd123,hd124,hd125,hd126 P,hd127,hd128,hd129,hd35,hd16,hd132 P,hd11,hd134,hd135,hd136,hd11,hd12,hd139,hd11,hd141,hd142,hd143,hd11,hd145 P,hd146,hd147,hd148]⟩,{}⟩
noncomputable def hdH_cut13:Heap:=⟨⟨[boot_o_0 P,boot_o_1 P,boot_o_2 P,hd3x P,boot_o_4 P,boot_o_5 P,boot_o_6 P,boot_o_7 P,boot_o_8 P,boot_o_9 P,boot_o_10 P,hd11,hd12xx,hd13,hd14,hd15,hd16,hd17 P,hd11,hd19,hd20,hd21,hd11,hd12,hd24,hd11,hd26,hd27,hd28,hd11,hd30 P,hd31x,hd32,hd33,hd34,hd35,hd16,hd37 P,hd11,hd39,hd40,hd41,hd11,hd12,hd44,hd11,hd46,hd47,hd48,hd49,hd50 P,hd51,hd52,hd53,hd35,hd16,hd56 P,hd11,hd58,hd59,hd60,hd11,hd12,hd63,hd11,hd65,hd66,hd67,hd68,hd69 P,hd70,hd71,hd72,hd35,hd16,hd75 P,hd11,hd77,hd78,hd79,hd11,hd12,hd82,hd11,hd84,hd85,hd86,hd87,hd88 P,hd89,hd90,hd91,hd35,hd16,hd94 P,hd11,hd96,hd97,hd98,hd11,hd12,hd101,hd11,hd103,hd104,hd105,hd106,hd107 P,hd108,hd109,hd110,hd35,hd16,hd113 P,hd11,hd115,hd116,hd117,hd11,hd12,hd120,hd11,hd122,hd123,hd124,hd125,hd126 P,hd127,hd128,hd129,hd35,hd16,hd132 P,hd11,hd134,hd135,hd136,hd11,hd12,hd139,hd11,hd141,hd142,hd143,hd11,hd145 P,hd146,hd147,hd148,hd35,hd16,hd151 P,hd11,hd153,hd154,hd155,hd11,hd12,hd158,hd11,hd160,hd161,hd162,hd163,hd164 P,hd165,hd166,hd167,hd35,hd16,hd170 P,hd11,hd172,hd173,hd174,hd11,hd12,hd177,hd11,hd179,hd180,hd181,hd182,hd183 P,hd184,hd185,hd186,hd35,hd16,hd189 P,hd11,hd191,hd192,hd193,hd11,hd12,hd196,hd11,hd198,hd199,hd200,hd201,hd202 P,hd203,hd204,hd205,hd35,hd16,hd208 P,hd11,hd210,hd211,hd212,hd11,hd12,hd215,hd11,hd217,hd218,hd219,hd220,hd221 P,hd222,hd223,hd224,hd35,hd16,hd227 P,hd11,hd229,hd230,hd231,hd11,hd12,hd234,hd11,hd236,hd237,hd238,hd239,hd240 P,hd241,hd242,hd243,hd35,hd16,hd246 P,hd11,hd248,hd249,hd250,hd11,hd12,hd253,hd11,hd255,hd256,hd257,hd258,hd259 P,hd260,hd261,hd262]⟩,{}⟩
noncomputable def hdH_cut19:Heap:=⟨⟨[boot_o_0 P,boot_o_1 P,boot_o_2 P,hd3xx P,boot_o_4 P,boot_o_5 P,boot_o_6 P,boot_o_7 P,boot_o_8 P,boot_o_9 P,boot_o_10 P,hd11,hd12xxx,hd13,hd14,hd15,hd16,hd17 P,hd11,hd19,hd20,hd21,hd11,hd12,hd24,hd11,hd26,hd27,hd28,hd11,hd30 P,hd31xx,hd32,hd33,hd34,hd35,hd16,hd37 P,hd11,hd39,hd40,hd41,hd11,hd12,hd44,hd11,hd46,hd47,hd48,hd49,hd50 P,hd51,hd52,hd53,hd35,hd16,hd56 P,hd11,hd58,hd59,hd60,hd11,hd12,hd63,hd11,hd65,hd66,hd67,hd68,hd69 P,hd70,hd71,hd72,hd35,hd16,hd75 P,hd11,hd77,hd78,hd79,hd11,hd12,hd82,hd11,hd84,hd85,hd86,hd87,hd88 P,hd89,hd90,hd91,hd35,hd16,hd94 P,hd11,hd96,hd97,hd98,hd11,hd12,hd101,hd11,hd103,hd104,hd105,hd106,hd107 P,hd108,hd109,hd110,hd35,hd16,hd113 P,hd11,hd115,hd116,hd117,hd11,hd12,hd120,hd11,hd122,hd123,hd124,hd125,hd126 P,hd127,hd128,hd129,hd35,hd16,hd132 P,hd11,hd134,hd135,hd136,hd11,hd12,hd139,hd11,hd141,hd142,hd143,hd11,hd145 P,hd146,hd147,hd148,hd35,hd16,hd151 P,hd11,hd153,hd154,hd155,hd11,hd12,hd158,hd11,hd160,hd161,hd162,hd163,hd164 P,hd165,hd166,hd167,hd35,hd16,hd170 P,hd11,hd172,hd173,hd174,hd11,hd12,hd177,hd11,hd179,hd180,hd181,hd182,hd183 P,hd184,hd185,hd186,hd35,hd16,hd189 P,hd11,hd191,hd192,hd193,hd11,hd12,hd196,hd11,hd198,hd199,hd200,hd201,hd202 P,hd203,hd204,hd205,hd35,hd16,hd208 P,hd11,hd210,hd211,hd212,hd11,hd12,hd215,hd11,hd217,hd218,hd219,hd220,hd221 P,hd222,hd223,hd224,hd35,hd16,hd227 P,hd11,hd229,hd230,hd231,hd11,hd12,hd234,hd11,hd236,hd237,hd238,hd239,hd240 P,hd241,hd242,hd243,hd35,hd16,hd246 P,hd11,hd248,hd249,hd250,hd11,hd12,hd253,hd11,hd255,hd256,hd257,hd258,hd259 P,hd260,hd261,hd262,hd35,hd16,hd265 P,hd11,hd267,hd268,hd269,hd11,hd12,hd272,hd11,hd274,hd275,hd276,hd277,hd278 P,hd279,hd280,hd281,hd35,hd16,hd284 P,hd11,hd286,hd287,hd288,hd11,hd12,hd291,hd11,hd293,hd294,hd295,hd296,hd297 P,hd298,hd299,hd300,hd35,hd16,hd303 P,hd11,hd305,hd306,hd307,hd11,hd12,hd310,hd11,hd312,hd313,hd314,hd315,hd316 P,hd317,hd318,hd319,hd35,hd16,hd322 P,hd11,hd324,hd325,hd326,hd11,hd12,hd329,hd11,hd331,hd332,hd333,hd334,hd335 P,hd336,hd337,hd338,hd35,hd16,hd341 P,hd11,hd343,hd344,hd345,hd11,hd12,hd348,hd11,hd350,hd351,hd352,hd353,hd354 P,hd355,hd356,hd357,hd35,hd16,hd360 P,hd11,hd362,hd363,hd364,hd11,hd12,hd367,hd11,hd369,hd370,hd371,hd372,hd373 P,hd374,hd375,hd376]⟩,{}⟩
noncomputable def hdH_cut25:Heap:=⟨⟨[boot_o_0 P,boot_o_1 P,boot_o_2 P,hd3xxx P,boot_o_4 P,boot_o_5 P,boot_o_6 P,boot_o_7 P,boot_o_8 P,boot_o_9 P,boot_o_10 P,hd11,hd12xxxx,hd13,hd14,hd15,hd16,hd17 P,hd11,hd19,hd20,hd21,hd11,hd12,hd24,hd11,hd26,hd27,hd28,hd11,hd30 P,hd31xxx,hd32,hd33,hd34,hd35,hd16,hd37 P,hd11,hd39,hd40,hd41,hd11,hd12,hd44,hd11,hd46,hd47,hd48,hd49,hd50 P,hd51,hd52,hd53,hd35,hd16,hd56 P,hd11,hd58,hd59,hd60,hd11,hd12,hd63,hd11,hd65,hd66,hd67,hd68,hd69 P,hd70,hd71,hd72,hd35,hd16,hd75 P,hd11,hd77,hd78,hd79,hd11,hd12,hd82,hd11,hd84,hd85,hd86,hd87,hd88 P,hd89,hd90,hd91,hd35,hd16,hd94 P,hd11,hd96,hd97,hd98,hd11,hd12,hd101,hd11,hd103,hd104,hd105,hd106,hd107 P,hd108,hd109,hd110,hd35,hd16,hd113 P,hd11,hd115,hd116,hd117,hd11,hd12,hd120,hd11,hd122,hd123,hd124,hd125,hd126 P,hd127,hd128,hd129,hd35,hd16,hd132 P,hd11,hd134,hd135,hd136,hd11,hd12,hd139,hd11,hd141,hd142,hd143,hd11,hd145 P,hd146,hd147,hd148,hd35,hd16,hd151 P,hd11,hd153,hd154,hd155,hd11,hd12,hd158,hd11,hd160,hd161,hd162,hd163,hd164 P,hd165,hd166,hd167,hd35,hd16,hd170 P,hd11,hd172,hd173,hd174,hd11,hd12,hd177,hd11,hd179,hd180,hd181,hd182,hd183 P,hd184,hd185,hd186,hd35,hd16,hd189 P,hd11,hd191,hd192,hd193,hd11,hd12,hd196,hd11,hd198,hd199,hd200,hd201,hd202 P,hd203,hd204,hd205,hd35,hd16,hd208 P,hd11,hd210,hd211,hd212,hd11,hd12,hd215,hd11,hd217,hd218,hd219,hd220,hd221 P,hd222,hd223,hd224,hd35,hd16,hd227 P,hd11,hd229,hd230,hd231,hd11,hd12,hd234,hd11,hd236,hd237,hd238,hd239,hd240 P,hd241,hd242,hd243,hd35,hd16,hd246 P,hd11,hd248,hd249,hd250,hd11,hd12,hd253,hd11,hd255,hd256,hd257,hd258,hd259 P,hd260,hd261,hd262,hd35,hd16,hd265 P,hd11,hd267,hd268,hd269,hd11,hd12,hd272,hd11,hd274,hd275,hd276,hd277,hd278 P,hd279,hd280,hd281,hd35,hd16,hd284 P,hd11,hd286,hd287,hd288,hd11,hd12,hd291,hd11,hd293,hd294,hd295,hd296,hd297 P,hd298,hd299,hd300,hd35,hd16,hd303 P,hd11,hd305,hd306,hd307,hd11,hd12,hd310,hd11,hd312,hd313,hd314,hd315,hd316 P,hd317,hd318,hd319,hd35,hd16,hd322 P,hd11,hd324,hd325,hd326,hd11,hd12,hd329,hd11,hd331,hd332,hd333,hd334,hd335 P,hd336,hd337,hd338,hd35,hd16,hd341 P,hd11,hd343,hd344,hd345,hd11,hd12,hd348,hd11,hd350,hd351,hd352,hd353,hd354 P,hd355,hd356,hd357,hd35,hd16,hd360 P,hd11,hd362,hd363,hd364,hd11,hd12,hd367,hd11,hd369,hd370,hd371,hd372,hd373 P,hd374,hd375,hd376,hd35,hd16,hd379 P,hd11,hd381,hd382,hd383,hd11,hd12,hd386,hd11,hd388,hd389,hd390,hd391,hd392 P,hd393,hd394,hd395,hd35,hd16,hd398 P,hd11,hd400,hd401,hd402,hd11,hd12,hd405,hd11,hd407,hd408,hd409,hd410,hd411 P,hd412,hd413,hd414,hd35,hd16,hd417 P,hd11,hd419,hd420,hd421,hd11,hd12,hd424,hd11,hd426,hd427,hd428,hd429,hd430 P,hd431,hd432,hd433,hd35,hd16,hd436 P,hd11,hd438,hd439,hd440,hd11,hd12,hd443,hd11,hd445,hd446,hd447,hd448,hd449 P,hd450,hd451,hd452,hd35,hd16,hd455 P,hd11,hd457,hd458,hd459,hd11,hd12,hd462,hd11,hd464,hd465,hd466,hd467,hd468 P,hd469,hd470,hd471,hd35,hd16,hd474 P,hd11,hd476,hd477,hd478,hd11,hd12,hd481,hd11,hd483,hd484,hd485,hd486,hd487 P,hd488,hd489,hd490]⟩,{}⟩
noncomputable def hdH_last:Heap:=⟨⟨[boot_o_0 P,boot_o_1 P,boot_o_2 P,hd3xxxx P,boot_o_4 P,boot_o_5 P,boot_o_6 P,boot_o_7 P,boot_o_8 P,boot_o_9 P,boot_o_10 P,hd11,hd12xxxxx,hd13,hd14,hd15,hd16,hd17 P,hd11,hd19,hd20,hd21,hd11,hd12,hd24,hd11,hd26,hd27,hd28,hd11,hd30 P,hd31xxxx,hd32,hd33,hd34,hd35,hd16,hd37 P,hd11,hd39,hd40,hd41,hd11,hd12,hd44,hd11,hd46,hd47,hd48,hd49,hd50 P,hd51,hd52,hd53,hd35,hd16,hd56 P,hd11,hd58,hd59,hd60,hd11,hd12,hd63,hd11,hd65,hd66,hd67,hd68,hd69 P,hd70,hd71,hd72,hd35,hd16,hd75 P,hd11,hd77,hd78,hd79,hd11,hd12,hd82,hd11,hd84,hd85,hd86,hd87,hd88 P,hd89,hd90,hd91,hd35,hd16,hd94 P,hd11,hd96,hd97,hd98,hd11,hd12,hd101,hd11,hd103,hd104,hd105,hd106,hd107 P,hd108,hd109,hd110,hd35,hd16,hd113 P,hd11,hd115,hd116,hd117,hd11,hd12,hd120,hd11,hd122,hd123,hd124,hd125,hd126 P,hd127,hd128,hd129,hd35,hd16,hd132 P,hd11,hd134,hd135,hd136,hd11,hd12,hd139,hd11,hd141,hd142,hd143,hd11,hd145 P,hd146,hd147,hd148,hd35,hd16,hd151 P,hd11,hd153,hd154,hd155,hd11,hd12,hd158,hd11,hd160,hd161,hd162,hd163,hd164 P,hd165,hd166,hd167,hd35,hd16,hd170 P,hd11,hd172,hd173,hd174,hd11,hd12,hd177,hd11,hd179,hd180,hd181,hd182,hd183 P,hd184,hd185,hd186,hd35,hd16,hd189 P,hd11,hd191,hd192,hd193,hd11,hd12,hd196,hd11,hd198,hd199,hd200,hd201,hd202 P,hd203,hd204,hd205,hd35,hd16,hd208 P,hd11,hd210,hd211,hd212,hd11,hd12,hd215,hd11,hd217,hd218,hd219,hd220,hd221 P,hd222,hd223,hd224,hd35,hd16,hd227 P,hd11,hd229,hd230,hd231,hd11,hd12,hd234,hd11,hd236,hd237,hd238,hd239,hd240 P,hd241,hd242,hd243,hd35,hd16,hd246 P,hd11,hd248,hd249,hd250,hd11,hd12,hd253,hd11,hd255,hd256,hd257,hd258,hd259 P,hd260,hd261,hd262,hd35,hd16,hd265 P,hd11,hd267,hd268,hd269,hd11,hd12,hd272,hd11,hd274,hd275,hd276,hd277,hd278 P,hd279,hd280,hd281,hd35,hd16,hd284 P,hd11,hd286,hd287,hd288,hd11,hd12,hd291,hd11,hd293,hd294,hd295,hd296,hd297 P,hd298,hd299,hd300,hd35,hd16,hd303 P,hd11,hd305,hd306,hd307,hd11,hd12,hd310,hd11,hd312,hd313,hd314,hd315,hd316 P,hd317,hd318,hd319,hd35,hd16,hd322 P,hd11,hd324,hd325,hd326,hd11,hd12,hd329,hd11,hd331,hd332,hd333,hd334,hd335 P,hd336,hd337,hd338,hd35,hd16,hd341 P,hd11,hd343,hd344,hd345,hd11,hd12,hd348,hd11,hd350,hd351,hd352,hd353,hd354 P,hd355,hd356,hd357,hd35,hd16,hd360 P,hd11,hd362,hd363,hd364,hd11,hd12,hd367,hd11,hd369,hd370,hd371,hd372,hd373 P,hd374,hd375,hd376,hd35,hd16,hd379 P,hd11,hd381,hd382,hd383,hd11,hd12,hd386,hd11,hd388,hd389,hd390,hd391,hd392 P,hd393,hd394,hd395,hd35,hd16,hd398 P,hd11,hd400,hd401,hd402,hd11,hd12,hd405,hd11,hd407,hd408,hd409,hd410,hd411 P,hd412,hd413,hd414,hd35,hd16,hd417 P,hd11,hd419,hd420,hd421,hd11,hd12,hd424,hd11,hd426,hd427,hd428,hd429,hd430 P,hd431,hd432,hd433,hd35,hd16,hd436 P,hd11,hd438,hd439,hd440,hd11,hd12,hd443,hd11,hd445,hd446,hd447,hd448,hd449 P,hd450,hd451,hd452,hd35,hd16,hd455 P,hd11,hd457,hd458,hd459,hd11,hd12,hd462,hd11,hd464,hd465,hd466,hd467,hd468 P,hd469,hd470,hd471,hd35,hd16,hd474 P,hd11,hd476,hd477,hd478,hd11,hd12,hd481,hd11,hd483,hd484,hd485,hd486,hd487 P,hd488,hd489,hd490,hd35,hd16,hd493 P,hd11,hd495,hd496,hd497,hd11,hd12,hd500,hd11,hd502,hd503,hd504,hd505,hd506 P,hd507,hd508,hd509,hd35,hd16,hd512 P,hd11,hd514,hd515,hd516,hd11,hd12,hd519,hd11,hd521,hd522,hd523,hd11,hd525 P,hd526,hd527,hd528,hd35,hd16,hd531 P,hd11,hd533,hd534,hd535,hd11,hd12,hd538,hd11,hd540,hd541,hd542,hd11,hd544 P,hd545,hd546,hd547,hd11,hd12,hd550,hd11,hd552,hd553,hd554,hd11,hd12,hd557,hd11,hd559,hd560,hd561,hd11,hd12,hd564,hd11,hd566,hd567,hd568,hd11,hd12,hd571,hd572,hd573,hd11,hd12,hd576,hd577,hd578,hd11,hd12,hd581,hd11,hd583,hd584,hd585,hd11,hd12,hd588,hd11,hd590,hd591,hd592,hd11,hd12,hd595,hd596,hd597,hd11,hd12,hd600,hd11,hd602,hd603,hd604,hd11,hd12,hd607,hd608,hd609,hd11,hd12,hd612,hd613,hd614,hd11,hd12,hd617,hd11,hd619,hd620,hd621,hd11,hd12,hd624,hd11,hd626,hd627,hd628]⟩,{}⟩
end
noncomputable abbrev hdPr:Program:=PySem.Challenge.rw_framerooms_k03_refusals_apart.row.prog
noncomputable def hdEnv:Env:={scope:=hdPr.main.scope,locals:=mainNs,globals:=mainNs,cells:=[],code:=Value.ref 13,frame:=some 14}
noncomputable def hdB:List Stmt:=behindTheImports hdPr
noncomputable def hdC:Code:=Code.body hdB hdEnv
noncomputable def hdAnn:Option Value:=some (Value.ref 6)
noncomputable abbrev hdQ:Pos:={line:=0,col:=0,endLine:=0,endCol:=0}
theorem hdRunPre(w:World)(os:OsState):topGo treeTable hdPr w 11 hdAnn 12 ⟨boot_heap w.params,⟨[]⟩,boot_drawn,boot_toks,os⟩ (topStub hdPr)=some (⟨hdH_pre w.params,⟨[]⟩,{},187,os⟩,⟨denote treeTable hdC,hdC,{line:=0,col:=0,endLine:=0,endCol:=0},[topFrame hdQ]⟩):=by kernel_rfl
theorem hdRunBlock(w:World)(os:OsState):segRun treeTable hdPr w 11 hdAnn 1 1 ⟨hdH_pre w.params,⟨[]⟩,{},187,os⟩ (blockOf hdB hdEnv hdC {line:=0,col:=0,endLine:=0,endCol:=0} [topFrame hdQ])=some (.next,⟨hdH_pre w.params,⟨[]⟩,{},187,os⟩,hdC,{line:=0,col:=0,endLine:=0,endCol:=0}):=by kernel_rfl
theorem hdRun7(w:World)(os:OsState):segRun treeTable hdPr w 11 hdAnn 1 1697 ⟨hdH_pre w.params,⟨[]⟩,{},187,os⟩ (piecesOf ((hdB.drop 0).take 8) hdEnv hdC {line:=0,col:=0,endLine:=0,endCol:=0} [topFrame hdQ])=some (.next,⟨hdH_cut7 w.params,⟨[]⟩,{},365,os⟩,hdC,{line:=32,col:=0,endLine:=35,endCol:=57}):=by kernel_rfl
theorem hdRun13(w:World)(os:OsState):segRun treeTable hdPr w 11 hdAnn 1 1473 ⟨hdH_cut7 w.params,⟨[]⟩,{},365,os⟩ (piecesOf ((hdB.drop 8).take 6) hdEnv hdC {line:=32,col:=0,endLine:=35,endCol:=57} [topFrame hdQ])=some (.next,⟨hdH_cut13 w.params,⟨[]⟩,{},517,os⟩,hdC,{line:=62,col:=0,endLine:=66,endCol:=24}):=by kernel_rfl
theorem hdRun19(w:World)(os:OsState):segRun treeTable hdPr w 11 hdAnn 1 1471 ⟨hdH_cut13 w.params,⟨[]⟩,{},517,os⟩ (piecesOf ((hdB.drop 14).take 6) hdEnv hdC {line:=62,col:=0,endLine:=66,endCol:=24} [topFrame hdQ])=some (.next,⟨hdH_cut19 w.params,⟨[]⟩,{},667,os⟩,hdC,{line:=92,col:=0,endLine:=96,endCol:=26}):=by kernel_rfl
theorem hdRun25(w:World)(os:OsState):segRun treeTable hdPr w 11 hdAnn 1 1471 ⟨hdH_cut19 w.params,⟨[]⟩,{},667,os⟩ (piecesOf ((hdB.drop 20).take 6) hdEnv hdC {line:=92,col:=0,endLine:=96,endCol:=26} [topFrame hdQ])=some (.next,⟨hdH_cut25 w.params,⟨[]⟩,{},817,os⟩,hdC,{line:=122,col:=0,endLine:=126,endCol:=26}):=by kernel_rfl
theorem hdRun42(w:World)(os:OsState):segRun treeTable hdPr w 11 hdAnn 1 1125 ⟨hdH_cut25 w.params,⟨[]⟩,{},817,os⟩ (piecesOf ((hdB.drop 26).take 17) hdEnv hdC {line:=122,col:=0,endLine:=126,endCol:=26} [topFrame hdQ])=some (.next,⟨hdH_last w.params,⟨[]⟩,{},998,os⟩,hdC,{line:=234,col:=0,endLine:=258,endCol:=15}):=by kernel_rfl
theorem hdRunFin(w:World)(os:OsState):topRun treeTable hdPr w 11 hdAnn 2 ⟨hdH_last w.params,⟨[]⟩,{},998,os⟩ ⟨doneF .next,hdC,{line:=234,col:=0,endLine:=258,endCol:=15},[topFrame hdQ]⟩=some ⟨hdH_last w.params,⟨[]⟩,{},998,os⟩:=by kernel_rfl
theorem hdEnd(w:World)(os:OsState):topRun treeTable hdPr w 11 hdAnn 2 ⟨hdH_last w.params,⟨[]⟩,{},998,os⟩ (restOf [] hdEnv hdC {line:=234,col:=0,endLine:=258,endCol:=15} [topFrame hdQ])=some ⟨hdH_last w.params,⟨[]⟩,{},998,os⟩:=piece_nil (hdRunFin w os)
theorem hdNil:hdB.drop 43=[]:=by kernel_rfl
theorem hdSplit42:((hdB.drop 26).take 17)++([])=hdB.drop 26:=by rw[←hdNil];have:=List.take_append_drop 17 (hdB.drop 26);rwa[List.drop_drop] at this
theorem hdFrom42(w:World)(os:OsState):topRun treeTable hdPr w 11 hdAnn (1125+2) ⟨hdH_cut25 w.params,⟨[]⟩,{},817,os⟩ (restOf (hdB.drop 26) hdEnv hdC {line:=122,col:=0,endLine:=126,endCol:=26} [topFrame hdQ])=some ⟨hdH_last w.params,⟨[]⟩,{},998,os⟩:=by rw[←hdSplit42];exact piece_app (hdRun42 w os) (hdEnd w os)
theorem hdSplit25:((hdB.drop 20).take 6)++(hdB.drop 26)=hdB.drop 20:=by have:=List.take_append_drop 6 (hdB.drop 20);rwa[List.drop_drop] at this
theorem hdFrom25(w:World)(os:OsState):topRun treeTable hdPr w 11 hdAnn (1471+(1125+2)) ⟨hdH_cut19 w.params,⟨[]⟩,{},667,os⟩ (restOf (hdB.drop 20) hdEnv hdC {line:=92,col:=0,endLine:=96,endCol:=26} [topFrame hdQ])=some ⟨hdH_last w.params,⟨[]⟩,{},998,os⟩:=by rw[←hdSplit25];exact piece_app (hdRun25 w os) (hdFrom42 w os)
theorem hdSplit19:((hdB.drop 14).take 6)++(hdB.drop 20)=hdB.drop 14:=by have:=List.take_append_drop 6 (hdB.drop 14);rwa[List.drop_drop] at this
theorem hdFrom19(w:World)(os:OsState):topRun treeTable hdPr w 11 hdAnn (1471+(1471+(1125+2))) ⟨hdH_cut13 w.params,⟨[]⟩,{},517,os⟩ (restOf (hdB.drop 14) hdEnv hdC {line:=62,col:=0,endLine:=66,endCol:=24} [topFrame hdQ])=some ⟨hdH_last w.params,⟨[]⟩,{},998,os⟩:=by rw[←hdSplit19];exact piece_app (hdRun19 w os) (hdFrom25 w os)
theorem hdSplit13:((hdB.drop 8).take 6)++(hdB.drop 14)=hdB.drop 8:=by have:=List.take_append_drop 6 (hdB.drop 8);rwa[List.drop_drop] at this
theorem hdFrom13(w:World)(os:OsState):topRun treeTable hdPr w 11 hdAnn (1473+(1471+(1471+(1125+2)))) ⟨hdH_cut7 w.params,⟨[]⟩,{},365,os⟩ (restOf (hdB.drop 8) hdEnv hdC {line:=32,col:=0,endLine:=35,endCol:=57} [topFrame hdQ])=some ⟨hdH_last w.params,⟨[]⟩,{},998,os⟩:=by rw[←hdSplit13];exact piece_app (hdRun13 w os) (hdFrom19 w os)
theorem hdSplit7:((hdB.drop 0).take 8)++(hdB.drop 8)=hdB.drop 0:=by have:=List.take_append_drop 8 (hdB.drop 0);rwa[List.drop_drop] at this
theorem hdFrom7(w:World)(os:OsState):topRun treeTable hdPr w 11 hdAnn (1697+(1473+(1471+(1471+(1125+2))))) ⟨hdH_pre w.params,⟨[]⟩,{},187,os⟩ (restOf (hdB.drop 0) hdEnv hdC {line:=0,col:=0,endLine:=0,endCol:=0} [topFrame hdQ])=some ⟨hdH_last w.params,⟨[]⟩,{},998,os⟩:=by rw[←hdSplit7];exact piece_app (hdRun7 w os) (hdFrom13 w os)
theorem hdBody(w:World)(os:OsState):topRun treeTable hdPr w 11 hdAnn (1+(1697+(1473+(1471+(1471+(1125+2)))))) ⟨hdH_pre w.params,⟨[]⟩,{},187,os⟩ ⟨denote treeTable hdC,hdC,{line:=0,col:=0,endLine:=0,endCol:=0},[topFrame hdQ]⟩=some ⟨hdH_last w.params,⟨[]⟩,{},998,os⟩:=piece_block (hdRunBlock w os) (hdFrom7 w os)
theorem hdAll(w:World)(os:OsState):topRun treeTable hdPr w 11 hdAnn (12+(1+(1697+(1473+(1471+(1471+(1125+2))))))) ⟨boot_heap w.params,⟨[]⟩,boot_drawn,boot_toks,os⟩ (topStub hdPr)=some ⟨hdH_last w.params,⟨[]⟩,{},998,os⟩:=go_top (hdRunPre w os) (hdBody w os)
theorem hdSaid:PySem.Challenge.rw_framerooms_k03_refusals_apart.wellSaid=true:=by decide+kernel
end hd
noncomputable def hdHeap:PySem.Params→PySem.W.Frag:=fun P=>(nat_lit 1,PySem.W.boot_o_1 P)::(nat_lit 2,PySem.W.boot_o_2 P)::(nat_lit 3,hd3xxxx P)::(nat_lit 15,hd15)::(nat_lit 22,hd11)::(nat_lit 24,hd24)::(nat_lit 25,hd11)::(nat_lit 27,hd27)::(nat_lit 28,hd28)::(nat_lit 29,hd11)::(nat_lit 30,hd30 P)::(nat_lit 31,hd31xxxx)::(nat_lit 32,hd32)::(nat_lit 35,hd35)::(nat_lit 42,hd11)::(nat_lit 44,hd44)::(nat_lit 45,hd11)::(nat_lit 47,hd47)::(nat_lit 48,hd48)::(nat_lit 49,hd49)::(nat_lit 50,hd50 P)::(nat_lit 51,hd51)::(nat_lit 54,hd35)::(nat_lit 61,hd11)::(nat_lit 63,hd63)::(nat_lit 64,hd11)::(nat_lit 66,hd66)::(nat_lit 67,hd67)::(nat_lit 68,hd68)::(nat_lit 69,hd69 P)::(nat_lit 70,hd70)::(nat_lit 73,hd35)::(nat_lit 80,hd11)::(nat_lit 82,hd82)::(nat_lit 83,hd11)::(nat_lit 85,hd85)::(nat_lit 86,hd86)::(nat_lit 87,hd87)::(nat_lit 88,hd88 P)::(nat_lit 89,hd89)::(nat_lit 92,hd35)::(nat_lit 99,hd11)::(nat_lit 101,hd101)::(nat_lit 102,hd11)::(nat_lit 104,hd104)::(nat_lit 105,hd105)::(nat_lit 106,hd106)::(nat_lit 107,hd107 P)::(nat_lit 108,hd108)::(nat_lit 111,hd35)::(nat_lit 118,hd11)::(nat_lit 120,hd120)::(nat_lit 121,hd11)::(nat_lit 123,hd123)::(nat_lit 124,hd124)::(nat_lit 125,hd125)::(nat_lit 126,hd126 P)::(nat_lit 127,hd127)::(nat_lit 130,hd35)::(nat_lit 137,hd11)::(nat_lit 139,hd139)::(nat_lit 140,hd11)::(nat_lit 142,hd142)::(nat_lit 143,hd143)::(nat_lit 144,hd11)::(nat_lit 145,hd145 P)::(nat_lit 146,hd146)::(nat_lit 149,hd35)::(nat_lit 156,hd11)::(nat_lit 158,hd158)::(nat_lit 159,hd11)::(nat_lit 161,hd161)::(nat_lit 162,hd162)::(nat_lit 163,hd163)::(nat_lit 164,hd164 P)::(nat_lit 165,hd165)::(nat_lit 168,hd35)::(nat_lit 175,hd11)::(nat_lit 177,hd177)::(nat_lit 178,hd11)::(nat_lit 180,hd180)::(nat_lit 181,hd181)::(nat_lit 182,hd182)::(nat_lit 183,hd183 P)::(nat_lit 184,hd184)::(nat_lit 187,hd35)::(nat_lit 194,hd11)::(nat_lit 196,hd196)::(nat_lit 197,hd11)::(nat_lit 199,hd199)::(nat_lit 200,hd200)::(nat_lit 201,hd201)::(nat_lit 202,hd202 P)::(nat_lit 203,hd203)::(nat_lit 206,hd35)::(nat_lit 213,hd11)::(nat_lit 215,hd215)::(nat_lit 216,hd11)::(nat_lit 218,hd218)::(nat_lit 219,hd219)::(nat_lit 220,hd220)::(nat_lit 221,hd221 P)::(nat_lit 222,hd222)::(nat_lit 225,hd35)::(nat_lit 232,hd11)::(nat_lit 234,hd234)::(nat_lit 235,hd11)::(nat_lit 237,hd237)::(nat_lit 238,hd238)::(nat_lit 239,hd239)::(nat_lit 240,hd240 P)::(nat_lit 241,hd241)::(nat_lit 244,hd35)::(nat_lit 251,hd11)::(nat_lit 253,hd253)::(nat_lit 254,hd11)::(nat_lit 256,hd256)::(nat_lit 257,hd257)::(nat_lit 258,hd258)::(nat_lit 259,hd259 P)::(nat_lit 260,hd260)::(nat_lit 263,hd35)::(nat_lit 270,hd11)::(nat_lit 272,hd272)::(nat_lit 273,hd11)::(nat_lit 275,hd275)::(nat_lit 276,hd276)::(nat_lit 277,hd277)::(nat_lit 278,hd278 P)::(nat_lit 279,hd279)::(nat_lit 282,hd35)::(nat_lit 289,hd11)::(nat_lit 291,hd291)::(nat_lit 292,hd11)::(nat_lit 294,hd294)::(nat_lit 295,hd295)::(nat_lit 296,hd296)::(nat_lit 297,hd297 P)::(nat_lit 298,hd298)::(nat_lit 301,hd35)::(nat_lit 308,hd11)::(nat_lit 310,hd310)::(nat_lit 311,hd11)::(nat_lit 313,hd313)::(nat_lit 314,hd314)::(nat_lit 315,hd315)::(nat_lit 316,hd316 P)::(nat_lit 317,hd317)::(nat_lit 320,hd35)::(nat_lit 327,hd11)::(nat_lit 329,hd329)::(nat_lit 330,hd11)::(nat_lit 332,hd332)::(nat_lit 333,hd333)::(nat_lit 334,hd334)::(nat_lit 335,hd335 P)::(nat_lit 336,hd336)::(nat_lit 339,hd35)::(nat_lit 346,hd11)::(nat_lit 348,hd348)::(nat_lit 349,hd11)::(nat_lit 351,hd351)::(nat_lit 352,hd352)::(nat_lit 353,hd353)::(nat_lit 354,hd354 P)::(nat_lit 355,hd355)::(nat_lit 358,hd35)::(nat_lit 365,hd11)::(nat_lit 367,hd367)::(nat_lit 368,hd11)::(nat_lit 370,hd370)::(nat_lit 371,hd371)::(nat_lit 372,hd372)::(nat_lit 373,hd373 P)::(nat_lit 374,hd374)::(nat_lit 377,hd35)::(nat_lit 384,hd11)::(nat_lit 386,hd386)::(nat_lit 387,hd11)::(nat_lit 389,hd389)::(nat_lit 390,hd390)::(nat_lit 391,hd391)::(nat_lit 392,hd392 P)::(nat_lit 393,hd393)::(nat_lit 396,hd35)::(nat_lit 403,hd11)::(nat_lit 405,hd405)::(nat_lit 406,hd11)::(nat_lit 408,hd408)::(nat_lit 409,hd409)::(nat_lit 410,hd410)::(nat_lit 411,hd411 P)::(nat_lit 412,hd412)::(nat_lit 415,hd35)::(nat_lit 422,hd11)::(nat_lit 424,hd424)::(nat_lit 425,hd11)::(nat_lit 427,hd427)::(nat_lit 428,hd428)::(nat_lit 429,hd429)::(nat_lit 430,hd430 P)::(nat_lit 431,hd431)::(nat_lit 434,hd35)::(nat_lit 441,hd11)::(nat_lit 443,hd443)::(nat_lit 444,hd11)::(nat_lit 446,hd446)::(nat_lit 447,hd447)::(nat_lit 448,hd448)::(nat_lit 449,hd449 P)::(nat_lit 450,hd450)::(nat_lit 453,hd35)::(nat_lit 460,hd11)::(nat_lit 462,hd462)::(nat_lit 463,hd11)::(nat_lit 465,hd465)::(nat_lit 466,hd466)::(nat_lit 467,hd467)::(nat_lit 468,hd468 P)::(nat_lit 469,hd469)::(nat_lit 472,hd35)::(nat_lit 479,hd11)::(nat_lit 481,hd481)::(nat_lit 482,hd11)::(nat_lit 484,hd484)::(nat_lit 485,hd485)::(nat_lit 486,hd486)::(nat_lit 487,hd487 P)::(nat_lit 488,hd488)::(nat_lit 491,hd35)::(nat_lit 498,hd11)::(nat_lit 500,hd500)::(nat_lit 501,hd11)::(nat_lit 503,hd503)::(nat_lit 504,hd504)::(nat_lit 505,hd505)::(nat_lit 506,hd506 P)::(nat_lit 507,hd507)::(nat_lit 510,hd35)::(nat_lit 517,hd11)::(nat_lit 519,hd519)::(nat_lit 520,hd11)::(nat_lit 522,hd522)::(nat_lit 523,hd523)::(nat_lit 524,hd11)::(nat_lit 525,hd525 P)::(nat_lit 526,hd526)::(nat_lit 529,hd35)::(nat_lit 536,hd11)::(nat_lit 538,hd538)::(nat_lit 539,hd11)::(nat_lit 541,hd541)::(nat_lit 542,hd542)::(nat_lit 543,hd11)::(nat_lit 544,hd544 P)::(nat_lit 545,hd545)::(nat_lit 548,hd11)::(nat_lit 550,hd550)::(nat_lit 551,hd11)::(nat_lit 553,hd553)::(nat_lit 554,hd554)::(nat_lit 555,hd11)::(nat_lit 557,hd557)::(nat_lit 558,hd11)::(nat_lit 560,hd560)::(nat_lit 561,hd561)::(nat_lit 562,hd11)::(nat_lit 564,hd564)::(nat_lit 565,hd11)::(nat_lit 567,hd567)::(nat_lit 568,hd568)::(nat_lit 569,hd11)::(nat_lit 572,hd572)::(nat_lit 573,hd573)::(nat_lit 574,hd11)::(nat_lit 577,hd577)::(nat_lit 578,hd578)::(nat_lit 579,hd11)::(nat_lit 581,hd581)::(nat_lit 582,hd11)::(nat_lit 584,hd584)::(nat_lit 585,hd585)::(nat_lit 586,hd11)::(nat_lit 588,hd588)::(nat_lit 589,hd11)::(nat_lit 591,hd591)::(nat_lit 592,hd592)::(nat_lit 593,hd11)::(nat_lit 596,hd596)::(nat_lit 597,hd597)::(nat_lit 598,hd11)::(nat_lit 600,hd600)::(nat_lit 601,hd11)::(nat_lit 603,hd603)::(nat_lit 604,hd604)::(nat_lit 605,hd11)::(nat_lit 608,hd608)::(nat_lit 609,hd609)::(nat_lit 610,hd11)::(nat_lit 613,hd613)::(nat_lit 614,hd614)::(nat_lit 615,hd11)::(nat_lit 617,hd617)::(nat_lit 618,hd11)::(nat_lit 620,hd620)::(nat_lit 621,hd621)::(nat_lit 622,hd11)::(nat_lit 624,hd624)::(nat_lit 625,hd11)::(nat_lit 627,hd627)::(nat_lit 628,hd628)::[]
noncomputable def hdAs:List Addr:=[1,2,3,15,22,24,25,27,28,29,30,31,32,35,42,44,45,47,48,49,50,51,54,61,63,64,66,67,68,69,70,73,80,82,83,85,86,87,88,89,92,99,101,102,104,105,106,107,108,111,118,120,121,123,124,125,126,127,130,137,139,140,142,143,144,145,146,149,156,158,159,161,162,163,164,165,168,175,177,178,180,181,182,183,184,187,194,196,197,199,200,201,202,203,206,213,215,216,218,219,220,221,222,225,232,234,235,237,238,239,240,241,244,251,253,254,256,257,258,259,260,263,270,272,273,275,276,277,278,279,282,289,291,292,294,295,296,297,298,301,308,310,311,313,314,315,316,317,320,327,329,330,332,333,334,335,336,339,346,348,349,351,352,353,354,355,358,365,367,368,370,371,372,373,374,377,384,386,387,389,390,391,392,393,396,403,405,406,408,409,410,411,412,415,422,424,425,427,428,429,430,431,434,441,443,444,446,447,448,449,450,453,460,462,463,465,466,467,468,469,472,479,481,482,484,485,486,487,488,491,498,500,501,503,504,505,506,507,510,517,519,520,522,523,524,525,526,529,536,538,539,541,542,543,544,545,548,550,551,553,554,555,557,558,560,561,562,564,565,567,568,569,572,573,574,577,578,579,581,582,584,585,586,588,589,591,592,593,596,597,598,600,601,603,604,605,608,609,610,613,614,615,617,618,620,621,622,624,625,627,628]
theorem hdAs_ok:∀P,hdAs=(hdHeap P).map (·.1):=fun _=>by kernel_rfl
noncomputable def hdView:PySem.Program:={PySem.Challenge.pw_framerooms_k03_refusals_apart with main:={PySem.Challenge.pw_framerooms_k03_refusals_apart.main with body:=[top 1,top 2,top 3,top 4,top 5,top 6,top 7,top 8,top 9,top 10,top 11,top 12,top 13,top 14,top 15,top 16,top 17,top 18,top 19,top 20,top 21,top 22,top 23,top 24,top 25,top 26,top 27,top 28,top 30,top 31,top 32,top 33,top 34,top 35,top 36,top 37,top 38,top 39,top 40,top 41,top 42]}}
noncomputable abbrev hdHook:PySem.W.Hook:=PySem.W.kHook hdHeap hdAs hdAs_ok
theorem hdLooks(w:PySem.World):(fun os:PySem.OsState=>((PySem.W.staticsOk (importedModules hdPr.main.body) (PySem.W.boot_heap w.params) (hdH_last w.params)&&PySem.W.namesBound hdPr (hdH_last w.params)&&PySem.W.gensDone ⟨hdH_last w.params,⟨[]⟩,{},998,os⟩&&PySem.W.laidKept (PySem.W.boot_heap w.params) (hdH_last w.params)),PySem.W.openSeen hdView [] (importedModules hdPr.main.body) (fun s=>PySem.W.xlAt hdView [] s&&PySem.W.recOk (PySem.W.RowW.records PySem.Challenge.rw_framerooms_k03_refusals_apart.row.toRowW) s) true ⟨hdH_last w.params,⟨[]⟩,{},998,os⟩,hdHook.obs ⟨hdH_last w.params,⟨[]⟩,{},998,os⟩))=fun _=>(true,PySem.W.openGood hdView [],hdHook.val w):=by kernel_rfl
theorem hdLeft:PySem.W.LeftO PySem.Challenge.rw_framerooms_k03_refusals_apart.row.prog hdView [] (fun s=>PySem.W.xlAt hdView [] s&&PySem.W.recOk (PySem.W.RowW.records PySem.Challenge.rw_framerooms_k03_refusals_apart.row.toRowW) s) hdHook.obs hdHook.val 14590:=PySem.W.LeftO.of_pieces (H₀:=PySem.W.boot_heap) (H₁:=hdH_last) (gs₁:=⟨[]⟩) (d₁:={}) (k₁:=998) (m₀:=11) (ann:=hdAnn) (PySem.W.boot_open rfl (by decide) (fun _=>rfl)) (fun _=>by kernel_rfl) hdAll (by decide) hdLooks
end My
namespace L2
open PySem PySem.Spec PyProof.Rows
noncomputable abbrev Key:=Sum Int Str
noncomputable def keyIs:Key→Value→Bool
  | .inl k,v=>Value.isInt k v
  | .inr x,v=>Value.isStrOf x v
noncomputable def keyH (w:World):Key→Int
  | .inl k=>hashInt k
  | .inr x=>hashStr w x
theorem keyIs_shape:∀{k:Key} {v:Value},keyIs k v=true→(∃i t,k=Sum.inl i∧v=Value.int i t)∨(∃x t,k=Sum.inr x∧v=Value.str x t)
  | .inl i,v,h=>by
    obtain⟨t,e⟩:=Value.isInt_shape (k:=i) (v:=v) h;exact .inl ⟨i,t,rfl,e⟩
  | .inr x,v,h=>by
    obtain⟨t,e⟩:=Value.isStrOf_shape (x:=x) (v:=v) h;exact .inr ⟨x,t,rfl,e⟩
theorem keyIs_int(i:Int)(t:Tok):keyIs (.inl i) (.int i t)=true:=by simp[keyIs,Value.isInt]
theorem keyIs_str(x:Str)(t:Tok):keyIs (.inr x) (.str x t)=true:=by simp[keyIs,Value.isStrOf]
theorem key_ll (a b:Int):decide ((Sum.inl a:Key)=Sum.inl b)=(a==b):=by
  by_cases e:a=b
  · subst e;simp
  · have h:¬(Sum.inl a:Key)=Sum.inl b:=fun q=>e (Sum.inl.inj q)
    rw[decide_eq_false h];exact(beq_eq_false_iff_ne.mpr e).symm
theorem key_rr (a b:Str):decide ((Sum.inr a:Key)=Sum.inr b)=decide (a=b):=by
  by_cases e:a=b
  · subst e;simp
  · have h:¬(Sum.inr a:Key)=Sum.inr b:=fun q=>e (Sum.inr.inj q)
    rw[decide_eq_false h,decide_eq_false e]
theorem key_lr(a:Int)(b:Str):decide ((Sum.inl a:Key)=Sum.inr b)=false:=decide_eq_false (fun q=>nomatch q)
theorem key_rl(a:Str)(b:Int):decide ((Sum.inr a:Key)=Sum.inl b)=false:=decide_eq_false (fun q=>nomatch q)
noncomputable def mixKind (prog:Program) (w:World):PySem.KeyKind prog w Key where
  is:=keyIs
  hash:=keyH w
  inj :=fun v a b ha hb=>by
    rcases keyIs_shape ha with⟨i,t,rfl,rfl⟩|⟨x,t,rfl,rfl⟩
    · rcases keyIs_shape hb with⟨j,u,rfl,e⟩|⟨y,u,rfl,e⟩
      · injection e with e1 _;rw[e1]
      · exact nomatch e
    · rcases keyIs_shape hb with⟨j,u,rfl,e⟩|⟨y,u,rfl,e⟩
      · exact nomatch e
      · injection e with e1 _;rw[e1]
  byValue:=fun k v h=>by
    rcases keyIs_shape h with⟨i,t,rfl,rfl⟩|⟨x,t,rfl,rfl⟩<;>rfl
  pyHash:=fun hv h=>by
    rcases keyIs_shape hv with⟨i,t,rfl,rfl⟩|⟨x,t,rfl,rfl⟩
    · exact wpAny_pyHash_int h
    · exact wpAny_pyHash_str h
  eqBool:=fun hu hv h=>by
    rcases keyIs_shape hu with⟨i,t,rfl,rfl⟩|⟨x,t,rfl,rfl⟩
    · rcases keyIs_shape hv with⟨j,u,rfl,rfl⟩|⟨y,u,rfl,rfl⟩
      · rw[key_ll] at h;exact wpAny_eqBool_int h
      · rw[key_lr] at h;exact SeqAt.EqAt.int_str i t y u _ _ _ _ h
    · rcases keyIs_shape hv with⟨j,u,rfl,rfl⟩|⟨y,u,rfl,rfl⟩
      · rw[key_rl] at h;exact SeqAt.EqAt.str_int x t j u _ _ _ _ h
      · rw[key_rr] at h;exact wpAny_eqBool_str h
  «strs» :=fun k x t v h=>by
    rcases keyIs_shape h with⟨i,u,rfl,e⟩|⟨y,u,rfl,e⟩
    · exact nomatch e
    · injection e with e1 _
      subst e1;cases v<;>rfl
theorem mixKind_int(prog:Program)(w:World)(i:Int)(t:Tok):(mixKind prog w).is (.inl i) (.int i t)=true:=keyIs_int i t
theorem mixKind_str(prog:Program)(w:World)(x:Str)(t:Tok):(mixKind prog w).is (.inr x) (.str x t)=true:=keyIs_str x t
end L2
namespace L2
open PySem PySem.Spec PyProof.Rows
inductive V where
  |non|bl (b:Bool)|int (i:Int)|str (x:Str)|byt (b:Array UInt8)|flt (b:UInt64)|ref (a:Addr)|ty (n:String)
  deriving DecidableEq
noncomputable def RelV:V→Value→Prop
  | .non,u=>u=Value.none
  | .bl b,u=>u=Value.bool b
  | .int i,u=>∃t,u=Value.int i t
  | .str x,u=>∃t,u=Value.str x t
  | .byt b,u=>∃t,u=Value.bytes b t
  | .flt b,u=>∃t,u=Value.float b t
  | .ref a,u=>u=Value.ref a
  | .ty n,u=>u=Value.type n
noncomputable abbrev Vals:List V→List Value→Prop:=Paired RelV
theorem Vals.length{xs:List V}{us:List Value}(r:Vals xs us):xs.length=us.length:=Paired.length r
theorem Vals.get:∀{xs:List V} {us:List Value} {i:Nat} {x:V},Vals xs us→xs[i]? =some x→∃u,us[i]? =some u∧RelV x u
  |_,_,_,_,.nil,e=>by simp at e
  |_,_,0,_,.cons r _,e=>by simp at e;subst e;exact⟨_,rfl,r⟩
  | _,_,i+1,x,.cons _ t,e=>by
    obtain⟨u,h1,h2⟩:=Vals.get (i:=i) (x:=x) t (by simpa using e);exact⟨u,by simpa using h1,h2⟩
theorem Vals.set {x:V} {u:Value} (r:RelV x u):∀{xs:List V} {us:List Value} (i:Nat),Vals xs us→Vals (xs.set i x) (us.set i u)
  |_,_,_,.nil=> .nil
  |_,_,0,.cons _ t=> .cons r t
  |_,_,i+1,.cons q t=> .cons q (Vals.set r i t)
theorem Vals.append:∀{xs ys:List V} {us ws:List Value},Vals xs us→Vals ys ws→Vals (xs++ys) (us++ws)
  |_,_,_,_,.nil,s=>s
  |_,_,_,_,.cons r t,s=> .cons r (Vals.append t s)
theorem Vals.take:∀{xs:List V} {us:List Value} (n:Nat),Vals xs us→Vals (xs.take n) (us.take n)
  |_,_,0,_=> .nil
  |_,_,_+1,.nil=> .nil
  |_,_,n+1,.cons r t=> .cons r (Vals.take n t)
theorem Vals.drop:∀{xs:List V} {us:List Value} (n:Nat),Vals xs us→Vals (xs.drop n) (us.drop n)
  |_,_,0,r=>r
  |_,_,_+1,.nil=> .nil
  |_,_,n+1,.cons _ t=>Vals.drop n t
noncomputable def RelO:Option V→Option Value→Prop
  |some v,some u=>RelV v u
  |none,none=>True
  |_,_=>False
noncomputable def KV{κ:Type}:List (κ×V)→List (κ×Value)→Prop:=Paired fun(p:κ×V) (q:κ×Value)=>p.1=q.1∧RelV p.2 q.2
noncomputable def kV:Key→V
  | .inl i=> .int i
  | .inr x=> .str x
inductive HO where
  |lst (xs:List V)
  |tup (xs:List V)
  |dK (kvs:List (Key×V))|dT (kvs:List (List Key×V))
  |set (S:Int→Bool) (n:Nat)
  |ins (C dx:Addr) (fs:List (Str×V))
  |own (x:Addr)
  |xd (fs:List (Str×V))
  |met (f x:Addr)
  |rng (lo hi:Int)
  |frz (o:Obj) (u:HO)
  |tbl (ps:Array Value)
  |ext (φ:Heap→Prop)
noncomputable abbrev Hp:=Addr→Option HO
noncomputable def upd(H:Hp)(a:Addr)(o:HO):Hp:=fun b=>if b=a then some o else H b
theorem upd_same{H:Hp}{a:Addr}{o:HO}:upd H a o a=some o:=by unfold upd;rw[if_pos rfl]
theorem upd_ne{H:Hp}{a b:Addr}{o:HO}(h:b≠a):upd H a o b=H b:=by unfold upd;rw[if_neg h]
theorem upd_upd {H:Hp} {a:Addr} {o u:HO}:upd (upd H a o) a u=upd H a u:=by
  funext b;unfold upd;split<;>rfl
theorem ne_of {H:Hp} {a b:Addr} {o u:HO} (h:H a=some o) (h' :H b=some u) (d:o≠u):a≠b:=by
  intro e;subst e;rw[h] at h';exact d (Option.some.inj h')
theorem ne_of_none {H:Hp} {a b:Addr} {o:HO} (h:H a=some o) (h' :H b=none):a≠b:=by
  intro e;subst e;rw[h] at h';cases h'
section
variable(P:Program)(w:World)
noncomputable def ObjOk (H:Hp) (h:Heap) (a:Addr):HO→Prop
  | .lst xs=>xs.length≤sizeLine∧∃(its:List Value) (n:Nat),Vals xs its∧h.get? a=some {cls:= .type "list",data:= .seq its.toArray n}
  | .tup xs=>xs.length≤sizeLine∧∃its:List Value,Vals xs its∧IsTup h a its.toArray
  | .dK kvs=>kvs.length≤sizeLine∧(a==sysModules)=false∧∃vs,KV kvs vs∧h.DictOf (mixKind P w) a vs
  | .dT kvs=>kvs.length≤sizeLine∧(a==sysModules)=false∧∃xs:List (List Key×Addr×Value),
      Paired (fun(p:List Key×V) (q:List Key×Addr×Value)=>p.1=q.1∧H q.2.1=some (.tup (p.1.map kV))∧RelV p.2 q.2.2) kvs xs∧
      ∃o es ep,h.get? a=some o∧o.ExactDict∧o.data= .dict es ep∧es.toList=xs.map (entryOfKey (tupleKind (mixKind P w)))∧(xs.map (·.1)).Nodup
  | .set S n=>h.SetOf (intKind P w) a S n
  | .ins C dx fs=>H dx=some (.own a)∧fs.length≤1000∧dx≠a∧h.get? a=some (PySem.W.instObj C dx)∧
      ∃mA,h.Ns1 dx mA∧(∀f,RelO (fs.lookup f) (mA f))∧PySem.Within mA (fs.map (·.1))
  | .own _=>∃o,h.get? a=some o
  | .xd fs=>∃mA,h.Ns1 a mA∧∀f,RelO (fs.lookup f) (mA f)
  | .rng lo hi=>∃t u v,h.get? a=some {cls:= .type "range",data:= .fields #[.int lo t,.int hi u,.int 1 v]}
  | .frz o u=>h.get? a=some o∧ObjOk H h a u
  | .tbl ps=>h.get? a=some {cls:= .none,data:= .fields ps}
  | .met f x=>h.get? a=some (PySem.W.methodObj (.ref f) (.ref x))
  | .ext φ=>φ h∧(∃o,h.get? a=some o)∧∀h1 h2:Heap,φ h1→(∀o,h1.get? a=some o→h2.get? a=some o)→φ h2
noncomputable def HOk(H:Hp)(h:Heap):Prop:=∀a o,H a=some o→ObjOk P w H h a o
end
section
variable{P:Program}{w:World}{H H' :Hp}{h h' :Heap}{a:Addr}{o:HO}
theorem ObjOk.lt (x:ObjOk P w H h a o):a<h.objs.size:=by
  cases o with
  |lst xs=>obtain⟨_,_,_,_,e⟩:=x;exact Heap.lt_size e
  |tup xs=>obtain⟨_,_,_,p⟩:=x;exact p.lt
  |dK kvs=>obtain⟨_,_,_,_,o,_,_,e,_⟩:=x;exact Heap.lt_size e
  |dT kvs=>obtain⟨_,_,_,_,o,_,_,e,_⟩:=x;exact Heap.lt_size e
  |set S n=>obtain⟨o,_,_,_,e,_⟩:=x;exact Heap.lt_size e
  |ins C dx fs=>obtain⟨_,_,_,e,_⟩:=x;exact Heap.lt_size e
  |own y=>obtain⟨_,e⟩:=x;exact Heap.lt_size e
  |xd fs=>obtain⟨_,⟨_,_,_,e,_⟩,_⟩:=x;exact Heap.lt_size e
  |rng lo hi=>obtain⟨_,_,_,e⟩:=x;exact Heap.lt_size e
  |frz ob u=>obtain⟨e,_⟩:=x;exact Heap.lt_size e
  |tbl ps=>exact Heap.lt_size (show h.get? a=some _ from x)
  |met f y=>exact Heap.lt_size (show h.get? a=some _ from x)
  |ext φ=>obtain⟨_,⟨_,e⟩,_⟩:=x;exact Heap.lt_size e
theorem Paired.mapP {α β:Type} {F G:α→β→Prop}:∀{l₁:List α} {l₂:List β},Paired F l₁ l₂→(∀a b,F a b→G a b)→Paired G l₁ l₂
  |_,_,.nil,_=> .nil
  |_,_,.cons r t,f=> .cons (f _ _ r) (Paired.mapP t f)
theorem ObjOk.stay (x:ObjOk P w H h a o) (k:∀b u,(b=a∨H b=some (.own a))→h.get? b=some u→h'.get? b=some u)
    (ho:∀b,H b=some (.own a)→H' b=some (.own a)) (ht:∀b xs,H b=some (.tup xs)→H' b=some (.tup xs)):ObjOk P w H' h' a o:=by
  induction o with
  |lst xs=>obtain⟨z,its,n,r,e⟩:=x;exact⟨z,its,n,r,k _ _ (.inl rfl) e⟩
  |tup xs=>obtain⟨z,its,r,ob,e,c⟩:=x;exact⟨z,its,r,ob,k _ _ (.inl rfl) e,c⟩
  |dK kvs=>obtain⟨z,y,vs,r,ob,es,ep,e,c⟩:=x;exact⟨z,y,vs,r,ob,es,ep,k _ _ (.inl rfl) e,c⟩
  | dT kvs=>
    obtain⟨z,y,xs,r,ob,es,ep,e,c⟩:=x;exact⟨z,y,xs,Paired.mapP r fun p q z=>⟨z.1,ht _ _ z.2.1,z.2.2⟩,ob,es,ep,k _ _ (.inl rfl) e,c⟩
  |set S n=>obtain⟨ob,es,ep,t,e,c⟩:=x;exact⟨ob,es,ep,t,k _ _ (.inl rfl) e,c⟩
  | ins C dx fs=>
    obtain⟨d,z,ne,e,mA,⟨od,es,ep,e2,c⟩,r⟩:=x;exact⟨ho _ d,z,ne,k _ _ (.inl rfl) e,mA,⟨od,es,ep,k _ _ (.inr d) e2,c⟩,r⟩
  |own y=>obtain⟨ob,e⟩:=x;exact⟨ob,k _ _ (.inl rfl) e⟩
  |xd fs=>obtain⟨mA,⟨od,es,ep,e,c⟩,r⟩:=x;exact⟨mA,⟨od,es,ep,k _ _ (.inl rfl) e,c⟩,r⟩
  |rng lo hi=>obtain⟨t,u,v,e⟩:=x;exact⟨t,u,v,k _ _ (.inl rfl) e⟩
  |frz ob u ih=>obtain⟨e,q⟩:=x;exact⟨k _ _ (.inl rfl) e,ih q⟩
  | tbl ps=>
    have e:h.get? a=some {cls:= .none,data:= .fields ps}:=x;show h'.get? a=some {cls:= .none,data:= .fields ps};exact k a _ (.inl rfl) e
  | met f y=>
    have e:h.get? a=some (PySem.W.methodObj (.ref f) (.ref y)):=x;show h'.get? a=some (PySem.W.methodObj (.ref f) (.ref y));exact k a _ (.inl rfl) e
  |ext φ=>obtain⟨p,⟨o,e⟩,st⟩:=x;exact⟨st _ _ p fun o q=>k _ _ (.inl rfl) q,⟨o,k _ _ (.inl rfl) e⟩,st⟩
theorem HOk.lt(x:HOk P w H h)(e:H a=some o):a<h.objs.size:=(x a o e).lt
theorem HOk.fresh (x:HOk P w H h) (e:h.objs.size≤a):H a=none:=by
  cases q:H a with
  |none=>rfl
  |some u=>exact absurd (Nat.lt_of_lt_of_le (x.lt q) e) (Nat.lt_irrefl _)
theorem HOk.kept (x:HOk P w H h) (k:∀b u,h.get? b=some u→h'.get? b=some u):HOk P w H h' :=fun a o e=>
  (x a o e).stay (fun b u _ q=>k b u q) (fun _ q=>q) fun _ _ q=>q
theorem HOk.laid (x:HOk P w H h) (k:∀b u,h.get? b=some u→h'.get? b=some u) (hp:h.objs.size≤a) (new:ObjOk P w (upd H a o) h' a o):HOk P w (upd H a o) h' :=fun b u e=>by
  have hn:=x.fresh hp;by_cases hb:b=a
  · subst hb;rw[upd_same] at e;cases e;exact new
  · rw[upd_ne hb] at e
    exact(x b u e).stay (fun c v _ q=>k c v q) (fun c q=>by rw[upd_ne (ne_of_none q hn)];exact q) fun c xs q=>by rw[upd_ne (ne_of_none q hn)];exact q
end
noncomputable def Rd(H:Hp)(a:Addr)(u:HO):Prop:=H a=some u∨∃o,H a=some (.frz o u)
theorem Rd.of{H:Hp}{a:Addr}{u:HO}(h:H a=some u):Rd H a u:= .inl h
theorem Rd.ok {P:Program} {w:World} {H:Hp} {h:Heap} {a:Addr} {u:HO} (r:Rd H a u) (x:HOk P w H h):ObjOk P w H h a u:=by
  rcases r with r|⟨o,r⟩
  · exact x a u r
  · obtain⟨_,q⟩:=x a _ r
    exact q
noncomputable def Mut:Option HO→Prop
  |some (.lst _)=>True
  |some (.dK _)=>True
  |some (.dT _)=>True
  |some (.set _ _)=>True
  |some (.ins _ _ _)=>True
  |some (.ext _)=>True
  |_=>False
section
variable{P:Program}{w:World}{H:Hp}{h h' :Heap}{x e:Addr}{o' :HO}
theorem HOk.write (ok:HOk P w H h) (mu:Mut (H x)) (he:e=x∨H e=some (.own x)) (k:∀b u,b≠e→h.get? b=some u→h'.get? b=some u) (heo:∃u,h'.get? e=some u)
    (new:ObjOk P w (upd H x o') h' x o'):HOk P w (upd H x o') h' :=fun b u q=>by
  have nown:∀c y,H c=some (.own y)→c≠x:=fun c y r z=>by subst z;rw[r] at mu;exact mu
  have ntup:∀c xs,H c=some (.tup xs)→c≠x:=fun c xs r z=>by subst z;rw[r] at mu;exact mu
  by_cases hb:b=x
  · subst hb;rw[upd_same] at q;cases q;exact new
  · rw [upd_ne hb] at q
    by_cases hbe:b=e
    · have q' :H b=some (.own x):=by
        rcases he with z|z
        · exact absurd (hbe.trans z) hb
        · rw[hbe];exact z
      rw[q] at q';cases q'
      obtain⟨v,hv⟩:=heo;exact⟨v,by rw[hbe];exact hv⟩
    · refine(ok b u q).stay (fun c v hc r=>k c v ?_ r) (fun c r=>by rw[upd_ne (nown c b r)];exact r) fun c xs r=>by rw[upd_ne (ntup c xs r)];exact r
      rcases hc with rfl|hc
      · exact hbe
      · rintro rfl
        rcases he with z|z
        · exact nown c b hc z
        · rw[hc] at z;cases z;exact hb rfl
end
structure Un (fs ex:List Addr) (H H' :Hp) (h h' :Heap):Prop where
  keep:∀b o,h.get? b=some o→H b=none→b∉fs→b∉ex→h'.get? b=some o
  slot:∀b o,h.get? b=some o→H b=none→b∈fs→b∉ex→∃sl,h'.get? b=some {o with slots:=sl}
  free:∀b o,h.get? b=some o→H b=none→b∉ex→H' b=none
  there:∀b o,h.get? b=some o→b∉ex→∃o',h'.get? b=some o'
  tups:∀b xs,H b=some (.tup xs)→H' b=some (.tup xs)
  frzs:∀b o u,H b=some (.frz o u)→H' b=some (.frz o u)
  tbls:∀b ps,H b=some (.tbl ps)→∃more,H' b=some (.tbl (ps++more))
section
variable{fs fs' ex ex' :List Addr}{H H1 H2:Hp}{h h1 h2 h' :Heap}{a x e:Addr}{o:HO}
theorem Un.any (u:Un fs ex H H1 h h1) {b:Addr} {ob:Obj} (q:h.get? b=some ob) (n:H b=none) (hx:b∉ex):∃sl,h1.get? b=some {ob with slots:=sl}:=by
  by_cases hb:b∈fs
  · exact u.slot b ob q n hb hx
  · exact⟨ob.slots,u.keep b ob q n hb hx⟩
theorem Un.trans (a:Un fs ex H H1 h h1) (b:Un fs ex H1 H2 h1 h2):Un fs ex H H2 h h2 where
  keep:=fun c ob q n hc hx=>b.keep c ob (a.keep c ob q n hc hx) (a.free c ob q n hx) hc hx
  slot:=fun c ob q n hc hx=>by
    obtain⟨sl,e1⟩:=a.slot c ob q n hc hx;obtain⟨sl',e2⟩:=b.slot c _ e1 (a.free c ob q n hx) hc hx;exact⟨sl',e2⟩
  free:=fun c ob q n hx=>by
    obtain⟨o',e1⟩:=a.there c ob q hx;exact b.free c o' e1 (a.free c ob q n hx) hx
  there:=fun c ob q hx=>by
    obtain⟨o',e1⟩:=a.there c ob q hx;exact b.there c o' e1 hx
  tups:=fun c xs q=>b.tups c xs (a.tups c xs q)
  frzs:=fun c ob xs q=>b.frzs c ob xs (a.frzs c ob xs q)
  tbls:=fun c ps q=>by
    obtain⟨m1,e1⟩:=a.tbls c ps q;obtain⟨m2,e2⟩:=b.tbls c _ e1;exact⟨m1++m2,by rw[e2,Array.append_assoc]⟩
theorem Un.kept (k:∀b u,h.get? b=some u→h'.get? b=some u):Un fs ex H H h h' :=
  ⟨fun b ob q _ _ _=>k b ob q,fun b ob q _ _ _=>⟨ob.slots,k b ob q⟩,fun _ _ _ n _=>n,fun b ob q _=>⟨ob,k b ob q⟩,fun _ _ q=>q,fun _ _ _ q=>q,fun _ ps q=>⟨#[],by rw[q];simp⟩⟩
theorem Un.refl:Un fs ex H H h h:=Un.kept fun _ _ q=>q
theorem Un.laid (k:∀b u,h.get? b=some u→h'.get? b=some u) (hp:h.objs.size≤a) (hn:H a=none):Un fs ex H (upd H a o) h h' where
  keep:=fun b u q _ _ _=>k b u q
  slot:=fun b u q _ _ _=>⟨u.slots,k b u q⟩
  free:=fun b u q n _=>by rw[upd_ne (Nat.ne_of_lt (Nat.lt_of_lt_of_le (Heap.lt_size q) hp))];exact n
  there:=fun b u q _=>⟨u,k b u q⟩
  tups:=fun b xs q=>by rw[upd_ne (ne_of_none q hn)];exact q
  frzs:=fun b u xs q=>by rw[upd_ne (ne_of_none q hn)];exact q
  tbls:=fun b ps q=>⟨#[],by rw[upd_ne (ne_of_none q hn),q];simp⟩
theorem Un.write (mu:Mut (H x)) (he:e=x∨H e=some (.own x)) (k:∀b u,b≠e→h.get? b=some u→h'.get? b=some u) (heo:∃u,h'.get? e=some u):Un fs ex H (upd H x o) h h' :=by
  have hx:∀b,H b=none→b≠x:=fun b n z=>by subst z;rw[n] at mu;exact mu
  have hb:∀b,H b=none→b≠e:=fun b n z=>by
    subst z;rcases he with r|r
    · exact hx b n r
    · rw[n] at r;cases r
  have hm:∀b u,H b=some u→¬Mut (some u)→b≠x:=fun b u q nm z=>by subst z;rw[q] at mu;exact nm mu
  refine⟨fun b u q n _ _=>k b u (hb b n) q,fun b u q n _ _=>⟨u.slots,k b u (hb b n) q⟩,fun b u q n _=>by rw[upd_ne (hx b n)];exact n,fun b u q _=> ?_,
    fun b xs q=>by rw[upd_ne (hm b _ q fun z=>z)];exact q,fun b u xs q=>by rw[upd_ne (hm b _ q fun z=>z)];exact q,fun b ps q=>⟨#[],by rw[upd_ne (hm b _ q fun z=>z),q];simp⟩⟩
  by_cases hbe:b=e
  · subst hbe;exact heo
  · exact⟨u,k b u hbe q⟩
theorem Un.mono (u:Un fs ex H H1 h h1) (hs:∀b∈fs,b∈fs') (hx:∀b∈ex,b∈ex'):Un fs' ex' H H1 h h1:=
  ⟨fun b ob q n hb he=>u.keep b ob q n (fun z=>hb (hs b z)) fun z=>he (hx b z),fun _ _ q n _ he=>u.any q n fun z=>he (hx _ z),fun b ob q n he=>u.free b ob q n fun z=>he (hx b z),fun b ob q he=>u.there b ob q fun z=>he (hx b z),u.tups,u.frzs,u.tbls⟩
end
noncomputable def trk(h:Heap)(H:Hp):List Addr:=(List.range h.objs.size).filter fun a=>(H a).isSome
noncomputable def hidT(h:Heap)(H:Hp):Heap:=PySem.W.hideAll h (trk h H)
theorem hidT_size(h:Heap)(H:Hp):(hidT h H).objs.size=h.objs.size:=PySem.W.hideAll_size _ _
theorem hidT_get {h:Heap} {H:Hp} {b:Addr} {o:Obj} (e:h.get? b=some o) (n:H b=none):(hidT h H).get? b=some o:=
  PySem.W.hideAll_get _ e fun hm=>by
    have q:(H b).isSome=true:=(List.mem_filter.mp hm).2;rw[n] at q;simp at q
theorem of_hidT {h:Heap} {H:Hp} {b:Addr} {o:Obj} (e:(hidT h H).get? b=some o):h.get? b=some o∧H b=none:=by
  have e' :h.get? b=some o:=PySem.W.of_hideAll (trk h H) e;refine⟨e',?_⟩
  cases q:H b with
  |none=>rfl
  | some x=>
    have hm:b∈trk h H:=List.mem_filter.mpr ⟨List.mem_range.mpr (Heap.lt_size e'),by simp[q]⟩;have z:(hidT h H).get? b=none:=PySem.W.hideAll_none (trk h H) hm;rw[z] at e;cases e
noncomputable def allNews(g h:Heap)(L:Addr):List (Addr×Obj):=(List.range h.objs.size).filterMap fun a=>if a=L∨(g.get? a).isSome=true then none else(h.get? a).map fun o=>(a,o)
noncomputable def rest(g h:Heap)(L d:Addr):List (Addr×Obj):=(allNews g h L).filter fun p=>decide (p.1≠d)
end L2
namespace L2
open PySem PySem.Spec PyProof.Rows
structure Mod (K:PySem.W.Frag) (mg:Str→Option Value) (base:Heap):Prop where
  kin:K.In base
  glob:base.Ns mainGlobals mg
  blt:∃mb,base.Ns builtinsNs mb∧∀x:Str,x≠ "__name__" →mb x=bootBuiltins x
  nolimit:base.NoLimit
structure Cx where
  prog:Program
  w:World
  K:PySem.W.Frag
  mg:Str→Option Value
  base:Heap
  A:Around
  N:List Str
  s₀:Shared
  H₀:Hp
  env:Env
  outer:List Env
  stack:List Env
  ex:List Addr
  fn:Str→Bool
  calm:Bool
  pn:List (Addr×Obj)
  xe:Value→Shared→Prop
noncomputable def frs(l:List Env):List Addr:=l.filterMap (·.frame)
noncomputable abbrev Cx.fs(X:Cx):List Addr:=frs X.outer
noncomputable def Vis(sc:Scope)(x:Str):Prop:=sc.names.lookup x=some .local∨sc.names.lookup x=some .cell∨sc.names.lookup x=some .free
noncomputable def Loc(sc:Scope)(x:Str):Prop:=sc.names.lookup x=some .local∨sc.names.lookup x=some .cell
noncomputable def Look (env:Env) (h:Heap) (m:Str→Option Value) (x:Str) (u:Value):Prop:=
  (env.kindOf x=some .local∧m x=some u)∨((env.kindOf x=some .cell∨env.kindOf x=some .free)∧∃c,env.cells.lookup x=some c∧h.IsCell c (some u))
structure Cx.Ok (X:Cx):Prop where
  mod:Mod X.K X.mg X.base
  kind:X.env.scope.kind= .function
  glob:X.env.globals=mainGlobals
  blt:X.env.builtins=builtinsNs
  above:X.s₀.heap.objs.size≤X.env.locals
  inj:∀x y c,X.env.cells.lookup x=some c→X.env.cells.lookup y=some c→x=y
  has:∀x,(X.env.kindOf x=some .cell∨X.env.kindOf x=some .free)→∃c,X.env.cells.lookup x=some c
  cab:∀x c,X.fn x=true→X.env.cells.lookup x=some c→X.s₀.heap.objs.size≤c
  hd:X.calm=true→X.A.handled=none
  frames:X.A.frames=some X.stack
  stk:X.stack=X.outer∨(X.stack=X.env::X.outer∧X.env.frame=some X.env.locals)
  exf:∀b∈X.ex,b≠X.env.locals∧∀x c,X.env.cells.lookup x=some c→c≠b
  bs:∀b o,X.base.get? b=some o→X.s₀.heap.get? b=some o∧X.H₀ b=none
  bsz:X.base.objs.size≤X.s₀.heap.objs.size
  noex:∀b o,X.base.get? b=some o→b∉X.ex
  exfs:∀b∈X.ex,b∉X.fs
  funs:X.s₀.heap.FunFrames X.base X.outer
  frf:∀b∈X.fs,X.H₀ b=none
structure Inv (X:Cx) (pins:List (Addr×Obj)) (σ:List (Option V)) (H:Hp) (s:Shared):Prop where
  ok:X.Ok
  os:s.os=X.s₀.os
  bare:AllBare s.gens
  base:Un X.fs X.ex X.H₀ H X.s₀.heap s.heap
  loc:∃m,s.heap.Ns X.env.locals m∧∀(i:Nat) (x:Str) (v:V),X.N[i]? =some x→σ[i]? =some (some v)→Vis X.env.scope x→∃u,RelV v u∧Look X.env s.heap m x u
  cell:∀x c,X.env.cells.lookup x=some c→∃v,s.heap.IsCell c v
  free:H X.env.locals=none
  freeC:∀x c,X.env.cells.lookup x=some c→H c=none
  pin:∀p∈X.pn++pins,s.heap.get? p.1=some p.2∧H p.1=none∧p.1≠X.env.locals∧p.1∉X.fs∧∀v,p.2.data≠.cell v
  hok:HOk X.prog X.w H s.heap
  len:σ.length=X.N.length
section
variable{X:Cx}{pins:List (Addr×Obj)}{σ:List (Option V)}{H H' :Hp}{s:Shared}{h' :Heap}
theorem Cx.Ok.nofr (ok:X.Ok) {b:Addr} {o:Obj} (e:X.base.get? b=some o):b∉X.fs:=fun hb=>by
  have:=(ok.funs.mem hb).1;rw[e] at this;cases this
theorem Inv.bs (I:Inv X pins σ H s):∀b o,X.base.get? b=some o→s.heap.get? b=some o∧H b=none:=fun b o e=>
  ⟨I.base.keep b o (I.ok.bs b o e).1 (I.ok.bs b o e).2 (I.ok.nofr e) (I.ok.noex b o e),I.base.free b o (I.ok.bs b o e).1 (I.ok.bs b o e).2 (I.ok.noex b o e)⟩
theorem Inv.bk(I:Inv X pins σ H s):∀b o,X.base.get? b=some o→s.heap.get? b=some o:=fun b o e=>(I.bs b o e).1
theorem Inv.mod(I:Inv X pins σ H s):Mod X.K X.mg X.base:=I.ok.mod
theorem Inv.kIn(I:Inv X pins σ H s):X.K.In s.heap:=I.ok.mod.kin.keeps I.bk
theorem Inv.nolimit(I:Inv X pins σ H s):s.heap.NoLimit:=I.ok.mod.nolimit.keeps I.bk
theorem Inv.fr (I:Inv X pins σ H s):∃m,Fr X.base X.env.locals s.heap m:=
  let⟨m,hn,_⟩:=I.loc
  ⟨m,hn,I.bk,Nat.le_trans I.ok.bsz I.ok.above⟩
theorem Inv.lt(I:Inv X pins σ H s):X.env.locals<s.heap.objs.size:=let⟨_,hn,_⟩:=I.loc;hn.lt
theorem Inv.sz(I:Inv X pins σ H s):X.s₀.heap.objs.size≤s.heap.objs.size:=Nat.le_trans I.ok.above (Nat.le_of_lt I.lt)
theorem Inv.nofs (I:Inv X pins σ H s) {a:Addr} (h:s.heap.objs.size≤a):a∉X.fs:=fun hb=>by
  obtain⟨_,o,ho,_⟩:=I.ok.funs.mem hb;exact absurd (Nat.lt_of_lt_of_le (Heap.lt_size ho) (Nat.le_trans I.sz h)) (Nat.lt_irrefl _)
theorem Inv.cne (I:Inv X pins σ H s):∀x c,X.env.cells.lookup x=some c→c≠X.env.locals:=fun x c e z=>by
  obtain⟨v,o,ho,hd⟩:=I.cell x c e;obtain⟨m,⟨o',es,ep,ho',hd',_⟩,_⟩:=I.loc;rw[z,ho'] at ho;cases ho;rw[hd'] at hd;cases hd
theorem Inv.funs (I:Inv X pins σ H s):s.heap.FunFrames X.base X.outer:=by
  have all:∀(l:List Env),(∀b∈frs l,b∈X.fs)→X.s₀.heap.FunFrames X.base l→s.heap.FunFrames X.base l:=by
    intro l
    induction l with
    |nil=>intro _ _;trivial
    | cons env r ih=>
      intro hs hl;obtain⟨hk,⟨L,o,hf,hn,ho,hd⟩,hr⟩:=hl;have hL:L∈X.fs:=hs L (by unfold frs;rw[List.filterMap_cons,hf];exact List.mem_cons_self);obtain⟨sl,e⟩:=I.base.slot L o ho (I.ok.frf L hL) hL fun z=>I.ok.exfs L z hL;exact⟨hk,⟨L,_,hf,hn,e,hd⟩,ih (fun b hb=>hs b (by unfold frs;rw[List.filterMap_cons,hf];exact List.mem_cons_of_mem _ hb)) hr⟩
  exact all X.outer (fun _ hb=>hb) I.ok.funs
theorem Inv.stack (I:Inv X pins σ H s):s.heap.FunFrames X.base X.stack:=by
  rcases I.ok.stk with e|⟨e,hf⟩
  · rw[e];exact I.funs
  · rw[e]
    obtain⟨m,hn,_⟩:=I.loc;refine .cons (by rw[I.ok.kind];decide) hf hn ?_ I.funs;exact Heap.get?_none_of_le (Nat.le_trans I.ok.bsz I.ok.above)
theorem Inv.stkSub (I:Inv X pins σ H s):∀b∈frs X.stack,b∈X.env.locals::X.fs:=fun b hb=>by
  rcases I.ok.stk with e|⟨e,hf⟩
  · rw[e] at hb;exact List.mem_cons_of_mem _ hb
  · rw[e] at hb
    unfold frs at hb;rw[List.filterMap_cons,hf] at hb;exact hb
theorem Inv.stkFree (I:Inv X pins σ H s):∀b∈frs X.stack,H b=none:=fun b hb=>by
  rcases List.mem_cons.mp (I.stkSub b hb) with e|hb
  · rw[e];exact I.free
  · obtain⟨_,o,ho,_⟩:=I.ok.funs.mem hb
    exact I.base.free b o ho (I.ok.frf b hb) fun z=>I.ok.exfs b z hb
theorem Inv.step {g' :Array GenState} {t' :Nat} {d' :Drawn} {ch:List Addr} (I:Inv X pins σ H s)
    (hch:∀b∈ch,(b∈X.ex∨X.s₀.heap.objs.size≤b)∧b≠X.env.locals∧(∀x c,X.env.cells.lookup x=some c→c≠b)∧∀p∈X.pn++pins,p.1≠b)
    (keep:∀b o,b≠X.env.locals→b∉X.fs→b∉ch→s.heap.get? b=some o→H b=none→h'.get? b=some o)
    (slot:∀b o,b≠X.env.locals→b∈X.fs→b∉ch→s.heap.get? b=some o→H b=none→∃sl,h'.get? b=some {o with slots:=sl}) (free:∀b o,b∉ch→s.heap.get? b=some o→H b=none→H' b=none)
    (there:∀b o,b∉ch→s.heap.get? b=some o→∃o',h'.get? b=some o')
    (tups:∀b xs,H b=some (.tup xs)→H' b=some (.tup xs)) (frzs:∀b o u,H b=some (.frz o u)→H' b=some (.frz o u)) (tbls:∀b ps,H b=some (.tbl ps)→∃more,H' b=some (.tbl (ps++more)))
    (ns:∀m,s.heap.Ns X.env.locals m→h'.Ns X.env.locals m) (hok:HOk X.prog X.w H' h') (hg:AllBare g'):
    Inv X pins σ H' {s with heap:=h',gens:=g',drawn:=d',toks:=t'}:=by
  have neL:∀b o,X.s₀.heap.get? b=some o→b≠X.env.locals:=fun b o e=>Nat.ne_of_lt (Nat.lt_of_lt_of_le (Heap.lt_size e) I.ok.above)
  have neC:∀b o,X.s₀.heap.get? b=some o→b∉X.ex→b∉ch:=fun b o e hx hb=>by
    rcases(hch b hb).1 with z|z
    · exact hx z
    · exact absurd (Nat.lt_of_lt_of_le (Heap.lt_size e) z) (Nat.lt_irrefl _)
  have cellK:∀x c,X.env.cells.lookup x=some c→∀v,s.heap.IsCell c v→h'.IsCell c v:=fun x c e v ⟨o,ho,hd⟩=>by
    have nch:c∉ch:=fun z=>(hch c z).2.2.1 x c e rfl;by_cases hc:c∈X.fs
    · obtain⟨sl,q⟩:=slot c o (I.cne x c e) hc nch ho (I.freeC x c e)
      exact⟨_,q,hd⟩
    · exact⟨o,keep c o (I.cne x c e) hc nch ho (I.freeC x c e),hd⟩
  refine⟨I.ok,I.os,hg,⟨fun b o e n hb hx=> ?_,fun b o e n hb hx=> ?_,fun b o e n hx=> ?_,fun b o e hx=> ?_,fun b xs e=>tups b xs (I.base.tups b xs e),fun b o xs e=>frzs b o xs (I.base.frzs b o xs e),fun b ps e=> ?_⟩,?_,fun x c e=> ?_,?_,fun x c e=> ?_,fun p hp=> ?_,hok,I.len⟩
  · exact keep b o (neL b o e) hb (neC b o e hx) (I.base.keep b o e n hb hx) (I.base.free b o e n hx)
  · obtain⟨sl,e1⟩:=I.base.slot b o e n hb hx
    obtain⟨sl',e2⟩:=slot b _ (neL b o e) hb (neC b o e hx) e1 (I.base.free b o e n hx);exact⟨sl',e2⟩
  · obtain⟨o',e1⟩:=I.base.there b o e hx
    exact free b o' (neC b o e hx) e1 (I.base.free b o e n hx)
  · obtain⟨o',e1⟩:=I.base.there b o e hx
    exact there b o' (neC b o e hx) e1
  · obtain⟨m1,e1⟩:=I.base.tbls b ps e
    obtain⟨m2,e2⟩:=tbls b _ e1;exact⟨m1++m2,by rw[e2,Array.append_assoc]⟩
  · obtain⟨m,hn,hl⟩:=I.loc
    refine⟨m,ns m hn,fun i x v e1 e2 e3=> ?_⟩;obtain⟨u,r,l⟩:=hl i x v e1 e2 e3;refine⟨u,r,?_⟩;rcases l with l|⟨k,c,e,z⟩
    · exact .inl l
    · exact .inr ⟨k,c,e,cellK x c e _ z⟩
  · obtain⟨v,z⟩:=I.cell x c e
    exact⟨v,cellK x c e v z⟩
  · obtain⟨m,⟨o,_,_,ho,_⟩,_⟩:=I.loc
    exact free _ o (fun z=>(hch _ z).2.1 rfl) ho I.free
  · obtain⟨v,o,ho,hd⟩:=I.cell x c e
    exact free c o (fun z=>(hch c z).2.2.1 x c e rfl) ho (I.freeC x c e)
  · obtain⟨e,n,ne,nf,d⟩:=I.pin p hp
    have nch:p.1∉ch:=fun z=>(hch p.1 z).2.2.2 p hp rfl;exact⟨keep p.1 p.2 ne nf nch e n,free p.1 p.2 nch e n,ne,nf,d⟩
theorem Inv.un {t' :Nat} (I:Inv X pins σ H s) (u:Un X.fs [] H H' s.heap h') (hok:HOk X.prog X.w H' h'):Inv X pins σ H' {s with heap:=h',toks:=t'}:=by
  obtain⟨m,⟨o,es,ep,ho,r⟩,_⟩:=id I.loc;obtain⟨sl,hL⟩:=u.any ho I.free (by simp)
  exact I.step (g' :=s.gens) (d' :=s.drawn) (ch:=[]) (fun _ z=>nomatch z) (fun b o _ hb _ e n=>u.keep b o e n hb (by simp)) (fun b o _ hb _ e n=>u.slot b o e n hb (by simp)) (fun b o _ e n=>u.free b o e n (by simp)) (fun b o _ e=>u.there b o e (by simp)) u.tups u.frzs u.tbls (fun m' hm=>by
    obtain⟨o',es',ep',ho',r'⟩:=hm;rw[ho] at ho';cases ho'
    exact⟨_,es',ep',hL,r'⟩) hok I.bare
theorem Inv.call {g' :Array GenState} {t' :Nat} {d' :Drawn} {ch:List Addr} (I:Inv X pins σ H s) (u:Un (frs X.stack) ch H H' s.heap h') (hok:HOk X.prog X.w H' h') (hg:AllBare g')
    (hch:∀b∈ch,(b∈X.ex∨X.s₀.heap.objs.size≤b)∧b≠X.env.locals∧(∀x c,X.env.cells.lookup x=some c→c≠b)∧∀p∈X.pn++pins,p.1≠b):
    Inv X pins σ H' {s with heap:=h',gens:=g',drawn:=d',toks:=t'}:=by
  obtain⟨m,⟨o,es,ep,ho,r⟩,_⟩:=id I.loc;obtain⟨sl,hL⟩:=u.any ho I.free fun z=>(hch _ z).2.1 rfl
  exact I.step (ch:=ch) hch (fun b o hL hb hc e n=>u.keep b o e n (fun z=>(List.mem_cons.mp (I.stkSub b z)).elim hL hb) hc) (fun b o _ _ hc e n=>u.any e n hc) (fun b o hc e n=>u.free b o e n hc) (fun b o hc e=>u.there b o e hc) u.tups u.frzs u.tbls (fun m' hm=>by
    obtain⟨o',es',ep',ho',r'⟩:=hm;rw[ho] at ho';cases ho'
    exact⟨_,es',ep',hL,r'⟩) hok hg
theorem Inv.turned {t' :Nat} {it:Addr} (I:Inv X pins σ H s) (k:∀b o,b≠it→s.heap.get? b=some o→h'.get? b=some o) (hn:H it=none) (hL:it≠X.env.locals)
    (h1:it∈X.ex∨X.s₀.heap.objs.size≤it) (h2:∀x c,X.env.cells.lookup x=some c→c≠it) (h3:∀p∈X.pn++pins,p.1≠it):Inv X pins σ H {s with heap:=h',toks:=t'}:=by
  have nit:∀b u,H b=some u→b≠it:=fun b u e z=>by rw[z,hn] at e;cases e
  refine I.step (g' :=s.gens) (d' :=s.drawn) (ch:=[it]) (fun b hb=> ?_) (fun b o _ _ hc e _=>k b o (fun z=>hc (by simp[z])) e) (fun b o _ _ hc e _=>⟨o.slots,k b o (fun z=>hc (by simp[z])) e⟩) (fun _ _ _ _ n=>n)
    (fun b o hc e=>⟨o,k b o (fun z=>hc (by simp[z])) e⟩) (fun _ _ e=>e) (fun _ _ _ e=>e) (fun b ps e=>⟨#[],by rw[e];simp⟩) (fun m hm=> ?_) (fun b u e=> ?_) I.bare
  · have e:b=it:=by simpa using hb
    subst e;exact⟨h1,hL,h2,h3⟩
  · obtain⟨o,es,ep,ho,r⟩:=hm
    exact⟨o,es,ep,k _ o (Ne.symm hL) ho,r⟩
  · refine(I.hok b u e).stay (fun c v hc q=>k c v ?_ q) (fun _ q=>q) fun _ _ q=>q
    rcases hc with z|z
    · rw[z];exact nit b u e
    · exact nit c _ z
theorem Inv.tok(I:Inv X pins σ H s)(t:Nat):Inv X pins σ H {s with toks:=t}:=I.un (h' :=s.heap) (t' :=t) Un.refl I.hok
theorem Inv.kept{t' :Nat}(I:Inv X pins σ H s)(k:∀b u,s.heap.get? b=some u→h'.get? b=some u):Inv X pins σ H {s with heap:=h',toks:=t'}:=I.un (Un.kept k) (I.hok.kept k)
theorem Inv.laid {a:Addr} {o:HO} {t' :Nat} (I:Inv X pins σ H s) (k:∀b u,s.heap.get? b=some u→h'.get? b=some u) (hp:s.heap.objs.size≤a) (new:ObjOk X.prog X.w (upd H a o) h' a o):
    Inv X pins σ (upd H a o) {s with heap:=h',toks:=t'}:=I.un (Un.laid k hp (I.hok.fresh hp)) (I.hok.laid k hp new)
theorem Inv.write {x e:Addr} {o:HO} {t' :Nat} (I:Inv X pins σ H s) (mu:Mut (H x)) (he:e=x∨H e=some (.own x)) (k:∀b u,b≠e→s.heap.get? b=some u→h'.get? b=some u) (heo:∃u,h'.get? e=some u)
    (new:ObjOk X.prog X.w (upd H x o) h' x o):Inv X pins σ (upd H x o) {s with heap:=h',toks:=t'}:=I.un (Un.write mu he k heo) (I.hok.write mu he k heo new)
theorem Inv.weak {σ' :List (Option V)} (I:Inv X pins σ H s) (hl:σ'.length=σ.length) (w:∀(i:Nat) v,σ'[i]? =some (some v)→σ[i]? =some (some v)):Inv X pins σ' H s:=
  ⟨I.ok,I.os,I.bare,I.base,let⟨m,hn,hl'⟩:=I.loc;⟨m,hn,fun i x v e1 e2 e3=>hl' i x v e1 (w i v e2) e3⟩,I.cell,I.free,I.freeC,I.pin,I.hok,hl.trans I.len⟩
theorem Inv.pins_of {pins' :List (Addr×Obj)} (I:Inv X pins σ H s) (h:∀p∈pins',s.heap.get? p.1=some p.2∧H p.1=none∧p.1≠X.env.locals∧p.1∉X.fs∧∀v,p.2.data≠.cell v):Inv X pins' σ H s:=
  ⟨I.ok,I.os,I.bare,I.base,I.loc,I.cell,I.free,I.freeC,fun p hp=>(List.mem_append.mp hp).elim (fun z=>I.pin p (List.mem_append_left _ z)) (h p),I.hok,I.len⟩
theorem nodup_ix {N:List Str} (hN:N.Nodup) {i j:Nat} {x:Str} (a:N[i]? =some x) (b:N[j]? =some x):i=j:=by
  obtain⟨h1,e1⟩:=List.getElem?_eq_some_iff.mp a;obtain⟨h2,e2⟩:=List.getElem?_eq_some_iff.mp b;exact(List.getElem_inj hN).mp (e1.trans e2.symm)
theorem store_ok2 {M:Model} {A:Around} {E:Value→Shared→Prop} {i:Nat} {x:Str} {v:V} {u:Value} {Q:Unit→Shared→Prop} (I:Inv X pins σ H s) (hN:X.N.Nodup) (hi:X.N[i]? =some x) (hx:Loc X.env.scope x) (r:RelV v u)
    (h:∀s',Inv X pins (σ.set i (some v)) H s'→(∃a,Heap.SameBut a s.heap s'.heap∧(a=X.env.locals∨X.env.cells.lookup x=some a))→Q () s') (hf:X.fn x=true∨X.env.scope.names.lookup x=some .local:=by first|exact .inl rfl|exact .inr rfl|assumption):wpAny M A (storeName X.env x u) Q E s:=by
  obtain⟨m,hn,hl⟩:=id I.loc;have hcls:(X.env.scope.kind== .class||(X.env.scope.kind== .module&&X.env.locals !=X.env.globals))=false:=by rw[I.ok.kind];rfl
  have hiσ:i<σ.length:=by rw[I.len];exact(List.getElem?_eq_some_iff.mp hi).1
  have cne:=I.cne
  have tracked:∀{a:Addr} {h' :Heap},(∃o,s.heap.get? a=some o∧H a=none)→Heap.SameBut a s.heap h'→HOk X.prog X.w H h' :=fun{a h'} ha hs b ob e=>by
    obtain⟨_,_,hfree⟩:=ha;refine(I.hok b ob e).stay (fun c w' hc q=>(hs.2 c ?_).trans q) (fun _ q=>q) fun _ _ q=>q
    rintro rfl
    rcases hc with rfl|hc
    · rw[hfree] at e;cases e
    · rw[hfree] at hc;cases hc
  rcases hx with hk|hk
  · refine wpAny_storeName_local hk hn (fun h' hn' hs=> ?_) hcls
    obtain⟨oL,_,_,hoL,_⟩:=id hn;refine h _ ⟨I.ok,I.os,I.bare,⟨fun b o e n hb hx=> ?_,fun b o e n hb hx=> ?_,I.base.free,fun b o e hx=> ?_,I.base.tups,I.base.frzs,I.base.tbls⟩,⟨_,hn',fun j y v' e1 e2 e3=> ?_⟩,fun y c e=> ?_,I.free,I.freeC,fun p hp=> ?_,tracked ⟨oL,hoL,I.free⟩ hs,by simpa using I.len⟩ ⟨_,hs,.inl rfl⟩
    · exact(hs.2 b (Nat.ne_of_lt (Nat.lt_of_lt_of_le (Heap.lt_size e) I.ok.above))).trans (I.base.keep b o e n hb hx)
    · obtain⟨sl,e1⟩:=I.base.slot b o e n hb hx
      exact⟨sl,(hs.2 b (Nat.ne_of_lt (Nat.lt_of_lt_of_le (Heap.lt_size e) I.ok.above))).trans e1⟩
    · obtain⟨o',e1⟩:=I.base.there b o e hx
      exact⟨o',(hs.2 b (Nat.ne_of_lt (Nat.lt_of_lt_of_le (Heap.lt_size e) I.ok.above))).trans e1⟩
    · by_cases hj:j=i
      · subst hj
        rw[hi] at e1;cases e1
        rw[List.getElem?_set_self hiσ] at e2;cases e2;exact⟨u,r,.inl ⟨hk,by simp⟩⟩
      · rw[List.getElem?_set_ne (Ne.symm hj)] at e2
        obtain⟨u',r',q⟩:=hl j y v' e1 e2 e3;refine⟨u',r',?_⟩;rcases q with⟨k,e⟩|⟨k,c,e,z⟩
        · refine .inl ⟨k,?_⟩
          have:y≠x:=fun e=>hj (nodup_ix hN e1 (e▸hi));simp[this,e]
        · exact .inr ⟨k,c,e,z.sameBut hs (cne y c e)⟩
    · obtain⟨w',z⟩:=I.cell y c e
      exact⟨w',z.sameBut hs (cne y c e)⟩
    · obtain⟨e,n,ne,nf,d⟩:=I.pin p hp
      exact⟨(hs.2 p.1 ne).trans e,n,ne,nf,d⟩
  · have hfn:X.fn x=true:=by
      rcases hf with z|z
      · exact z
      · rw[z] at hk;cases hk
    obtain⟨c,hc⟩:=I.ok.has x (.inl hk);obtain⟨w',z⟩:=I.cell x c hc;refine wpAny_storeName_cell I.ok.kind hk hc z (fun h' hc' hs=> ?_);obtain⟨oc,hoc,hocd⟩:=id z;refine h {s with heap:=h'} ⟨I.ok,I.os,I.bare,⟨fun b o e n hb hx=> ?_,fun b o e n hb hx=> ?_,I.base.free,fun b o e hx=> ?_,I.base.tups,I.base.frzs,I.base.tbls⟩,⟨m,hn.sameBut hs (Ne.symm (cne x c hc)),fun j y v' e1 e2 e3=> ?_⟩,fun y c' e=> ?_,I.free,I.freeC,fun p hp=> ?_,tracked ⟨oc,hoc,I.freeC x c hc⟩ hs,by simpa using I.len⟩ ⟨c,hs,.inr hc⟩
    · exact(hs.2 b (Nat.ne_of_lt (Nat.lt_of_lt_of_le (Heap.lt_size e) (I.ok.cab x c hfn hc)))).trans (I.base.keep b o e n hb hx)
    · obtain⟨sl,e1⟩:=I.base.slot b o e n hb hx
      exact⟨sl,(hs.2 b (Nat.ne_of_lt (Nat.lt_of_lt_of_le (Heap.lt_size e) (I.ok.cab x c hfn hc)))).trans e1⟩
    · obtain⟨o',e1⟩:=I.base.there b o e hx
      exact⟨o',(hs.2 b (Nat.ne_of_lt (Nat.lt_of_lt_of_le (Heap.lt_size e) (I.ok.cab x c hfn hc)))).trans e1⟩
    · by_cases hj:j=i
      · subst hj
        rw[hi] at e1;cases e1
        rw[List.getElem?_set_self hiσ] at e2;cases e2;exact⟨u,r,.inr ⟨.inl hk,c,hc,hc'⟩⟩
      · rw[List.getElem?_set_ne (Ne.symm hj)] at e2
        obtain⟨u',r',q⟩:=hl j y v' e1 e2 e3;refine⟨u',r',?_⟩;rcases q with q|⟨k,c',e,z'⟩
        · exact .inl q
        · refine .inr ⟨k,c',e,z'.sameBut hs ?_⟩
          rintro rfl
          exact hj (nodup_ix hN e1 (I.ok.inj _ _ _ e hc▸hi))
    · by_cases hcc:c' =c
      · subst hcc;exact⟨_,hc'⟩
      · obtain⟨w2,z2⟩:=I.cell y c' e
        exact⟨w2,z2.sameBut hs hcc⟩
    · obtain⟨e,n,ne,nf,d⟩:=I.pin p hp
      refine⟨(hs.2 p.1 ?_).trans e,n,ne,nf,d⟩;intro q;rw[q,hoc] at e;have q' :oc=p.2:=Option.some.inj e;exact d w' (by rw[←q'];exact hocd)
theorem store_ok {M:Model} {A:Around} {E:Value→Shared→Prop} {i:Nat} {x:Str} {v:V} {u:Value} {Q:Unit→Shared→Prop} (I:Inv X pins σ H s) (hN:X.N.Nodup) (hi:X.N[i]? =some x) (hx:Loc X.env.scope x) (r:RelV v u)
    (h:∀s',Inv X pins (σ.set i (some v)) H s'→Q () s') (hf:X.fn x=true∨X.env.scope.names.lookup x=some .local:=by first|exact .inl rfl|exact .inr rfl|assumption):wpAny M A (storeName X.env x u) Q E s:=
  store_ok2 I hN hi hx r (fun s' I' _=>h s' I') hf
theorem Inv.call' {s' :Shared} {ch:List Addr} (I:Inv X pins σ H s) (ho:s'.os=s.os) (u:Un (frs X.stack) ch H H' s.heap s'.heap) (hok:HOk X.prog X.w H' s'.heap) (hg:AllBare s'.gens)
    (hch:∀b∈ch,(b∈X.ex∨X.s₀.heap.objs.size≤b)∧b≠X.env.locals∧(∀x c,X.env.cells.lookup x=some c→c≠b)∧∀p∈X.pn++pins,p.1≠b):Inv X pins σ H' s' :=by
  obtain⟨h',g',d',t',o'⟩:=s';have e:o' =s.os:=ho;subst e;exact I.call (g' :=g') (t' :=t') (d' :=d') u hok hg hch
end
noncomputable abbrev XK:=Value→Option Addr→Hp→Prop
noncomputable abbrev St:=List (Option V)
noncomputable abbrev VK:=V→Hp→Prop
noncomputable abbrev TE:=St→Hp→VK→Prop
noncomputable abbrev TT:=St→Hp→(Bool→Hp→Prop)→Prop
noncomputable abbrev TA:=St→Hp→(List V→Hp→Prop)→Prop
structure Ends where
  nx:St→Hp→Prop
  rt:VK
  bk:St→Hp→Prop:=fun _ _=>False
  ct:St→Hp→Prop:=fun _ _=>False
noncomputable abbrev TS:=Ends→St→Hp→Prop
noncomputable def EP(X:Cx)(pins:List (Addr×Obj))(σ:St)(Q:VK)(u:Value)(s' :Shared):Prop:=∃v H',Inv X pins σ H' s'∧RelV v u∧Q v H'
noncomputable def TP(X:Cx)(pins:List (Addr×Obj))(σ:St)(Q:Bool→Hp→Prop)(b:Bool)(s' :Shared):Prop:=∃H',Inv X pins σ H' s'∧Q b H'
noncomputable def AP(X:Cx)(pins:List (Addr×Obj))(σ:St)(Q:List V→Hp→Prop)(us:List Value)(s' :Shared):Prop:=∃vs H',Inv X pins σ H' s'∧Vals vs us∧Q vs H'
noncomputable def SP (X:Cx) (pins:List (Addr×Obj)) (D:Ends) (f:Flow) (s' :Shared):Prop:=
  match f with
  | .next=>∃σ' H',Inv X pins σ' H' s'∧D.nx σ' H'
  | .brk=>∃σ' H',Inv X pins σ' H' s'∧D.bk σ' H'
  | .cont=>∃σ' H',Inv X pins σ' H' s'∧D.ct σ' H'
  | .ret u=>∃v σ' H',Inv X pins σ' H' s'∧RelV v u∧D.rt v H'
noncomputable def PE (X:Cx) (e:Expr) (t:TE):Prop:=
  ∀(pins:List (Addr×Obj)) (s:Shared) (σ:St) (H:Hp) (Q:VK),Inv X pins σ H s→t σ H Q→wpAny (model X.prog X.w) X.A (eval e X.env) (EP X pins σ Q) X.xe s
noncomputable def PT (X:Cx) (e:Expr) (t:TT):Prop:=
  ∀(pins:List (Addr×Obj)) (s:Shared) (σ:St) (H:Hp) (Q:Bool→Hp→Prop),Inv X pins σ H s→t σ H Q→wpAny (model X.prog X.w) X.A (isTrue e X.env (eval e X.env)) (TP X pins σ Q) X.xe s
noncomputable def PW (X:Cx) (e:Expr) (t:TT):Prop:=
  ∀(whole:Sem Value) (pins:List (Addr×Obj)) (s:Shared) (σ:St) (H:Hp) (Q:Bool→Hp→Prop),Inv X pins σ H s→t σ H Q→wpAny (model X.prog X.w) X.A (isTrue e X.env whole) (TP X pins σ Q) X.xe s
theorem PW.pt{X:Cx}{e:Expr}{t:TT}(h:PW X e t):PT X e t:=h _
noncomputable def PA (X:Cx) (es:List Expr) (t:TA):Prop:=
  ∀(pos:Pos) (pins:List (Addr×Obj)) (s:Shared) (σ:St) (H:Hp) (Q:List V→Hp→Prop),Inv X pins σ H s→t σ H Q→wpAny (model X.prog X.w) X.A (spliced (backTo pos (starEach es X.env))) (AP X pins σ Q) X.xe s
noncomputable def PS (X:Cx) (st:Stmt) (t:TS):Prop:=
  ∀(pins:List (Addr×Obj)) (s:Shared) (σ:St) (H:Hp) (D:Ends),Inv X pins σ H s→t D σ H→wpAny (model X.prog X.w) X.A (exec st X.env) (SP X pins D) X.xe s
noncomputable def PSs (X:Cx) (st:List Stmt) (t:TS):Prop:=
  ∀(pins:List (Addr×Obj)) (s:Shared) (σ:St) (H:Hp) (D:Ends),Inv X pins σ H s→t D σ H→wpAny (model X.prog X.w) X.A (execs st X.env) (SP X pins D) X.xe s
theorem thn{α:Type}{t:Sem α}{Q Q' :α→Shared→Prop}{M:Model}{A:Around}{E:Value→Shared→Prop}{s:Shared}(h:wpAny M A t Q E s)(hQ:∀a s,Q a s→Q' a s):wpAny M A t Q' E s:=wpAny_mono h hQ fun _ _ x=>x
end L2
namespace L2
open PySem PySem.Spec PyProof.Rows
section
variable{X:Cx}
theorem bin {a b:Expr} {ta tb:TE} (ha:PE X a ta) (hb:PE X b tb) {pins:List (Addr×Obj)} {s:Shared} {σ:St} {H:Hp} {R:V→V→Hp→Prop} (I:Inv X pins σ H s) (h:ta σ H fun x H1=>tb σ H1 fun y H2=>R x y H2)
    {α:Type} {Q:α→Shared→Prop} {f:Value→Value→Sem α}
    (hf:∀v u s2 x y H2,Inv X pins σ H2 s2→RelV x v→RelV y u→R x y H2→wpAny (model X.prog X.w) X.A (f v u) Q X.xe s2):
    wpAny (model X.prog X.w) X.A (eval a X.env) (fun v s₁=>wpAny (model X.prog X.w) X.A (eval b X.env) (fun u s₂=>wpAny (model X.prog X.w) X.A (f v u) Q X.xe s₂) X.xe s₁) X.xe s:=by
  refine thn (ha pins s σ H _ I h) fun v s1 ⟨x,H1,I1,r1,q1⟩=> ?_;refine thn (hb pins s1 σ H1 _ I1 q1) fun u s2 ⟨y,H2,I2,r2,q2⟩=> ?_;exact hf v u s2 x y H2 I2 r1 r2 q2
noncomputable def tVar(i:Nat):TE:=fun σ H Q=>∃v,σ[i]? =some (some v)∧Q v H
noncomputable def tC(v:V):TE:=fun _ H Q=>Q v H
theorem pe_var {i:Nat} {x:Str} {pos:Pos} (hN:X.N[i]? =some x) (hv:Vis X.env.scope x) (hd:(x==("__debug__" :Str))=false:=by decide) (hcd:(x==("__classdict__" :Str))=false:=by decide):PE X (.Name x pos) (tVar i):=by
  intro pins s σ H Q I h;obtain⟨v,e,h⟩:=h;obtain⟨m,hn,hl⟩:=I.loc;obtain⟨u,r,l⟩:=hl i x v hN e hv;have fin:EP X pins σ Q u s:=⟨v,H,I,r,h⟩;rcases l with⟨hk,hm⟩|⟨hk,c,hc,hcell⟩
  · exact wpAny_Name (wpAny_loadName_local I.ok.kind hk hn hm fin) hd
  · rcases hk with hk|hk
    · exact wpAny_Name (wpAny_loadName_cell I.ok.kind hk hc hcell fin) hd
    · exact wpAny_Name (wpAny_loadName_free I.ok.kind hk hc hcell fin hcd) hd
theorem pe_int{i j pos}:PE X (.Constant (.int i) j pos) (tC (.int i)):=fun _ _ _ H _ I h=>wpAny_Constant_int ⟨.int i,H,I.tok _,⟨_,rfl⟩,h⟩
theorem pe_bl{b j pos}:PE X (.Constant (.bool b) j pos) (tC (.bl b)):=fun _ _ _ H _ I h=>Constant_bool ⟨.bl b,H,I,rfl,h⟩
theorem pe_non{j pos}:PE X (.Constant .none j pos) (tC .non):=fun _ _ _ H _ I h=>Constant_none ⟨.non,H,I,rfl,h⟩
theorem pe_str{x j pos}:PE X (.Constant (.str x) j pos) (tC (.str x)):=fun _ _ _ H _ I h=>Calls.Constant_str ⟨.str x,H,I.tok _,⟨_,rfl⟩,h⟩
noncomputable def Gl(X:Cx)(x:Str):Prop:=X.env.kindOf x=some .globalImplicit
theorem ld_glob {E:Value→Shared→Prop} {pins:List (Addr×Obj)} {s:Shared} {σ:St} {H:Hp} {x:Str} {u:Value} {pos:Pos} {Q:Value→Shared→Prop} (I:Inv X pins σ H s) (hg:Gl X x) (hm:X.mg x=some u) (h:Q u s)
    (hd:(x==("__debug__" :Str))=false:=by decide):wpAny (model X.prog X.w) X.A (eval (.Name x pos) X.env) Q E s:=
  Calls.Name_function_global I.ok.kind hg (Calls.loadGlobal_global (by rw[I.ok.glob];exact I.mod.glob.keeps I.bk) hm h) hd
theorem ld_blt {E:Value→Shared→Prop} {pins:List (Addr×Obj)} {s:Shared} {σ:St} {H:Hp} {x:Str} {u:Value} {pos:Pos} {Q:Value→Shared→Prop} (I:Inv X pins σ H s) (hg:Gl X x) (hm:X.mg x=none) (hv:bootBuiltins x=some u) (h:Q u s)
    (hn:x≠ "__name__":=by decide) (hd:(x==("__debug__" :Str))=false:=by decide):wpAny (model X.prog X.w) X.A (eval (.Name x pos) X.env) Q E s:=by
  obtain⟨mb,h1,h2⟩:=I.mod.blt;exact Calls.Name_function_global I.ok.kind hg (Calls.loadGlobal_builtin (by rw[I.ok.glob];exact I.mod.glob.keeps I.bk) hm (by rw[I.ok.blt];exact h1.keeps I.bk) ((h2 x hn).trans hv) h) hd
theorem pe_glob {x:Str} {v:V} {u:Value} {pos:Pos} (hg:Gl X x) (hm:X.mg x=some u) (r:RelV v u) (hd:(x==("__debug__" :Str))=false:=by decide):PE X (.Name x pos) (tC v):=
  fun _ _ _ H _ I h=>ld_glob I hg hm ⟨v,H,I,r,h⟩ hd
theorem pe_bltn {x:Str} {v:V} {u:Value} {pos:Pos} (hg:Gl X x) (hm:X.mg x=none) (hv:bootBuiltins x=some u) (r:RelV v u) (hn:x≠ "__name__":=by decide) (hd:(x==("__debug__" :Str))=false:=by decide):PE X (.Name x pos) (tC v):=
  fun _ _ _ H _ I h=>ld_blt I hg hm hv ⟨v,H,I,r,h⟩ hn hd
variable{a b:Expr}{ta tb:TE}{pos:Pos}
noncomputable def PC (X:Cx) (op:CmpOp) (a b:Expr) (t:TE):Prop:=
  ∀ (pins:List (Addr×Obj)) (s:Shared) (σ:St) (H:Hp) (Q:VK),Inv X pins σ H s→t σ H Q→
    wpAny (model X.prog X.w) X.A (eval a X.env) (fun v s₁=>wpAny (model X.prog X.w) X.A (eval b X.env) (fun u s₂=>wpAny (model X.prog X.w) X.A (compareOp op v u) (EP X pins σ Q) X.xe s₂) X.xe s₁) X.xe s
theorem nobehind (b:Expr) {op:CmpOp} (h:op≠.In) (h2:op≠.NotIn):behindInMarks op b=false:=by
  have e1:(op==CmpOp.In)=false:=by cases op<;>first|rfl|exact absurd rfl h
  have e2:(op==CmpOp.NotIn)=false:=by cases op<;>first|rfl|exact absurd rfl h2
  cases b<;>simp[behindInMarks,e1,e2]
noncomputable def tB(t:TE):TT:=fun σ H Q=>t σ H fun x H1=>∃c,x= .bl c∧Q c H1
theorem pt_cmp {op:CmpOp} {t:TE} (h:PC X op a b t) (h1:behindInMarks op b=false:=by first|exact nobehind _ (by decide) (by decide)|rfl):PT X (.Compare a [op] [b] pos) (tB t):=by
  intro pins s σ H Q I hw;refine wpAny_isTrue_Compare1 (thn (h pins s σ H _ I hw) fun v s1 h1=>thn h1 fun u s2 h2=>thn h2 fun c s3 ⟨x,H1,I1,r1,q1⟩=> ?_) h1;obtain⟨d,rfl,q⟩:=q1;cases r1;exact wpAny_truthy_bool ⟨H1,I1,q⟩
theorem pt_val {e:Expr} {t:TE} (h:PE X e t) (he:∀whole,isTrue e X.env whole=(do let v←whole;standAt e.pos;holding [v] (truthy v)):=by intro _;rfl):PT X e (tB t):=by
  intro pins s σ H Q I hw;refine isTrue_plain (thn (h pins s σ H _ I hw) fun v s1 ⟨x,H1,I1,r1,q1⟩=> ?_) (he _);obtain⟨d,rfl,q⟩:=q1;cases r1;exact wpAny_truthy_bool ⟨H1,I1,q⟩
variable{tA tB' :TT}{rest:List Expr}
noncomputable def tOr(t u:TT):TT:=fun σ H Q=>t σ H fun c H1=>if c=true then Q true H1 else u σ H1 Q
noncomputable def tNot(t:TT):TT:=fun σ H Q=>t σ H fun c H1=>Q (!c) H1
theorem pw_or1 (ha:PT X a tA):PW X (.BoolOp .Or [a] pos) tA:=by
  intro wh pins s σ H Q I h;refine isTrue_or (thn (ha pins s σ H Q I h) fun c s1 e=> ?_)
  cases c with
  |false=>exact isTrue_or_nil e
  |true=>exact e
theorem pw_or (ha:PT X a tA) (hb:PW X (.BoolOp .Or (b::rest) pos) tB'):PW X (.BoolOp .Or (a::b::rest) pos) (tOr tA tB'):=by
  intro wh pins s σ H Q I h;refine isTrue_or (thn (ha pins s σ H _ I h) fun c s1 ⟨H1,I1,q1⟩=> ?_)
  cases c with
  |true=>exact⟨H1,I1,q1⟩
  |false=>exact hb wh pins s1 σ H1 Q I1 q1
theorem pt_not (ha:PT X a tA):PT X (.UnaryOp .Not a pos) (tNot tA):=by
  intro pins s σ H Q I h;exact isTrue_not (ha pins s σ H (fun c H1=>Q (!c) H1) I h)
end
end L2
namespace L2
open PySem PySem.Spec PyProof.Rows
noncomputable def SqL (K:PySem.W.Frag) (H:Hp) (a:Addr) (xs:List V):Prop:=
  Rd H a (.lst xs)∨
    ∃(o:Obj) (its:Array Value) (n:Nat),K.lookup a=some o∧o.cls= .type "list" ∧o.dict=none∧o.data= .seq its n∧its.size≤sizeLine∧Vals xs its.toList
noncomputable def SqT (K:PySem.W.Frag) (H:Hp) (a:Addr) (xs:List V):Prop:=
  Rd H a (.tup xs)∨
    ∃(o:Obj) (its:Array Value) (n:Nat),K.lookup a=some o∧o.cls= .type "tuple" ∧o.data= .seq its n∧its.size≤sizeLine∧Vals xs its.toList
noncomputable def absV:Value→Option V
  | .none=>some .non
  | .bool b=>some (.bl b)
  | .int i _=>some (.int i)
  | .str x _=>some (.str x)
  | .bytes b _=>some (.byt b)
  | .float b _=>some (.flt b)
  | .ref a=>some (.ref a)
  | .type n=>some (.ty n)
  |_=>none
theorem RelV.abs {x:V} {u:Value} (r:RelV x u):absV u=some x:=by
  cases x with
  |non=>cases r;rfl
  |bl _=>cases r;rfl
  |int _=>obtain⟨t,rfl⟩:=r;rfl
  |str _=>obtain⟨t,rfl⟩:=r;rfl
  |byt _=>obtain⟨t,rfl⟩:=r;rfl
  |flt _=>obtain⟨t,rfl⟩:=r;rfl
  |ref _=>cases r;rfl
  |ty _=>cases r;rfl
theorem RelV.inj{x y:V}{u:Value}(r:RelV x u)(q:RelV y u):x=y:=Option.some.inj (r.abs.symm.trans q.abs)
theorem Vals.inj:∀{xs ys:List V} {us:List Value},Vals xs us→Vals ys us→xs=ys
  |_,_,_,.nil,.nil=>rfl
  |_,_,_,.cons r t,.cons r' t' =>by rw[r.inj r',Vals.inj t t']
section
variable{X:Cx}{pins:List (Addr×Obj)}{σ:St}{H:Hp}{s:Shared}{a:Addr}{xs ys:List V}
theorem SqL.of{K:PySem.W.Frag}(h:H a=some (.lst xs)):SqL K H a xs:= .inl (.inl h)
theorem SqT.of{K:PySem.W.Frag}(h:H a=some (.tup xs)):SqT K H a xs:= .inl (.inl h)
theorem Inv.list (I:Inv X pins σ H s) (h:SqL X.K H a xs):∃its:List Value,Vals xs its∧PlainL s.heap a its.toArray∧xs.length≤sizeLine:=by
  rcases h with h|⟨o,its,n,hk,hc,hd,hs,hz,r⟩
  · obtain⟨z,its,n,r,e⟩:=h.ok I.hok
    exact⟨its,r,⟨_,n,e,rfl,rfl,rfl⟩,z⟩
  · refine⟨its.toList,r,⟨o,n,I.kIn a o hk,hc,hd,by simpa using hs⟩,?_⟩
    have e:=r.length;simp only[Array.length_toList] at e;omega
theorem Inv.tuple (I:Inv X pins σ H s) (h:SqT X.K H a xs):∃its:List Value,Vals xs its∧IsTup s.heap a its.toArray∧xs.length≤sizeLine:=by
  rcases h with h|⟨o,its,n,hk,hc,hs,hz,r⟩
  · obtain⟨z,its,r,p⟩:=h.ok I.hok
    exact⟨its,r,p,z⟩
  · refine⟨its.toList,r,⟨o,I.kIn a o hk,hc,n,by simpa using hs⟩,?_⟩
    have e:=r.length;simp only[Array.length_toList] at e;omega
theorem Inv.list_inj (I:Inv X pins σ H s) (h:SqL X.K H a xs) (h' :SqL X.K H a ys):xs=ys:=by
  obtain⟨its,r,⟨o,n,e,_,_,d⟩,_⟩:=I.list h;obtain⟨its',r',⟨o',n',e',_,_,d'⟩,_⟩:=I.list h';rw[e] at e';cases e'
  rw[d] at d';injection d' with d1 _;have:its=its' :=by simpa using congrArg Array.toList d1
  subst this;exact r.inj r'
end
noncomputable abbrev Cx.wish(X:Cx)(E:Value→Shared→Prop):Cx:={X with xe:=E}
noncomputable abbrev Cx.nox(X:Cx):Cx:=X.wish fun _ _=>False
theorem Cx.Ok.wish {X:Cx} (ok:X.Ok) (E:Value→Shared→Prop):(X.wish E).Ok:=
  ⟨ok.mod,ok.kind,ok.glob,ok.blt,ok.above,ok.inj,ok.has,ok.cab,ok.hd,ok.frames,ok.stk,ok.exf,ok.bs,ok.bsz,ok.noex,ok.exfs,ok.funs,ok.frf⟩
theorem Cx.Ok.unwish {X:Cx} {E:Value→Shared→Prop} (ok:(X.wish E).Ok):X.Ok:=
  ⟨ok.mod,ok.kind,ok.glob,ok.blt,ok.above,ok.inj,ok.has,ok.cab,ok.hd,ok.frames,ok.stk,ok.exf,ok.bs,ok.bsz,ok.noex,ok.exfs,ok.funs,ok.frf⟩
section
variable{X:Cx}{pins:List (Addr×Obj)}{σ:St}{H:Hp}{s:Shared}{E:Value→Shared→Prop}
theorem Inv.wish(I:Inv X pins σ H s)(E:Value→Shared→Prop):Inv (X.wish E) pins σ H s:=⟨I.ok.wish E,I.os,I.bare,I.base,I.loc,I.cell,I.free,I.freeC,I.pin,I.hok,I.len⟩
theorem Inv.unwish(I:Inv (X.wish E) pins σ H s):Inv X pins σ H s:=⟨I.ok.unwish,I.os,I.bare,I.base,I.loc,I.cell,I.free,I.freeC,I.pin,I.hok,I.len⟩
theorem SP.unwish {D:Ends} {f:Flow} {s' :Shared} (h:SP (X.wish E) pins D f s'):SP X pins D f s' :=by
  cases f with
  |next=>obtain⟨σ',H',I,q⟩:=h;exact⟨σ',H',I.unwish,q⟩
  |brk=>obtain⟨σ',H',I,q⟩:=h;exact⟨σ',H',I.unwish,q⟩
  |cont=>obtain⟨σ',H',I,q⟩:=h;exact⟨σ',H',I.unwish,q⟩
  |ret u=>obtain⟨v,σ',H',I,r,q⟩:=h;exact⟨v,σ',H',I.unwish,r,q⟩
theorem PE.nox {e:Expr} {t:TE} (h:PE X.nox e t):PE X e t:=fun pins s σ H Q I hw=>
  wpAny_mono (h pins s σ H Q (I.wish _) hw) (fun _ _ ⟨v,H',I',r,q⟩=>⟨v,H',I'.unwish,r,q⟩) fun _ _ z=>False.elim z
theorem PT.nox {e:Expr} {t:TT} (h:PT X.nox e t):PT X e t:=fun pins s σ H Q I hw=>
  wpAny_mono (h pins s σ H Q (I.wish _) hw) (fun _ _ ⟨H',I',q⟩=>⟨H',I'.unwish,q⟩) fun _ _ z=>False.elim z
theorem PSs.nox {st:List Stmt} {t:TS} (h:PSs X.nox st t):PSs X st t:=fun pins s σ H D I hw=>
  wpAny_mono (h pins s σ H D (I.wish _) hw) (fun _ _ q=>q.unwish) fun _ _ z=>False.elim z
end
section
variable{X:Cx}{st:Stmt}{rest:List Stmt}{t u:TS}{e:Expr}{te:TE}{pos:Pos}
noncomputable def tNext:TS:=fun D σ H=>D.nx σ H
noncomputable def tSeq(t u:TS):TS:=fun D σ H=>t {D with nx:=u D} σ H
theorem pss_nil:PSs X [] tNext:=fun _ _ σ H _ I h=>wpAny_execs_nil ⟨σ,H,I,h⟩
theorem pss_cons (h1:PS X st t) (h2:PSs X rest u):PSs X (st::rest) (tSeq t u):=by
  intro pins s σ H D I h;refine wpAny_execs_cons (thn (h1 pins s σ H {D with nx:=u D} I h) fun f s1 q=> ?_)
  cases f with
  | next=>
    obtain⟨σ',H',I',q⟩:=q;exact h2 pins s1 σ' H' D I' q
  |ret v=>exact q
  |brk=>exact q
  |cont=>exact q
theorem pss_one (h1:PS X st t):PSs X [st] t:=by
  intro pins s σ H D I h;refine wpAny_execs_cons (thn (h1 pins s σ H D I h) fun f s1 q=> ?_)
  cases f with
  |next=>exact wpAny_execs_nil q
  |ret v=>exact q
  |brk=>exact q
  |cont=>exact q
theorem Inv.quiet{pins:List (Addr×Obj)}{σ:St}{H:Hp}{s:Shared}(I:Inv X pins σ H s):interactive X.env=false:=by simp[interactive,I.ok.kind]
noncomputable def tDrop(te:TE):TS:=fun D σ H=>te σ H fun _ H1=>D.nx σ H1
theorem ps_expr (he:PE X e te) (hs:swapsWith e none pos.line X.env=pure false:=by rfl):PS X (.Expr e pos) (tDrop te):=by
  intro pins s σ H D I h;exact wpAny_Expr_any (thn (he pins s σ H _ I h) fun v s1 ⟨x,H1,I1,r1,q1⟩=>⟨σ,H1,I1,q1⟩) I.quiet hs
noncomputable def tRet(te:TE):TS:=fun D σ H=>te σ H D.rt
theorem ps_ret (he:PE X e te):PS X (.Return (some e) pos) (tRet te):=by
  intro pins s σ H D I h;exact wpAny_Return_some (thn (he pins s σ H _ I h) fun v s1 ⟨x,H1,I1,r1,q1⟩=>⟨x,σ,H1,I1,r1,q1⟩)
noncomputable def tIfS(c:TT)(t u:TS):TS:=fun D σ H=>c σ H fun b H1=>if b=true then t D σ H1 else u D σ H1
theorem ps_if {c:Expr} {a b:List Stmt} {tc:TT} (hc:PT X c tc) (ha:PSs X a t) (hb:PSs X b u):PS X (.If c a b pos) (tIfS tc t u):=by
  intro pins s σ H D I h;refine wpAny_If (thn (hc pins s σ H _ I h) fun d s1 ⟨H1,I1,q1⟩=> ?_)
  cases d with
  |true=>exact ha pins s1 σ H1 D I1 q1
  |false=>exact hb pins s1 σ H1 D I1 q1
end
noncomputable abbrev TG:=V→St→Hp→(St→Hp→Prop)→Prop
noncomputable abbrev TGs:=List V→St→Hp→(St→Hp→Prop)→Prop
noncomputable def PG (X:Cx) (target:Expr) (t:TG):Prop:=
  ∀ (pins:List (Addr×Obj)) (s:Shared) (σ:St) (H:Hp) (v:V) (u:Value) (Q:St→Hp→Prop),Inv X pins σ H s→RelV v u→t v σ H Q→
    wpAny (model X.prog X.w) X.A (assign target X.env u) (fun _ s' =>∃σ' H',Inv X pins σ' H' s'∧Q σ' H') X.xe s
noncomputable def PGs (X:Cx) (ts:List Expr) (t:TGs):Prop:=
  ∀ (pins:List (Addr×Obj)) (s:Shared) (σ:St) (H:Hp) (vs:List V) (us:List Value) (Q:St→Hp→Prop),Inv X pins σ H s→Vals vs us→t vs σ H Q→
    wpAny (model X.prog X.w) X.A (assignInOrder ((assignEach ts X.env).map (·.2)) us) (fun _ s' =>∃σ' H',Inv X pins σ' H' s'∧Q σ' H') X.xe s
noncomputable abbrev TSet:=V→V→V→Hp→(Hp→Prop)→Prop
noncomputable def PSet (X:Cx) (t:TSet):Prop:=
  ∀ (pins:List (Addr×Obj)) (s:Shared) (σ:St) (H:Hp) (o i v:V) (ov iv u:Value) (Q:Hp→Prop),Inv X pins σ H s→RelV o ov→RelV i iv→RelV v u→t o i v H Q→
    wpAny (model X.prog X.w) X.A (setItem ov iv u) (fun _ s' =>∃H',Inv X pins σ H' s'∧Q H') X.xe s
section
variable{X:Cx}{pos:Pos}
noncomputable def gName(i:Nat):TG:=fun v σ H Q=>Q (σ.set i (some v)) H
theorem pg_name {i:Nat} {x:Str} (hN:X.N.Nodup) (hi:X.N[i]? =some x) (hx:Loc X.env.scope x) (hf:X.fn x=true∨X.env.scope.names.lookup x=some .local:=by first|exact .inl rfl|exact .inr rfl|assumption):PG X (.Name x pos) (gName i):=by
  intro pins s σ H v u Q I r h;exact wpAny_assign_Name (store_ok I hN hi hx r (fun s' I' =>⟨_,H,I',h⟩) hf)
noncomputable def gNil:TGs:=fun vs σ H Q=>vs=[]∧Q σ H
noncomputable def gCons(t:TG)(u:TGs):TGs:=fun vs σ H Q=>∃v r,vs=v::r∧t v σ H fun σ' H' =>u r σ' H' Q
theorem pgs_nil:PGs X [] gNil:=by
  intro pins s σ H vs us Q I r h;obtain⟨e,h⟩:=h;subst e;cases r;exact assignInOrder_nil ⟨σ,H,I,h⟩
theorem pgs_cons {e:Expr} {es:List Expr} {t:TG} {u:TGs} (h1:PG X e t) (h2:PGs X es u)
    (hs:(assignEach (e::es) X.env).map (·.2)=assign e X.env::(assignEach es X.env).map (·.2):=by rfl):PGs X (e::es) (gCons t u):=by
  intro pins s σ H vs us Q I r h;obtain⟨v,vr,e1,h⟩:=h;subst e1
  cases r with
  | cons r rr=>
    rw[hs];refine assignInOrder_cons (thn (h1 pins s σ H _ _ _ I r h) fun _ s1 ⟨σ1,H1,I1,q1⟩=> ?_);exact h2 pins s1 σ1 H1 _ _ Q I1 rr q1
noncomputable def gTup(K:PySem.W.Frag)(n:Nat)(t:TGs):TG:=fun v σ H Q=>∃a xs,v= .ref a∧SqT K H a xs∧xs.length=n∧t xs σ H Q
theorem pg_tup {es:List Expr} {k:Nat} {t:TGs} {n:Nat} (hc:X.calm=true) (h:PGs X es t)
    (hn:(assignEach es X.env).length=n:=by rfl) (hst:(assignEach es X.env).findIdx? (·.1)=none:=by rfl):PG X (.Tuple es k pos) (gTup X.K n t):=by
  intro pins s σ H v u Q I r hw;obtain⟨a,xs,e1,hq,hl,hw⟩:=hw;subst e1;cases r;obtain⟨its,rv,ht,hz⟩:=I.tuple hq;refine assign_Tuple_tuple (I.ok.hd hc) ht (by simp[hn,←hl,rv.length]) hst fun h' hx=> ?_;have I1:Inv X pins σ H {s with heap:=h'}:=I.kept (t' :=s.toks) fun b o e=>hx b o (Nat.ne_of_lt (Heap.lt_size e)) e;exact h pins _ σ H xs _ Q I1 (by simpa using rv) hw
noncomputable def gSub(to ti:TE)(t:TSet):TG:=fun v σ H Q=>to σ H fun o H1=>ti σ H1 fun i H2=>t o i v H2 fun H3=>Q σ H3
theorem pg_sub {o i:Expr} {to ti:TE} {t:TSet} (ho:PE X o to) (hi:PE X i ti) (hs:PSet X t)
    (ha:∀v,assign (.Subscript o i pos) X.env v=(do
      let ov←holding [v] (eval o X.env)
      let iv←holding [v,ov] (eval i X.env)
      standAt pos
      holding [v,ov,iv] (setItem ov iv v)
      release [v,ov,iv] []):=by intro _;rfl):PG X (.Subscript o i pos) (gSub to ti t):=by
  intro pins s σ H v u Q I r h;rw[ha];refine wpAny_bind (wpAny_holding (thn (ho pins s σ H _ I h) fun ov s1 ⟨x,H1,I1,r1,q1⟩=> ?_));refine wpAny_bind (wpAny_holding (thn (hi pins s1 σ H1 _ I1 q1) fun iv s2 ⟨y,H2,I2,r2,q2⟩=> ?_));refine wpAny_bind (wpAny_standAt (wpAny_bind (wpAny_holding (thn (hs pins s2 σ H2 x y v ov iv u _ I2 r1 r2 r q2) fun _ s3 ⟨H3,I3,q3⟩=> ?_))));exact wpAny_release ⟨σ,H3,I3,q3⟩
noncomputable def tAsg(te:TE)(g:TG):TS:=fun D σ H=>te σ H fun x H1=>g x σ H1 D.nx
theorem ps_asg {tg e:Expr} {te:TE} {g:TG} (he:PE X e te) (hg:PG X tg g) (hs:swapsWithSole [tg] e pos.line X.env=pure false:=by rfl) (hw:swappedStores [tg] e X.env=pure none:=by rfl)
    (h1:(assignEach [tg] X.env).map (·.2)=[assign tg X.env]:=by rfl):PS X (.Assign [tg] e pos) (tAsg te g):=by
  intro pins s σ H D I h;refine wpAny_Assign_stores (thn (he pins s σ H _ I h) fun v s1 ⟨x,H1,I1,r1,q1⟩=> ?_) hs hw;rw[h1];exact thn (hg pins s1 σ H1 x v _ I1 r1 q1) fun _ s2 q=>q
theorem ps_set {i:Nat} {x:Str} {e:Expr} {te:TE} {pos' :Pos} (hN:X.N.Nodup) (hi:X.N[i]? =some x) (hx:Loc X.env.scope x) (he:PE X e te) (hs:swapsWith e (some (.Name x pos')) pos.line X.env=pure false:=by rfl) (hf:X.fn x=true∨X.env.scope.names.lookup x=some .local:=by first|exact .inl rfl|exact .inr rfl|assumption):
    PS X (.Assign [.Name x pos'] e pos) (tAsg te (gName i)):=by
  intro pins s σ H D I h;refine wpAny_Assign_Name (thn (he pins s σ H _ I h) fun v s1 ⟨y,H1,I1,r1,q1⟩=> ?_) hs;exact store_ok I1 hN hi hx r1 (fun s2 I2=>⟨_,H1,I2,q1⟩) hf
end
section
variable{X:Cx}{pos:Pos}
end
structure It where
  go:Nat→Hp→Prop
  yld:Nat→Hp→V→Hp→Prop
  stop:Nat→Hp→Prop
noncomputable def FpOk (X:Cx) (pins:List (Addr×Obj)) (H:Hp) (b:Addr):Prop:=
  H b=none∧b≠X.env.locals∧b∉X.fs∧(b∈X.ex∨X.s₀.heap.objs.size≤b)∧(∀x c,X.env.cells.lookup x=some c→c≠b)∧∀p∈X.pn++pins,p.1≠b
theorem Inv.fpOk {X:Cx} {pins:List (Addr×Obj)} {σ:St} {H H' :Hp} {s:Shared} {b:Addr} (I:Inv X pins σ H s) (hb:s.heap.objs.size≤b) (hn:H' b=none):FpOk X pins H' b:=by
  refine⟨hn,Nat.ne_of_gt (Nat.lt_of_lt_of_le I.lt hb),I.nofs hb,.inr (Nat.le_trans I.sz hb),fun x c e z=> ?_,fun p hp z=> ?_⟩
  · obtain⟨v,q⟩:=I.cell x c e
    exact absurd (Nat.lt_of_lt_of_le q.lt (by rw[z];exact hb)) (Nat.lt_irrefl _)
  · exact absurd (Nat.lt_of_lt_of_le (Heap.lt_size (I.pin p hp).1) (by rw[z];exact hb)) (Nat.lt_irrefl _)
structure Turn (P:Program) (w:World) (K:PySem.W.Frag) (tg:Expr) (J:It) (fp:List Addr) (it:Addr) (tn:Nat→Heap→Prop):Prop where
  mem:it∈fp
  obj:∀i h,tn i h→∀b∈fp,∃o,h.get? b=some o∧∀v,o.data≠.cell v
  keep:∀i h h',tn i h→(∀b∈fp,∀o,h.get? b=some o→h'.get? b=some o)→tn i h'
  item:∀(X:Cx),X.prog=P→X.w=w→X.K=K→X.calm=true→∀(i:Nat) (pins:List (Addr×Obj)) (s:Shared) (σ:St) (H:Hp) (E:Value→Shared→Prop),Inv X pins σ H s→(∀b∈fp,FpOk X pins H b)→tn i s.heap→J.go i H→
    wpAny (model P w) X.A (pyNext (.ref it)) (fun r s1=>∃u,r=some u∧
      wpAny (model P w) X.A (letOwnedTupleGo tg (.ref it) u) (fun _ s2=>∃x H',Inv X pins σ H' s2∧RelV x u∧J.yld i H x H'∧tn (i+1) s2.heap∧∀b∈fp,H' b=none) E s1) E s
  done:∀(X:Cx),X.prog=P→X.w=w→X.K=K→X.calm=true→∀(i:Nat) (pins:List (Addr×Obj)) (s:Shared) (σ:St) (H:Hp) (E:Value→Shared→Prop),Inv X pins σ H s→(∀b∈fp,FpOk X pins H b)→tn i s.heap→J.stop i H→
    wpAny (model P w) X.A (pyNext (.ref it)) (fun r s1=>r=none∧Inv X pins σ H s1) E s
  self:∀(A:Around) (i:Nat) (s:Shared) (Q:Value→Shared→Prop) (E:Value→Shared→Prop),tn i s.heap→Q (.ref it) s→wpAny (model P w) A (pyIter (.ref it)) Q E s
noncomputable abbrev TI:=St→Hp→(It→Hp→Prop)→Prop
noncomputable def PIE (X:Cx) (pins:List (Addr×Obj)) (σ:St) (tg:Expr) (R:It→Hp→Prop) (itv:Value) (s2:Shared):Prop:=
  ∃(it:Addr) (fp:List Addr) (tn:Nat→Heap→Prop) (J:It) (H' :Hp),itv= .ref it∧Inv X pins σ H' s2∧Turn X.prog X.w X.K tg J fp it tn∧tn 0 s2.heap∧(∀b∈fp,FpOk X pins H' b)∧R J H'
noncomputable def PI (X:Cx) (tg iter:Expr) (wi:TI):Prop:=
  ∀ (pins:List (Addr×Obj)) (s:Shared) (σ:St) (H:Hp) (R:It→Hp→Prop),Inv X pins σ H s→wi σ H R→
    wpAny (model X.prog X.w) X.A (eval iter X.env) (fun v s1=>wpAny (model X.prog X.w) X.A (pyIter v) (PIE X pins σ tg R) X.xe s1) X.xe s
theorem go_of {M:Model} {A:Around} {E:Value→Shared→Prop} {s:Shared} {tg:Expr} {it:Addr} {u:Value} {o:Obj} {n:String} {vs:Array Value} {Q:Unit→Shared→Prop} (ho:s.heap.get? it=some o) (hc:o.cls= .type n) (hd:o.data= .fields vs)
    (hn:["enumerate","zip","dict_itemiterator","dict_reverseitemiterator","odict_iterator","itertools.zip_longest","itertools.pairwise"].contains n=false) (hQ:Q () s):wpAny M A (letOwnedTupleGo tg (.ref it) u) Q E s:=by
  unfold letOwnedTupleGo
  cases tg <;>first
    |exact wpAny_pure hQ
    | (cases u<;>first
        |exact wpAny_pure hQ
        | (refine wpAny_bind (wpAny_load ho ?_)
           rw[hc,hd];show wpAny M A (if(["enumerate","zip","dict_itemiterator","dict_reverseitemiterator","odict_iterator","itertools.zip_longest","itertools.pairwise"].contains n&&vs[0]? ==some (rawInt _))=true then _ else _) Q E s;rw[if_neg (by intro h;rw[hn,Bool.false_and] at h;cases h)];exact wpAny_pure hQ))
noncomputable def Itl (K:PySem.W.Frag) (a:Addr):It:=
  ⟨fun i H=>∃xs x,SqL K H a xs∧xs[i]? =some x,fun i H x H' =>H' =H∧∀xs,SqL K H a xs→xs[i]? =some x,fun i H=>∃xs,SqL K H a xs∧xs.length≤i⟩
noncomputable def Itr(lo:Int)(n:Nat):It:=⟨fun i _=>i<n,fun i H x H' =>H' =H∧x= .int (lo+i),fun i _=>n≤i⟩
theorem turn_list {P:Program} {w:World} {K:PySem.W.Frag} {tg:Expr} (a it:Addr):Turn P w K tg (Itl K a) [it] it (fun i h=>h.IsListIter it a i) where
  mem:=by simp
  obj:=fun i h st b hb=>by
    have e:b=it:=by simpa using hb
    subst e;obtain⟨o,e,c,d⟩:=st;exact⟨o,e,fun v z=>by rw[d] at z;cases z⟩
  keep:=fun i h h' st k=>st.at fun o e=>k it (by simp) o e
  item:=by
    intro X hP hw hK hc i pins s σ H E I hf st hg;subst hP hw hK;obtain⟨xs,x,hq,hx⟩:=hg;obtain⟨its,rv,p,hz⟩:=I.list hq;obtain⟨u,hu,ru⟩:=rv.get hx;obtain⟨f0,f1,f2,f3,f4,f5⟩:=hf it (by simp);refine wpAny_pyNext_list_item st p.isList (x:=u) (by simpa using hu) fun h' st' sb=> ?_;have I1:Inv X pins σ H {s with heap:=h'}:=I.turned (t' :=s.toks) (fun b o hb e=>(sb.2 b hb).trans e) f0 f1 f3 f4 f5;obtain⟨o,e,c,d⟩:=id st';exact⟨u,rfl,go_of (s:={s with heap:=h'}) e c d (by decide) ⟨x,H,I1,ru,⟨rfl,fun ys hy=>by rw[I.list_inj hy hq];exact hx⟩,st',fun b hb=>(hf b hb).1⟩⟩
  done:=by
    intro X hP hw hK hc i pins s σ H E I hf st hg;subst hP hw hK;obtain⟨xs,hq,hx⟩:=hg;obtain⟨its,rv,p,hz⟩:=I.list hq;obtain⟨f0,f1,f2,f3,f4,f5⟩:=hf it (by simp);have hl:=rv.length;exact wpAny_pyNext_list_end (I.ok.hd hc) st p.isList (by simp;omega) fun h' eb=>⟨rfl,I.turned (t' :=s.toks) (fun b o hb e=>eb b o hb e) f0 f1 f3 f4 f5⟩
  self:=fun _ _ _ _ _ st h=>wpAny_pyIter_listiter st h
theorem turn_range {P:Program} {w:World} {K:PySem.W.Frag} {tg:Expr} (it:Addr) (lo:Int) (n:Nat):Turn P w K tg (Itr lo n) [it] it (fun i h=>IsRangeIter h it (lo+(i:Nat)*1) ((n:Int) - (i:Nat)) 1) where
  mem:=by simp
  obj :=fun i h st b hb=>by
    have e:b=it:=by simpa using hb
    subst e
    exact⟨_,st,fun v z=>by
      have z' :Data.fields _=Data.cell v:=z;cases z'⟩
  keep:=fun i h h' st k=>k it (by simp) _ st
  item:=by
    intro X hP hw hK hc i pins s σ H E I hf st hg;subst hP hw hK;obtain⟨f0,f1,f2,f3,f4,f5⟩:=hf it (by simp);have W:=Walks.range (prog:=X.prog) (w:=X.w) (I.ok.hd hc) it lo 1 n;refine W.item i s _ _ hg st fun v h' tk hv st' kk=> ?_;obtain⟨t,rfl⟩:=hv;have I1:Inv X pins σ H {s with heap:=h',toks:=tk}:=I.turned (fun b o hb e=>kk b o (by simpa using hb) e) f0 f1 f3 f4 f5;refine⟨_,rfl,go_of (s:={s with heap:=h',toks:=tk}) (n:="range_iterator") st' rfl rfl (by decide) ⟨.int (lo+i),H,I1,⟨t,?_⟩,⟨rfl,rfl⟩,st',fun b hb=>(hf b hb).1⟩⟩;rw[Int.mul_one]
  done:=by
    intro X hP hw hK hc i pins s σ H E I hf st hg;subst hP hw hK;obtain⟨f0,f1,f2,f3,f4,f5⟩:=hf it (by simp);exact wpAny_pyNext_range_end (I.ok.hd hc) st (by have:n≤i:=hg;omega) fun h' eb=>⟨rfl,I.turned (t' :=s.toks) (fun b o hb e=>eb b o hb e) f0 f1 f3 f4 f5⟩
  self:=fun _ _ _ _ _ st h=>wpAny_pyIter_rangeiter st h
end L2
namespace L2
open PySem PySem.Spec PyProof.Rows
section
variable{X:Cx}{tg:Expr}
noncomputable def iList(K:PySem.W.Frag)(tl:TE):TI:=fun σ H R=>tl σ H fun x H1=>∃a,x= .ref a∧(∃xs,SqL K H1 a xs)∧R (Itl K a) H1
theorem pi_list {l:Expr} {tl:TE} (hl:PE X l tl):PI X tg l (iList X.K tl):=by
  intro pins s σ H R I h;refine thn (hl pins s σ H _ I h) fun v s1 ⟨x,H1,I1,r1,q1⟩=> ?_;obtain⟨a,e,⟨xs,hq⟩,q⟩:=q1;subst e;cases r1;obtain⟨its,rv,p,hz⟩:=I1.list hq;refine wpAny_pyIter_list p.isList ?_;refine⟨s1.heap.objs.size,[s1.heap.objs.size],_,_,H1,rfl,I1.kept (t' :=s1.toks) fun b o e=>Heap.get?_push_of_some _ e,turn_list a _,⟨_,Heap.get?_push_size _ rfl,rfl,rfl⟩,fun b hb=> ?_,q⟩;have e:b=s1.heap.objs.size:=by simpa using hb
  subst e;exact I1.fpOk (Nat.le_refl _) (I1.hok.fresh (Nat.le_refl _))
theorem range_it {pins:List (Addr×Obj)} {σ:St} {H:Hp} {s:Shared} {R:It→Hp→Prop} {E:Value→Shared→Prop} {lo hi:Int} {t u v:Tok} {tk:Nat} (I:Inv X pins σ H s) (h1: -(2 ^ 62)≤lo) (h2:lo<2 ^ 62) (h3: -(2 ^ 62)≤hi) (h4:hi<2 ^ 62)
    (q:R (Itr lo (hi - lo).toNat) H):wpAny (model X.prog X.w) X.A (pyIter (.ref s.heap.objs.size)) (PIE X pins σ tg R) E {s with heap:=s.heap.push {cls:= .type "range",data:= .fields #[.int lo t,.int hi u,.int 1 v]},toks:=tk}:=by
  refine wpAny_pyIter_range (IsRange.new ..) (small_one h1 h2 h3 h4) ?_;have I1:Inv X pins σ H {s with heap:=s.heap.push {cls:= .type "range",data:= .fields #[.int lo t,.int hi u,.int 1 v]},toks:=tk}:=I.kept fun b o e=>Heap.get?_push_of_some _ e
  refine⟨(s.heap.push {cls:= .type "range",data:= .fields #[.int lo t,.int hi u,.int 1 v]}).objs.size,[(s.heap.push {cls:= .type "range",data:= .fields #[.int lo t,.int hi u,.int 1 v]}).objs.size],_,_,H,rfl,
    I1.kept (t' :=tk) fun b o e=>Heap.get?_push_of_some _ e,turn_range _ lo (hi - lo).toNat,?_,fun b hb=> ?_,q⟩
  · have e1:lo+((0:Nat):Int)*1=lo:=by simp
    have e2:(((hi - lo).toNat:Nat):Int) - ((0:Nat):Int)=Builtin.Range.rangeSize lo hi 1:=by rw[rangeSize_one];split<;>omega
    show IsRangeIter _ _ (lo+((0:Nat):Int)*1) ((((hi - lo).toNat:Nat):Int) - ((0:Nat):Int)) 1;rw[e1,e2];exact Heap.get?_push_size _ rfl
  · have e:b=(s.heap.push {cls:= .type "range",data:= .fields #[.int lo t,.int hi u,.int 1 v]}).objs.size:=by simpa using hb
    subst e;exact I1.fpOk (Nat.le_refl _) (I1.hok.fresh (Nat.le_refl _))
noncomputable def iRng1(ta:TA):TI:=fun σ H R=>ta σ H fun vs H1=>∃j:Int,vs=[.int j]∧ -(2 ^ 62)≤j∧j<2 ^ 62∧R (Itr 0 j.toNat) H1
theorem pi_range1 {a:Expr} {ta:TA} {p pos:Pos} (hg:Gl X "range") (hm:X.mg "range"=none) (ha:PA X [a] ta) (hs:starEach [a] X.env=[(false,eval a X.env)]:=by rfl):PI X tg (.Call (.Name "range" p) [a] [] pos) (iRng1 ta):=by
  intro pins s σ H R I h;refine Call_ (ld_blt I hg hm boot_range (PyProof.Rows.callWith_type1 (thn (ha pos pins s σ H _ I h) fun us s1 ⟨vs,H1,I1,r1,q1⟩=> ?_) hs rfl));obtain⟨j,e,q1,q2,q⟩:=q1;subst e
  cases r1 with
  | cons r rr=>
    cases rr;obtain⟨t,rfl⟩:=r;exact call_range_1 (range_it I1 (by omega) (by omega) q1 q2 (by simpa using q))
noncomputable def tFor (wi:TI) (g:TG) (tb:TS):TS:=fun D σ H=>wi σ H fun J H1=>∃W:Nat→Nat→St→Hp→Prop,(∃m,W 0 m σ H1)∧∀i m σ H,W i m σ H→
  (J.stop i H∧D.nx σ H)∨(J.go i H∧∃N:St→Hp→Prop,(∀σ' H',N σ' H'→∃m',m' <m∧W (i+1) m' σ' H')∧∀x H',J.yld i H x H'→g x σ H' fun σ2 H2=>tb {D with nx:=N,ct:=N,bk:=D.nx} σ2 H2)
noncomputable def pinsAt(fp:List Addr)(h:Heap):List (Addr×Obj):=fp.filterMap fun b=>(h.get? b).map fun o=>(b,o)
theorem mem_pinsAt{fp:List Addr}{h:Heap}{b:Addr}{o:Obj}(hb:b∈fp)(e:h.get? b=some o):(b,o)∈pinsAt fp h:=List.mem_filterMap.mpr ⟨b,hb,by rw[e];rfl⟩
theorem of_pinsAt {fp:List Addr} {h:Heap} {p:Addr×Obj} (hp:p∈pinsAt fp h):p.1∈fp∧h.get? p.1=some p.2:=by
  obtain⟨b,hb,e⟩:=List.mem_filterMap.mp hp
  cases q:h.get? b with
  |none=>rw[q] at e;cases e
  | some o=>
    rw[q] at e;have e' :(b,o)=p:=Option.some.inj e;subst e';exact⟨hb,q⟩
theorem Inv.pinned {pins:List (Addr×Obj)} {σ:St} {H:Hp} {s:Shared} {fp:List Addr} (I:Inv X pins σ H s) (hf:∀b∈fp,FpOk X pins H b) (ho:∀b∈fp,∃o,s.heap.get? b=some o∧∀v,o.data≠.cell v):Inv X (pins++pinsAt fp s.heap) σ H s:=
  I.pins_of fun p hp=>(List.mem_append.mp hp).elim (fun z=>I.pin p (List.mem_append_right _ z)) fun z=>by
    obtain⟨hb,e⟩:=of_pinsAt z;obtain⟨f0,f1,f2,_⟩:=hf p.1 hb;obtain⟨o,e',d⟩:=ho p.1 hb;rw[e] at e';cases e'
    exact⟨e,f0,f1,f2,d⟩
theorem Inv.unpinned{pins pl:List (Addr×Obj)}{σ:St}{H:Hp}{s:Shared}(I:Inv X (pins++pl) σ H s):Inv X pins σ H s:=I.pins_of fun p hp=>I.pin p (List.mem_append_right _ (List.mem_append_left _ hp))
theorem ps_for {iter:Expr} {body:List Stmt} {wi:TI} {g:TG} {tb:TS} {pos:Pos} (hp:PassesOwn (model X.prog X.w) X.A X.env X.xe) (hc:X.calm=true) (hi:PI X tg iter wi) (hg:PG X tg g) (hb:PSs X body tb)
    (hs:∀x,foldedSetIterable iter X.env x=pure x:=by intro _;rfl):PS X (.For tg iter body [] pos) (tFor wi g tb):=by
  intro pins s σ H D I h;refine wpAny_For (thn (hi pins s σ H _ I h) fun v s1 h1=>thn h1 fun itv s2 h2=> ?_) hs;obtain⟨it,fp,tn,J,H2,e,I2,T,st2,f2,W,⟨m0,w0⟩,turn⟩:=h2;subst e;have stat:∀{H' :Hp},(∀b∈fp,H' b=none)→∀b∈fp,FpOk X pins H' b:=fun hn b hb=>⟨hn b hb,(f2 b hb).2⟩;refine codeAny_forLoop_any (fun n s' =>∃i σ' H',Inv X pins σ' H' s'∧tn i s'.heap∧(∀b∈fp,H' b=none)∧W i n σ' H') ?_ m0 ⟨0,σ,H2,I2,st2,fun b hb=>(f2 b hb).1,w0⟩
  rintro n s3 ⟨i,σ3,H3,I3,st3,fr3,w3⟩
  rcases turn i n σ3 H3 w3 with⟨stop,qn⟩|⟨go,N,hN,step⟩
  · refine wpAny_passesOwn hp (thn (T.done X rfl rfl rfl hc i pins s3 σ3 H3 X.xe I3 (stat fr3) st3 stop) fun r s4 ⟨hr,I4⟩=> ?_)
    subst hr;exact wpAny_execs_nil ⟨σ3,H3,I4,qn⟩
  · refine wpAny_passesOwn hp (thn (T.item X rfl rfl rfl hc i pins s3 σ3 H3 X.xe I3 (stat fr3) st3 go) fun r s4 ⟨u,hr,h4⟩=> ?_)
    subst hr;refine wpAny_passesOwn hp (thn h4 fun _ s5 ⟨x,H5,I5,r5,y5,st5,fr5⟩=> ?_);have I5' :=I5.pinned (stat fr5) (T.obj _ _ st5);refine wpAny_passesOwn hp (thn (hg _ s5 σ3 H5 x u _ I5' r5 (step x H5 y5)) fun _ s6 ⟨σ6,H6,I6,q6⟩=> ?_);refine wpAny_passesOwn hp (thn (hb _ s6 σ6 H6 _ I6 q6) fun f s7 q7=> ?_)
    have again:∀{σ7:St} {H7:Hp},Inv X (pins++pinsAt fp s5.heap) σ7 H7 s7→N σ7 H7→∃m,m<n∧∃i σ' H',Inv X pins σ' H' s7∧tn i s7.heap∧(∀b∈fp,H' b=none)∧W i m σ' H' :=fun{σ7 H7} I7 n7=>by
      obtain⟨m',hm,w7⟩:=hN σ7 H7 n7;refine⟨m',hm,i+1,σ7,H7,I7.unpinned,T.keep _ _ _ st5 fun b hb o e=>(I7.pin (b,o) (List.mem_append_right _ (List.mem_append_right _ (mem_pinsAt hb e)))).1,fun b hb=> ?_,w7⟩;obtain⟨o,e,d⟩:=T.obj _ _ st5 b hb;exact(I7.pin (b,o) (List.mem_append_right _ (List.mem_append_right _ (mem_pinsAt hb e)))).2.1
    cases f with
    |next=>obtain⟨σ7,H7,I7,n7⟩:=q7;exact again I7 n7
    |cont=>obtain⟨σ7,H7,I7,n7⟩:=q7;exact again I7 n7
    |brk=>obtain⟨σ7,H7,I7,q7⟩:=q7;exact⟨σ7,H7,I7.unpinned,q7⟩
    |ret v=>obtain⟨x7,σ7,H7,I7,r7,q7⟩:=q7;exact⟨x7,σ7,H7,I7.unpinned,r7,q7⟩
end
theorem for_list {K:PySem.W.Frag} {a:Addr} {xs:List V} {g:TG} {tb:TS} {D:Ends} {σ:St} {H:Hp} (Pv:Nat→St→Hp→Prop) (h0:Pv 0 σ H) (hl:∀i σ H,i≤xs.length→Pv i σ H→SqL K H a xs)
    (hs:∀i x σ H,xs[i]? =some x→Pv i σ H→g x σ H fun σ2 H2=>tb {D with nx:=Pv (i+1),ct:=Pv (i+1),bk:=D.nx} σ2 H2) (hd:∀σ H,Pv xs.length σ H→D.nx σ H):
    ∃ W:Nat→Nat→St→Hp→Prop,(∃m,W 0 m σ H)∧∀i m σ H,W i m σ H→
      ((Itl K a).stop i H∧D.nx σ H)∨((Itl K a).go i H∧∃N:St→Hp→Prop,(∀σ' H',N σ' H'→∃m',m' <m∧W (i+1) m' σ' H')∧∀x H',(Itl K a).yld i H x H'→g x σ H' fun σ2 H2=>tb {D with nx:=N,ct:=N,bk:=D.nx} σ2 H2):=by
  refine⟨fun i m σ H=>m=xs.length - i∧i≤xs.length∧Pv i σ H,⟨xs.length,by simp,Nat.zero_le _,h0⟩,?_⟩
  rintro i m σ H ⟨rfl,hi,p⟩
  have q:=hl i σ H hi p;by_cases hlt:i<xs.length
  · refine .inr ⟨⟨xs,xs[i],q,by simp[hlt]⟩,Pv (i+1),fun σ' H' p' =>⟨xs.length - (i+1),by omega,rfl,hlt,p'⟩,fun x H' y=> ?_⟩
    obtain⟨e,y⟩:=y;subst e;exact hs i x σ _ (y xs q) p
  · have e:i=xs.length:=by omega
    subst e;exact .inl ⟨⟨xs,q,Nat.le_refl _⟩,hd σ H p⟩
theorem for_range {lo:Int} {n:Nat} {g:TG} {tb:TS} {D:Ends} {σ:St} {H:Hp} (Pv:Nat→St→Hp→Prop) (h0:Pv 0 σ H)
    (hs:∀i σ H,i<n→Pv i σ H→g (.int (lo+i)) σ H fun σ2 H2=>tb {D with nx:=Pv (i+1),ct:=Pv (i+1),bk:=D.nx} σ2 H2) (hd:∀σ H,Pv n σ H→D.nx σ H):
    ∃ W:Nat→Nat→St→Hp→Prop,(∃m,W 0 m σ H)∧∀i m σ H,W i m σ H→
      ((Itr lo n).stop i H∧D.nx σ H)∨((Itr lo n).go i H∧∃N:St→Hp→Prop,(∀σ' H',N σ' H'→∃m',m' <m∧W (i+1) m' σ' H')∧∀x H',(Itr lo n).yld i H x H'→g x σ H' fun σ2 H2=>tb {D with nx:=N,ct:=N,bk:=D.nx} σ2 H2):=by
  refine⟨fun i m σ H=>m=n - i∧i≤n∧Pv i σ H,⟨n,by simp,Nat.zero_le _,h0⟩,?_⟩
  rintro i m σ H ⟨rfl,hi,p⟩
  by_cases hlt:i<n
  · refine .inr ⟨hlt,Pv (i+1),fun σ' H' p' =>⟨n - (i+1),by omega,rfl,hlt,p'⟩,fun x H' y=> ?_⟩
    obtain⟨e,y⟩:=y;subst e y;exact hs i σ _ hlt p
  · have e:i=n:=by omega
    subst e;exact .inl ⟨Nat.le_refl _,hd σ H p⟩
end L2
namespace L2
open PySem PySem.Spec PyProof.Rows
noncomputable abbrev R2:=V→V→Hp→VK→Prop
noncomputable def OpR (X:Cx) (f:Value→Value→Sem Value) (r:R2):Prop:=
  ∀ (pins:List (Addr×Obj)) (s:Shared) (σ:St) (H:Hp) (x y:V) (v u:Value) (Q:VK),Inv X pins σ H s→RelV x v→RelV y u→r x y H Q→
    wpAny (model X.prog X.w) X.A (f v u) (EP X pins σ Q) X.xe s
noncomputable def UnR (X:Cx) (f:Value→Sem Value) (r:V→Hp→VK→Prop):Prop:=
  ∀ (pins:List (Addr×Obj)) (s:Shared) (σ:St) (H:Hp) (x:V) (v:Value) (Q:VK),Inv X pins σ H s→RelV x v→r x H Q→
    wpAny (model X.prog X.w) X.A (f v) (EP X pins σ Q) X.xe s
noncomputable def CallR (X:Cx) (f:Value) (r:List V→Hp→VK→Prop):Prop:=
  ∀ (pins:List (Addr×Obj)) (s:Shared) (σ:St) (H:Hp) (xs:List V) (us:List Value) (Q:VK),Inv X pins σ H s→Vals xs us→r xs H Q→
    wpAny (model X.prog X.w) X.A (call f us) (EP X pins σ Q) X.xe s
noncomputable def tOp(r:R2)(ta tb:TE):TE:=fun σ H Q=>ta σ H fun x H1=>tb σ H1 fun y H2=>r x y H2 Q
noncomputable def tUn(r:V→Hp→VK→Prop)(ta:TE):TE:=fun σ H Q=>ta σ H fun x H1=>r x H1 Q
noncomputable def rI(C:Int→Int→Prop)(g:Int→Int→V):R2:=fun x y H Q=>∃i j,x= .int i∧y= .int j∧C i j∧Q (g i j) H
noncomputable def rI0(g:Int→Int→V):R2:=fun x y H Q=>∃i j,x= .int i∧y= .int j∧Q (g i j) H
noncomputable def rU(g:Int→V):V→Hp→VK→Prop:=fun x H Q=>∃i,x= .int i∧Q (g i) H
section
variable{X:Cx}{a b c:Expr}{ta tb tc:TE}{pos:Pos}
theorem binT (ha:PE X a ta) (hb:PE X b tb) {pins:List (Addr×Obj)} {s:Shared} {σ:St} {H:Hp} {R:V→V→Hp→Prop} (I:Inv X pins σ H s)
    (h:ta σ H fun x H1=>tb σ H1 fun y H2=>R x y H2) {Q:Value→Shared→Prop} {f:Value→Value→Sem Value}
    (hf:∀v u s2 x y H2,Inv X pins σ H2 s2→RelV x v→RelV y u→R x y H2→wpAny (model X.prog X.w) X.A (f v u) Q X.xe s2):
    wpAny (model X.prog X.w) X.A (eval a X.env) (fun v s₁=>wpAny (model X.prog X.w) X.A (eval b X.env) (fun u s₂=>wpAny (model X.prog X.w) X.A (f v u) Q X.xe s₂) X.xe s₁) X.xe s:=by
  refine thn (ha pins s σ H _ I h) fun v s1 ⟨x,H1,I1,r1,q1⟩=> ?_;refine thn (hb pins s1 σ H1 _ I1 q1) fun u s2 ⟨y,H2,I2,r2,q2⟩=> ?_;exact hf v u s2 x y H2 I2 r1 r2 q2
theorem pe_op {op:Operator} {r:R2} (ho:OpR X (binaryOp op) r) (ha:PE X a ta) (hb:PE X b tb):PE X (.BinOp a op b pos) (tOp r ta tb):=by
  intro pins s σ H Q I h;exact wpAny_BinOp (binT ha hb I h fun v u s2 x y H2 I2 rx ry q=>ho pins s2 σ H2 x y v u Q I2 rx ry q)
theorem pe_un {op:UnaryOp} {r:V→Hp→VK→Prop} (ho:UnR X (unaryOp op) r) (ha:PE X a ta):PE X (.UnaryOp op a pos) (tUn r ta):=by
  intro pins s σ H Q I h;exact UnaryOp_ (thn (ha pins s σ H _ I h) fun v s1 ⟨x,H1,I1,r1,q1⟩=>ho pins s1 σ H1 x v Q I1 r1 q1)
theorem opI {f:Value→Value→Sem Value} {C:Int→Int→Prop} {g:Int→Int→Int}
    (rule:∀(i j:Int) (t u:Tok) (s:Shared) (Q:Value→Shared→Prop) (E:Value→Shared→Prop),C i j→Q (.int (g i j) s.toks) {s with toks:=s.toks+1}→wpAny (model X.prog X.w) X.A (f (.int i t) (.int j u)) Q E s):
    OpR X f (rI C fun i j=> .int (g i j)):=by
  intro pins s σ H x y v u Q I rx ry h;obtain⟨i,j,rfl,rfl,hc,q⟩:=h;obtain⟨t,rfl⟩:=rx;obtain⟨t',rfl⟩:=ry;exact rule i j t t' s _ _ hc ⟨.int (g i j),H,I.tok _,⟨_,rfl⟩,q⟩
theorem opI0 {f:Value→Value→Sem Value} {g:Int→Int→Int}
    (rule:∀(i j:Int) (t u:Tok) (s:Shared) (Q:Value→Shared→Prop) (E:Value→Shared→Prop),Q (.int (g i j) s.toks) {s with toks:=s.toks+1}→wpAny (model X.prog X.w) X.A (f (.int i t) (.int j u)) Q E s):
    OpR X f (rI0 fun i j=> .int (g i j)):=by
  intro pins s σ H x y v u Q I rx ry h;obtain⟨i,j,rfl,rfl,q⟩:=h;obtain⟨t,rfl⟩:=rx;obtain⟨t',rfl⟩:=ry;exact rule i j t t' s _ _ ⟨.int (g i j),H,I.tok _,⟨_,rfl⟩,q⟩
theorem opB0 {f:Value→Value→Sem Value} {g:Int→Int→Bool}
    (rule:∀(i j:Int) (t u:Tok) (s:Shared) (Q:Value→Shared→Prop) (E:Value→Shared→Prop),Q (.bool (g i j)) s→wpAny (model X.prog X.w) X.A (f (.int i t) (.int j u)) Q E s):
    OpR X f (rI0 fun i j=> .bl (g i j)):=by
  intro pins s σ H x y v u Q I rx ry h;obtain⟨i,j,rfl,rfl,q⟩:=h;obtain⟨t,rfl⟩:=rx;obtain⟨t',rfl⟩:=ry;exact rule i j t t' s _ _ ⟨.bl (g i j),H,I,rfl,q⟩
noncomputable def CPow(i j:Int):Prop:=0≤j∧j≤1000000∧i.natAbs<2 ^ 64
noncomputable def CMul(i j:Int):Prop:=(-(2 ^ 64)<i∧i<2 ^ 64)∨(-(2 ^ 64)<j∧j<2 ^ 64)
theorem CMul.ok {i j:Int} (h:CMul i j):IntMulOk i j:=by
  rcases h with⟨h1,h2⟩|⟨h1,h2⟩
  · exact .of_left (intBits_le_64 h1 h2)
  · exact .of_right (intBits_le_64 h1 h2)
theorem op_add:OpR X (binaryOp .Add) (rI0 fun i j=> .int (i+j)):=opI0 fun _ _ _ _ _ _ _ q=>add_int q
theorem op_sub:OpR X (binaryOp .Sub) (rI0 fun i j=> .int (i - j)):=opI0 fun _ _ _ _ _ _ _ q=>sub_int q
theorem op_mul:OpR X (binaryOp .Mult) (rI CMul fun i j=> .int (i*j)):=opI fun _ _ _ _ _ _ _ hc q=>mul_int q hc.ok
theorem op_mod:OpR X (binaryOp .Mod) (rI (fun _ j=>0<j) fun i j=> .int (i % j)):=opI fun i j _ _ _ _ _ hc q=>by
  have h1:(0:Int)<j:=hc;exact mod_int' (by omega) (by rw[Int.fmod_eq_emod_of_nonneg i (by omega)];exact q)
theorem op_pow:OpR X (binaryOp .Pow) (rI CPow fun i j=> .int (i ^ j.toNat)):=opI fun _ _ _ _ _ _ _ hc q=>pow_int_small hc.1 hc.2.1 hc.2.2 q
theorem unI {f:Value→Sem Value} {g:Int→Int}
    (rule:∀(i:Int) (t:Tok) (s:Shared) (Q:Value→Shared→Prop) (E:Value→Shared→Prop),Q (.int (g i) s.toks) {s with toks:=s.toks+1}→wpAny (model X.prog X.w) X.A (f (.int i t)) Q E s):
    UnR X f (rU fun i=> .int (g i)):=by
  intro pins s σ H x v Q I rx h;obtain⟨i,rfl,q⟩:=h;obtain⟨t,rfl⟩:=rx;exact rule i t s _ _ ⟨.int (g i),H,I.tok _,⟨_,rfl⟩,q⟩
theorem un_neg:UnR X (unaryOp .USub) (rU fun i=> .int (-i)):=unI fun _ _ _ _ _ q=>neg_int q
end
noncomputable def scal:V→V→Bool
  | .non,.non=>true| .non,.int _=>true| .int _,.non=>true| .non,.bl _=>true| .bl _,.non=>true| .non,.str _=>true| .str _,.non=>true
  | .int _,.int _=>true| .bl _,.bl _=>true| .str _,.str _=>true| .byt _,.byt _=>true
  | .int _,.str _=>true| .str _,.int _=>true| .bl _,.str _=>true| .str _,.bl _=>true
  |_,_=>false
noncomputable def rEq:R2:=fun x y H Q=>scal x y=true∧Q (.bl (decide (x=y))) H
noncomputable def rNe:R2:=fun x y H Q=>scal x y=true∧Q (.bl (!decide (x=y))) H
theorem dec_int {i j:Int}:decide (V.int i=V.int j)=(i==j):=by
  rw[Bool.eq_iff_iff];simp
theorem dec_bl {i j:Bool}:decide (V.bl i=V.bl j)=(i==j):=by
  rw[Bool.eq_iff_iff];simp
theorem dec_str {i j:Str}:decide (V.str i=V.str j)=(i==j):=by
  rw[Bool.eq_iff_iff];simp
theorem dec_byt {i j:Array UInt8}:decide (V.byt i=V.byt j)=(i.toList==j.toList):=by
  rw[Bool.eq_iff_iff];cases i;cases j;simp
section
variable{X:Cx}{a b c:Expr}{ta tb tc:TE}{pos:Pos}
theorem fin_bl {pins:List (Addr×Obj)} {σ:St} {H:Hp} {s:Shared} {Q:VK} {k k' :Bool} (I:Inv X pins σ H s) (q:Q (.bl k) H) (e:k=k'):EP X pins σ Q (.bool k') s:=by
  subst e;exact⟨.bl k,H,I,rfl,q⟩
theorem op_eq:OpR X (compareOp .Eq) rEq:=by
  intro pins s σ H x y v u Q I rx ry h;obtain⟨hs,q⟩:=h
  cases x with
  | non=>
    cases rx
    cases y with
    |non=>cases ry;exact PySem.EqNone.eq_none_none (fin_bl I q (by simp))
    |bl j=>cases ry;exact PySem.EqNone.eq_none_bool (fin_bl I q (by simp))
    |int j=>obtain⟨t',rfl⟩:=ry;exact PySem.EqNone.eq_none_int (fin_bl I q (by simp))
    |str j=>obtain⟨t',rfl⟩:=ry;exact PySem.EqNone.eq_none_str (fin_bl I q (by simp))
    |_=>exact absurd (show false=true from hs) Bool.false_ne_true
  | bl i=>
    cases rx
    cases y with
    |non=>cases ry;exact PySem.EqNone.eq_bool_none (fin_bl I q (by simp))
    |bl j=>cases ry;exact eq_bool (fin_bl I q dec_bl)
    |str j=>obtain⟨t',rfl⟩:=ry;exact PySem.EqMixed.eq_bool_str (fin_bl I q (by simp))
    |_=>exact absurd (show false=true from hs) Bool.false_ne_true
  | int i=>
    obtain⟨t,rfl⟩:=rx
    cases y with
    |non=>cases ry;exact PySem.EqNone.eq_int_none (fin_bl I q (by simp))
    |int j=>obtain⟨t',rfl⟩:=ry;exact eq_int (fin_bl I q dec_int)
    |str j=>obtain⟨t',rfl⟩:=ry;exact PySem.EqMixed.eq_int_str (fin_bl I q (by simp))
    |_=>exact absurd (show false=true from hs) Bool.false_ne_true
  | str i=>
    obtain⟨t,rfl⟩:=rx
    cases y with
    |non=>cases ry;exact PySem.EqNone.eq_str_none (fin_bl I q (by simp))
    |bl j=>cases ry;exact PySem.EqMixed.eq_str_bool (fin_bl I q (by simp))
    |int j=>obtain⟨t',rfl⟩:=ry;exact PySem.EqMixed.eq_str_int (fin_bl I q (by simp))
    |str j=>obtain⟨t',rfl⟩:=ry;exact eq_str (fin_bl I q dec_str)
    |_=>exact absurd (show false=true from hs) Bool.false_ne_true
  | byt i=>
    obtain⟨t,rfl⟩:=rx
    cases y with
    |byt j=>obtain⟨t',rfl⟩:=ry;exact PySem.W.eq_bytes (fin_bl I q dec_byt)
    |_=>exact absurd (show false=true from hs) Bool.false_ne_true
  |_=>cases y<;>exact absurd (show false=true from hs) Bool.false_ne_true
theorem op_ne:OpR X (compareOp .NotEq) rNe:=by
  intro pins s σ H x y v u Q I rx ry h;obtain⟨hs,q⟩:=h
  cases x with
  | non=>
    cases rx
    cases y with
    |non=>cases ry;exact PySem.EqNone.ne_none_none (fin_bl I q (by simp))
    |bl j=>cases ry;exact PySem.EqNone.ne_none_bool (fin_bl I q (by simp))
    |int j=>obtain⟨t',rfl⟩:=ry;exact PySem.EqNone.ne_none_int (fin_bl I q (by simp))
    |str j=>obtain⟨t',rfl⟩:=ry;exact PySem.EqNone.ne_none_str (fin_bl I q (by simp))
    |_=>exact absurd (show false=true from hs) Bool.false_ne_true
  | bl i=>
    cases rx
    cases y with
    |non=>cases ry;exact PySem.EqNone.ne_bool_none (fin_bl I q (by simp))
    |bl j=>cases ry;exact ne_bool (fin_bl I q (congrArg not dec_bl))
    |str j=>obtain⟨t',rfl⟩:=ry;exact PySem.EqMixed.ne_bool_str (fin_bl I q (by simp))
    |_=>exact absurd (show false=true from hs) Bool.false_ne_true
  | int i=>
    obtain⟨t,rfl⟩:=rx
    cases y with
    |non=>cases ry;exact PySem.EqNone.ne_int_none (fin_bl I q (by simp))
    |int j=>obtain⟨t',rfl⟩:=ry;exact ne_int (fin_bl I q (congrArg not dec_int))
    |str j=>obtain⟨t',rfl⟩:=ry;exact PySem.EqMixed.ne_int_str (fin_bl I q (by simp))
    |_=>exact absurd (show false=true from hs) Bool.false_ne_true
  | str i=>
    obtain⟨t,rfl⟩:=rx
    cases y with
    |non=>cases ry;exact PySem.EqNone.ne_str_none (fin_bl I q (by simp))
    |bl j=>cases ry;exact PySem.EqMixed.ne_str_bool (fin_bl I q (by simp))
    |int j=>obtain⟨t',rfl⟩:=ry;exact PySem.EqMixed.ne_str_int (fin_bl I q (by simp))
    |str j=>obtain⟨t',rfl⟩:=ry;exact ne_str (fin_bl I q (congrArg not dec_str))
    |_=>exact absurd (show false=true from hs) Bool.false_ne_true
  | byt i=>
    obtain⟨t,rfl⟩:=rx
    cases y with
    |byt j=>obtain⟨t',rfl⟩:=ry;exact PySem.W.ne_bytes (fin_bl I q (congrArg not dec_byt))
    |_=>exact absurd (show false=true from hs) Bool.false_ne_true
  |_=>cases y<;>exact absurd (show false=true from hs) Bool.false_ne_true
theorem op_lt:OpR X (compareOp .Lt) (rI0 fun i j=> .bl (decide (i<j))):=opB0 fun _ _ _ _ _ _ _ q=>lt_int q
theorem op_gt:OpR X (compareOp .Gt) (rI0 fun i j=> .bl (decide (j<i))):=opB0 fun _ _ _ _ _ _ _ q=>gt_int q
theorem OpR.or {f:Value→Value→Sem Value} {r r' :R2} (h:OpR X f r) (h' :OpR X f r'):OpR X f (fun x y H Q=>r x y H Q∨r' x y H Q):=by
  intro pins s σ H x y v u Q I rx ry q;rcases q with q|q
  · exact h pins s σ H x y v u Q I rx ry q
  · exact h' pins s σ H x y v u Q I rx ry q
theorem nomark (b:Expr) {op:CmpOp} (h:op≠.In:=by decide) (h2:op≠.NotIn:=by decide):behindInMarks op b=false:=by
  have e1:(op==CmpOp.In)=false:=by cases op<;>first|rfl|exact absurd rfl h
  have e2:(op==CmpOp.NotIn)=false:=by cases op<;>first|rfl|exact absurd rfl h2
  cases b<;>simp[behindInMarks,e1,e2]
theorem pe_cmpR {op:CmpOp} {r:R2} (ho:OpR X (compareOp op) r) (ha:PE X a ta) (hb:PE X b tb) (hm:behindInMarks op b=false):PE X (.Compare a [op] [b] pos) (tOp r ta tb):=by
  intro pins s σ H Q I h;exact wpAny_Compare1 (binT ha hb I h fun v u s2 x y H2 I2 rx ry q=>ho pins s2 σ H2 x y v u Q I2 rx ry q) hm
noncomputable def tTest(t:TE):TT:=fun σ H Q=>t σ H fun x H' =>∃k,x= .bl k∧Q k H'
theorem pt_cmpR {op:CmpOp} {r:R2} (ho:OpR X (compareOp op) r) (ha:PE X a ta) (hb:PE X b tb) (hm:behindInMarks op b=false):PT X (.Compare a [op] [b] pos) (tTest (tOp r ta tb)):=by
  intro pins s σ H Q I h
  refine wpAny_isTrue_Compare1 (thn (ha pins s σ H _ I h) fun v s1 ⟨x,H1,I1,r1,q1⟩=>thn (hb pins s1 σ H1 _ I1 q1) fun u s2 ⟨y,H2,I2,r2,q2⟩=>
    thn (ho pins s2 σ H2 x y v u _ I2 r1 r2 q2) fun c s3 ⟨z,H3,I3,r3,k,e,q3⟩=> ?_) hm
  subst e;cases r3;exact wpAny_truthy_bool ⟨H3,I3,q3⟩
theorem line63:(sizeLine:Nat)<2 ^ 63:=by rw[sizeLine_eq];decide
theorem vals1 {x:V} {us:List Value} (r:Vals [x] us):∃u,us=[u]∧RelV x u:=by
  cases r with
  |cons r1 r2=>cases r2;exact⟨_,rfl,r1⟩
theorem vals2 {x y:V} {us:List Value} (r:Vals [x,y] us):∃u w',us=[u,w']∧RelV x u∧RelV y w' :=by
  cases r with
  | cons r1 r2=>
    cases r2 with
    |cons r3 r4=>cases r4;exact⟨_,_,rfl,r1,r3⟩
theorem call_max2 (hc:X.calm=true):CallR X (.builtin "max") (fun xs H Q=>∃i j,xs=[.int i,.int j]∧Q (.int (if j>i then j else i)) H):=by
  intro pins s σ H xs us Q I r h;obtain⟨i,j,rfl,q⟩:=h;obtain⟨u,w',rfl,⟨t,rfl⟩,⟨t',rfl⟩⟩:=vals2 r;refine max_two_ints (I.ok.hd hc) fun h' tk k=>⟨_,H,I.kept k,?_,q⟩;by_cases hj:j>i
  · rw[if_pos hj,if_pos hj];exact⟨_,rfl⟩
  · rw[if_neg hj,if_neg hj];exact⟨_,rfl⟩
theorem call_min2 (hc:X.calm=true):CallR X (.builtin "min") (fun xs H Q=>∃i j,xs=[.int i,.int j]∧Q (.int (if j<i then j else i)) H):=by
  intro pins s σ H xs us Q I r h;obtain⟨i,j,rfl,q⟩:=h;obtain⟨u,w',rfl,⟨t,rfl⟩,⟨t',rfl⟩⟩:=vals2 r;refine min_two_ints (I.ok.hd hc) fun h' tk k=>⟨_,H,I.kept k,?_,q⟩;by_cases hj:j<i
  · rw[if_pos hj,if_pos hj];exact⟨_,rfl⟩
  · rw[if_neg hj,if_neg hj];exact⟨_,rfl⟩
end
end L2
namespace L2
open PySem PySem.Spec PyProof.Rows
structure ObjM (h:Heap) (x dx C:Addr) (mA:Str→Option Value):Prop where
  obj:h.get? x=some (PySem.W.instObj C dx)
  ns:h.Ns1 dx mA
  ne:dx≠x
theorem lookIn_ns {h:Heap} {dx:Addr} {mA:Str→Option Value} (n:h.Ns1 dx mA):∃od,h.get? dx=some od∧∀name,PySem.W.lookIn name od=some (mA name):=by
  obtain⟨o,es,ep,ho,hd,hk,_,hm⟩:=n;refine⟨o,ho,fun name=> ?_⟩;have e:=hm name;unfold nsFind findBy at e;rw[←Array.find?_toList] at e;unfold PySem.W.lookIn;rw[hd];dsimp only
  split
  · rename_i y q
    rw[q] at e;exact congrArg some e
  · rename_i q
    rw[q] at e
    have a:es.toList.any (·.refKey)=false:=by
      rw[List.any_eq_false];intro y hy;obtain⟨z,t,hkey⟩:=hk y (Array.mem_toList_iff.mp hy);simp[DictEntry.refKey,hkey]
    have a' :¬es.toList.any (·.refKey)=true:=by rw[a];exact Bool.false_ne_true
    rw[if_neg a'];exact congrArg some e
theorem ObjM.look {h:Heap} {x dx C:Addr} {mA:Str→Option Value} (I:ObjM h x dx C mA):∃od,PySem.W.InstAt h x (PySem.W.instObj C dx) C (some od)∧∀name,PySem.W.lookIn name od=some (mA name):=
  let⟨od,ho,hl⟩:=lookIn_ns I.ns
  ⟨od,⟨I.obj,rfl,rfl,ho⟩,hl⟩
section
variable{prog:Program}{w:World}{A:Around}{E:Value→Shared→Prop}{s:Shared}{K:PySem.W.Frag}{x dx C f:Addr}{mA:Str→Option Value}{name:Str}{v:Value}
end
noncomputable def putF (f:Str) (v:V):List (Str×V)→List (Str×V)
  |[]=>[(f,v)]
  |(g,x)::r=>if g=f then(g,v)::r else(g,x)::putF f v r
theorem lookup_putF (f g:Str) (v:V):∀fs:List (Str×V),(putF f v fs).lookup g=if g=f then some v else fs.lookup g
  | []=>by
    show List.lookup g [(f,v)]=_;by_cases h:g=f
    · have hb:(g==f)=true:=beq_iff_eq.mpr h
      simp only[List.lookup,hb,if_pos h]
    · have hb:(g==f)=false:=beq_eq_false_iff_ne.mpr h
      simp only[List.lookup,hb,if_neg h]
  | (k, x)::r=>by
    have ih:=lookup_putF f g v r;rw[show putF f v ((k,x)::r)=(if k=f then(k,v)::r else(k,x)::putF f v r) from rfl];by_cases hk:k=f
    · rw[if_pos hk]
      by_cases h:g=k
      · have hb:(g==k)=true:=beq_iff_eq.mpr h
        simp only[List.lookup,hb,if_pos (h.trans hk)]
      · have hb:(g==k)=false:=beq_eq_false_iff_ne.mpr h
        simp only[List.lookup,hb,if_neg (fun e:g=f=>h (e.trans hk.symm))]
    · rw[if_neg hk]
      by_cases h:g=k
      · have hb:(g==k)=true:=beq_iff_eq.mpr h
        simp only[List.lookup,hb,if_neg (fun e:g=f=>hk (h.symm.trans e))]
      · have hb:(g==k)=false:=beq_eq_false_iff_ne.mpr h
        simp only[List.lookup,hb];exact ih
theorem RelO.some_of {v:V} {o:Option Value} (r:RelO (some v) o):∃u,o=some u∧RelV v u:=by
  cases o with
  |none=>exact(show False from r).elim
  |some u=>exact⟨u,rfl,r⟩
theorem handed_of {v:V} {u:Value} (r:RelV v u):PySem.W.handedIn u=true:=by
  cases v with
  |non=>cases(show u=Value.none from r);rfl
  |bl b=>cases(show u=Value.bool b from r);rfl
  |int i=>obtain⟨t,e⟩:=(show ∃t,u=Value.int i t from r);cases e;rfl
  |str x=>obtain⟨t,e⟩:=(show ∃t,u=Value.str x t from r);cases e;rfl
  |byt b=>obtain⟨t,e⟩:=(show ∃t,u=Value.bytes b t from r);cases e;rfl
  |flt b=>obtain⟨t,e⟩:=(show ∃t,u=Value.float b t from r);cases e;rfl
  |ref a=>cases(show u=Value.ref a from r);rfl
  |ty n=>cases(show u=Value.type n from r);rfl
section
variable{P:Program}{w:World}{H H' :Hp}{h h' :Heap}{a C dx:Addr}{fs fs' :List (Str×V)}
end
structure Cls (K:PySem.W.Frag) (C:Addr):Prop where
  pg:PySem.W.plainGet K C Str.empty=true
  hd:PySem.W.hasDictIn K C=true
  po:PySem.W.plainOver K C=true
  sa:PySem.W.findIn K (.ref C) "__setattr__"=some (some (.builtin "object.__setattr__"))
theorem Cls.get{K:PySem.W.Frag}{C:Addr}(c:Cls K C)(f:Str):PySem.W.plainGet K C f=true:=c.pg
noncomputable def NoAttr(K:PySem.W.Frag)(C:Addr)(f:Str):Prop:=PySem.W.findIn K (.ref C) f=some none
structure Meth (K:PySem.W.Frag) (C:Addr) (m:Str) (f:Addr):Prop where
  at_:PySem.W.findIn K (.ref C) m=some (some (.ref f))
  fn:PySem.W.isFn K (.ref f)=true
  kp:PySem.W.keepIn K (.ref f)=true
section
variable{X:Cx}{pins:List (Addr×Obj)}{σ:St}{H:Hp}{s:Shared}{a C dx:Addr}{fs:List (Str×V)}{f:Str}{v:V}{A:Around}{E:Value→Shared→Prop}
theorem Inv.made (I:Inv X pins σ H s):Inv X pins σ (upd (upd H s.heap.objs.size (.own (s.heap.objs.size+1))) (s.heap.objs.size+1) (.ins C s.heap.objs.size []))
    {s with heap:=(s.heap.push PySem.W.emptyDict).push (PySem.W.instObj C s.heap.objs.size)}:=by
  have e1:(s.heap.push PySem.W.emptyDict).get? s.heap.objs.size=some PySem.W.emptyDict:=Heap.get?_push_size s.heap rfl
  have e2:((s.heap.push PySem.W.emptyDict).push (PySem.W.instObj C s.heap.objs.size)).get? (s.heap.objs.size+1)=some (PySem.W.instObj C s.heap.objs.size):=by
    have:=Heap.get?_push_size (s.heap.push PySem.W.emptyDict) (o:=PySem.W.instObj C s.heap.objs.size) rfl;rwa[Heap.size_push] at this
  have e3:(s.heap.push PySem.W.emptyDict).Ns s.heap.objs.size (fun _=>none):=⟨PySem.W.emptyDict,#[],_,e1,rfl,(fun e he=>absurd he (by simp)),fun _=>rfl⟩;have I1:=I.laid (a:=s.heap.objs.size) (o:= .own (s.heap.objs.size+1)) (h' :=s.heap.push PySem.W.emptyDict) (t' :=s.toks) (fun b u q=>Heap.get?_push_of_some _ q) (Nat.le_refl _) ⟨_,e1⟩;refine I1.laid (a:=s.heap.objs.size+1) (o:= .ins C s.heap.objs.size []) (t' :=s.toks) (fun b u q=>Heap.get?_push_of_some _ q) (Nat.le_of_eq (Heap.size_push _ _)) ?_;have ne:s.heap.objs.size≠s.heap.objs.size+1:=Nat.ne_of_lt (Nat.lt_succ_self _);refine⟨by rw[upd_ne ne,upd_same],Nat.zero_le _,ne,e2,fun _=>none,(Heap.Ns1.of_empty e3).at fun o q=>Heap.get?_push_of_some _ q,fun _=>True.intro,fun y hy=>absurd rfl hy⟩
theorem attr_of {prog:Program} {w:World} {env:Env} {e:Expr} {f:Str} {pos:Pos} {s:Shared} {Q:Value→Shared→Prop} (hb:attributeBase e f env (eval e env)=eval e env)
    (h:wpAny (model prog w) A (eval e env) (fun o s₁=>wpAny (model prog w) A (getAttr o f true) Q E s₁) E s):wpAny (model prog w) A (eval (.Attribute e f pos) env) Q E s:=
  Attribute_any_ h (by rw[arm_eval_Attribute,hb])
end
section
variable{X:Cx}{o e value:Expr}{f:Str}{pos pos' tpos:Pos}{ta tv:TE}
end
section
variable{X:Cx}{pins:List (Addr×Obj)}{σ:St}{H:Hp}{s:Shared}{A:Around}{E:Value→Shared→Prop}{Q:Value→Shared→Prop}{c:Value}{b:Bool}
inductive TyOf (K:PySem.W.Frag) (H:Hp):V→Value→Prop where
  |non:TyOf K H .non (.type "NoneType")
  |bl (x:Bool):TyOf K H (.bl x) (.type "bool")
  |int (i:Int):TyOf K H (.int i) (.type "int")
  |str (x:Str):TyOf K H (.str x) (.type "str")
  |flt (x:UInt64):TyOf K H (.flt x) (.type "float")
  |lst {a:Addr} {xs:List V} (e:H a=some (.lst xs)):TyOf K H (.ref a) (.type "list")
  |frz {a:Addr} {o:Obj} {xs:List V} (e:H a=some (.frz o (.lst xs))):TyOf K H (.ref a) (.type "list")
  |tup {a:Addr} {xs:List V} (e:H a=some (.tup xs)):TyOf K H (.ref a) (.type "tuple")
  |dK {a:Addr} {kvs:List (Key×V)} (e:H a=some (.dK kvs)):TyOf K H (.ref a) (.type "dict")
  |dT {a:Addr} {kvs:List (List Key×V)} (e:H a=some (.dT kvs)):TyOf K H (.ref a) (.type "dict")
  | ins {a C dx:Addr} {fs:List (Str×V)} (e:H a=some (.ins C dx fs)) (cl:Cls K C) (ha:PySem.W.findIn K (.ref C) "__class__"=some (some (.builtin "object.__class__")))
      (hn:PySem.W.specialIn K (.builtin "object.__class__") "__get__"=some (some (.builtin "getset_descriptor.__get__"))) (htk:PySem.W.takesIn K (.builtin "object.__class__")=some true)
      (hm:PySem.W.mroIn K C (.type "object")=some true):TyOf K H (.ref a) (.ref C)
end
end L2
namespace L2
open PySem PySem.Spec PyProof.Rows
structure Room (k:Nat) (A:Around):Prop where
  hd:A.handled=none
  dp:A.depth+3*k+5<recursionLimit
  un:A.units+16*k+200<cLine
  gd:A.guards=some []
theorem Room.mono{j k:Nat}{A:Around}(r:Room k A)(h:j≤k):Room j A:=⟨r.hd,by have:=r.dp;omega,by have:=r.un;omega,r.gd⟩
theorem Room.deeper {k:Nat} {A:Around} (r:Room (k+1) A) (env:Env):Room k (A.deeper env):=
  ⟨r.hd,by have:=r.dp;show A.depth+1+3*k+5<_;omega,by have:=r.un;show A.units+3+16*k+200<_;omega,r.gd⟩
theorem Room.in1 {k:Nat} {A:Around} (r:Room (k+1) A):Room k A.in1:=
  ⟨r.hd,by have:=r.dp;show A.depth+3*k+5<_;omega,by have:=r.un;show A.units+1+16*k+200<_;omega,r.gd⟩
theorem make_depth {A:Around} {C:Addr} {us:List Value} {kw:List (Str×Value)}:(A.under (.builtin "type.__call__" ⟨.ref C::us,kw⟩)).depth=A.depth+1:=by
  first|rfl|simp[Around.under,Code.weight,Code.isCreation,Code.isGuard,Code.isCaller,Code.frames,Code.isFrame,guardIds]
theorem make_units {A:Around} {C:Addr} {us:List Value} {kw:List (Str×Value)}:(A.under (.builtin "type.__call__" ⟨.ref C::us,kw⟩)).units=A.units+1:=by
  first|rfl|simp[Around.under,Code.cUnits,Code.frames,Code.isFrame]
theorem make_guards {A:Around} {C:Addr} {us:List Value} {kw:List (Str×Value)} {g:List Code} (h:A.guards=some g):(A.under (.builtin "type.__call__" ⟨.ref C::us,kw⟩)).guards=some g:=by
  have e:(Code.builtin "type.__call__" ⟨.ref C::us,kw⟩).guards=[]:=by first|rfl|simp[Code.guards,Code.isGuard,guardIds]
  first
    |(simp only[Around.under,e,pushGuards];exact h)
    |simp[Around.under,e,pushGuards,h]
theorem Room.make {k:Nat} {A:Around} (r:Room (k+1) A) (C:Addr) (us:List Value) (kw:List (Str×Value)):Room k (A.under (.builtin "type.__call__" ⟨.ref C::us,kw⟩)):=
  ⟨r.hd,by have:=r.dp;rw[make_depth];omega,by have:=r.un;rw[make_units];omega,make_guards r.gd⟩
theorem Room.depth{k:Nat}{A:Around}(r:Room k A):A.depth<recursionLimit:=by have:=r.dp;omega
theorem Room.units{k:Nat}{A:Around}(r:Room k A):A.units+64<cLine:=by have:=r.un;omega
noncomputable def tNil:TA:=fun _ H Q=>Q [] H
noncomputable def tCons(ta:TE)(tr:TA):TA:=fun σ H Q=>ta σ H fun x H1=>tr σ H1 fun xs H2=>Q (x::xs) H2
section
variable{X:Cx}{e:Expr}{es:List Expr}{te:TE}{t:TA}{pos:Pos}
theorem pa_nil:PA X [] tNil:=fun _ _ _ _ H Q I h=>Calls.spliced_nil ⟨[],H,I,.nil,h⟩
theorem pa_cons (ha:PE X e te) (hr:PA X es t) (hs:starEach (e::es) X.env=(false,eval e X.env)::starEach es X.env:=by rfl):PA X (e::es) (tCons te t):=by
  intro pos pins s σ H Q I h;rw[hs];show wpAny _ _ (spliced ((false,eval e X.env)::backTo pos (starEach es X.env))) _ _ s;refine Calls.spliced_cons (thn (ha pins s σ H _ I h) fun u s1 ⟨x,H1,I1,r1,q1⟩=> ?_);exact thn (hr pos pins s1 σ H1 _ I1 q1) fun us s2 ⟨xs,H2,I2,r2,q2⟩=>⟨x::xs,H2,I2,.cons r1 r2,q2⟩
noncomputable def tTup(t:TA):TE:=fun σ H Q=>t σ H fun xs H1=>xs.length≤sizeLine∧∀p,H1 p=none→Q (.ref p) (upd H1 p (.tup xs))
noncomputable def tLst(t:TA):TE:=fun σ H Q=>t σ H fun xs H1=>xs.length≤sizeLine∧∀p,H1 p=none→Q (.ref p) (upd H1 p (.lst xs))
theorem pe_tup {x1} (h:PA X es t):PE X (.Tuple es x1 pos) (tTup t):=by
  intro pins s σ H Q I hq;refine wpAny_Tuple_spliced (thn (h pos pins s σ H _ I hq) fun us s1 ⟨xs,H1,I1,r,z,q⟩=>⟨by rw[←r.length];exact z,?_⟩);have hf:H1 s1.heap.objs.size=none:=I1.hok.fresh (Nat.le_refl _);refine⟨.ref s1.heap.objs.size,upd H1 s1.heap.objs.size (.tup xs),I1.laid (t' :=s1.toks) (fun b u e=>Heap.get?_push_of_some _ e) (Nat.le_refl _) ?_,rfl,q _ hf⟩;exact⟨z,us,r,⟨_,Heap.get?_push_size _ rfl,rfl,_,rfl⟩⟩
theorem pe_lst (h:PA X es t):PE X (.List es pos) (tLst t):=by
  intro pins s σ H Q I hq;refine wpAny_List_spliced (thn (h pos pins s σ H _ I hq) fun us s1 ⟨xs,H1,I1,r,z,q⟩=>⟨by rw[←r.length];exact z,?_⟩);have hf:H1 s1.heap.objs.size=none:=I1.hok.fresh (Nat.le_refl _);refine⟨.ref s1.heap.objs.size,upd H1 s1.heap.objs.size (.lst xs),I1.laid (t' :=s1.toks) (fun b u e=>Heap.get?_push_of_some _ e) (Nat.le_refl _) ?_,rfl,q _ hf⟩;exact⟨z,us,0,r,Heap.get?_push_size _ rfl⟩
end
noncomputable abbrev Sp:=List V→Hp→VK→XK→Prop
noncomputable abbrev CXT:=List Env→Hp→Shared→XK→Value→Shared→Prop
structure Env0 (P:Program) (w:World) (K:PySem.W.Frag) (mg:Str→Option Value) (base:Heap) (A:Around) (outer:List Env) (s:Shared) (H:Hp):Prop where
  frames:A.frames=some outer
  mod:Mod K mg base
  bs:∀b o,base.get? b=some o→s.heap.get? b=some o∧H b=none
  bsz:base.objs.size≤s.heap.objs.size
  funs:s.heap.FunFrames base outer
  frf:∀b∈frs outer,H b=none
  hok:HOk P w H s.heap
  bare:AllBare s.gens
noncomputable def CE (outer:List Env) (P:Program) (w:World) (H:Hp) (s:Shared) (Q:VK) (u:Value) (s' :Shared):Prop:=
  ∃v H',s'.os=s.os∧AllBare s'.gens∧Un (frs outer) [] H H' s.heap s'.heap∧HOk P w H' s'.heap∧RelV v u∧Q v H'
noncomputable def CR (CX:CXT) (outer:List Env) (P:Program) (w:World) (H:Hp) (s:Shared) (Q:VK) (E:XK) (r:Result) (s' :Shared):Prop:=
  match r with
  | .ok (.ret u)=>CE outer P w H s Q u s'
  | .ok _=>False
  | .error e=>CX outer H s E e s'
structure FnOk (P:Program) (w:World) (K:PySem.W.Frag) (mg:Str→Option Value) (base:Heap) (CX:CXT) (k:Nat) (f:Addr) (fd:FuncData) (ps:List Str) (sp:Sp):Prop where
  len:∀vs H Q E,sp vs H Q E→vs.length=ps.length
  run:∀(A:Around) (outer:List Env) (s:Shared) (H:Hp) (args:Args) (us:List Value) (vs:List V) (Q:VK) (E:XK),Room k A→Env0 P w K mg base A outer s H→BindsTo s fd args (ps.zip us)→Vals vs us→sp vs H Q E→
    codeAny (model P w) A (.call (.ref f) args) (CR CX outer P w H s Q E) s
theorem FnOk.mono {P:Program} {w:World} {K:PySem.W.Frag} {mg:Str→Option Value} {base:Heap} {CX:CXT} {j k:Nat} {f:Addr} {fd:FuncData} {ps:List Str} {sp:Sp} (F:FnOk P w K mg base CX j f fd ps sp) (h:j≤k):
    FnOk P w K mg base CX k f fd ps sp:=⟨F.len,fun A outer s H args us vs Q E hr=>F.run A outer s H args us vs Q E (hr.mono h)⟩
theorem FnOk.imp {P:Program} {w:World} {K:PySem.W.Frag} {mg:Str→Option Value} {base:Heap} {CX:CXT} {k:Nat} {f:Addr} {fd:FuncData} {ps:List Str} {sp sp' :Sp} (F:FnOk P w K mg base CX k f fd ps sp)
    (h:∀vs H Q E,sp' vs H Q E→sp vs H Q E):FnOk P w K mg base CX k f fd ps sp' :=
  ⟨fun vs H Q E q=>F.len vs H Q E (h _ _ _ _ q),fun A outer s H args us vs Q E hr he hb hv hs=>F.run A outer s H args us vs Q E hr he hb hv (h _ _ _ _ hs)⟩
theorem Env0.make {P:Program} {w:World} {K:PySem.W.Frag} {mg:Str→Option Value} {base:Heap} {A:Around} {outer:List Env} {s:Shared} {H:Hp} (e:Env0 P w K mg base A outer s H) (C:Addr) (us:List Value) (kw:List (Str×Value)):
    Env0 P w K mg base (A.under (.builtin "type.__call__" ⟨.ref C::us,kw⟩)) outer s H:=⟨by first|exact e.frames|(simpa[Around.under,Code.envs,Code.isFrame,pushEnvs] using e.frames),e.mod,e.bs,e.bsz,e.funs,e.frf,e.hok,e.bare⟩
theorem Env0.in1 {P:Program} {w:World} {K:PySem.W.Frag} {mg:Str→Option Value} {base:Heap} {A:Around} {outer:List Env} {s:Shared} {H:Hp} (e:Env0 P w K mg base A outer s H):
    Env0 P w K mg base A.in1 outer s H:=⟨e.frames,e.mod,e.bs,e.bsz,e.funs,e.frf,e.hok,e.bare⟩
section
variable{X:Cx}{pins:List (Addr×Obj)}{σ:St}{H:Hp}{s s' :Shared}
theorem Inv.env0 (I:Inv X pins σ H s):Env0 X.prog X.w X.K X.mg X.base X.A X.stack s H:=
  ⟨I.ok.frames,I.ok.mod,I.bs,Nat.le_trans I.ok.bsz I.sz,I.stack,I.stkFree,I.hok,I.bare⟩
theorem Inv.after {Q:VK} {u:Value} (I:Inv X pins σ H s) (h:CE X.stack X.prog X.w H s Q u s'):EP X pins σ Q u s' :=by
  obtain⟨v,H',os,bare,un,hok,r,q⟩:=h;obtain⟨hh,g,d,t,os'⟩:=s';obtain rfl:os' =s.os:=os;exact⟨v,H',I.call (h' :=hh) (g' :=g) (d' :=d) (t' :=t) (ch:=[]) un hok bare (fun b z=>absurd z (by simp)),r,q⟩
end
noncomputable def tCall(sp:Sp)(dvs:List V)(E:XK)(t:TA):TE:=fun σ H Q=>t σ H fun vs H1=>sp (vs++dvs) H1 Q E
noncomputable def Binds (K:PySem.W.Frag) (fd:FuncData) (ps:List Str) (ds:List Value):Prop:=
  ∀(s:Shared) (us:List Value),K.In s.heap→(us++ds).length=ps.length→BindsTo s fd ⟨us,[]⟩ (ps.zip (us++ds))
theorem Binds.all {K:PySem.W.Frag} {fd:FuncData} {ps:List Str} (h:∀us:List Value,us.length=ps.length→bindArgs fd ⟨us,[]⟩=pure (ps.zip us)):Binds K fd ps []:=fun s us _ hl=>by
  rw[List.append_nil] at hl ⊢;exact .of_eq (h us hl)
noncomputable def Passes(CX:CXT)(X:Cx)(E:XK):Prop:=∀(pins:List (Addr×Obj)) (σ:St) (H:Hp) (s:Shared) (e:Value) (s' :Shared),Inv X pins σ H s→CX X.stack H s E e s'→X.xe e s'
section
variable{X:Cx}{CX:CXT}{k:Nat}{f C:Addr}{fd:FuncData}{ps:List Str}{sp:Sp}{dvs:List V}{ds:List Value}{E:XK}{x m:Str}{p pos apos:Pos}{e o:Expr}{es:List Expr}{ta:TE}{t:TA}
theorem run_fn {pins:List (Addr×Obj)} {σ:St} {H:Hp} {s:Shared} {Q:VK} {us:List Value} {vs:List V} (F:FnOk X.prog X.w X.K X.mg X.base CX k f fd ps sp) (hr:Room k X.A) (hb:Binds X.K fd ps ds) (hd:Vals dvs ds) (hx:Passes CX X E)
    (I:Inv X pins σ H s) (r:Vals vs us) (h:sp (vs++dvs) H Q E):wpAny (model X.prog X.w) X.A (call (.ref f) us) (EP X pins σ Q) X.xe s:=by
  have r2:Vals (vs++dvs) (us++ds):=r.append hd;have hl:(us++ds).length=ps.length:=by rw[←r2.length];exact F.len _ _ _ _ h
  refine wpAny_call (codeAny_mono (F.run X.A X.stack s H ⟨us,[]⟩ (us++ds) (vs++dvs) Q E hr I.env0 (hb s us I.kIn hl) r2 h) fun r s' hq=> ?_)
  cases r with
  |error e=>exact hx pins σ H s e s' I hq
  | ok fl=>
    cases fl with
    |ret u=>exact I.after hq
    |next=>exact False.elim hq
    |brk=>exact False.elim hq
    |cont=>exact False.elim hq
theorem pe_call (F:FnOk X.prog X.w X.K X.mg X.base CX k f fd ps sp) (hr:Room k X.A) (hg:Gl X x) (hm:X.mg x=some (.ref f)) (hk:PySem.W.keepIn X.K (.ref f)=true) (hb:Binds X.K fd ps ds) (hd:Vals dvs ds) (hx:Passes CX X E)
    (ha:PA X (e::es) t) (hdb:(x==("__debug__" :Str))=false:=by decide) (he:starEach (e::es) X.env=(false,eval e X.env)::starEach es X.env:=by rfl) (hpl:(backTo pos (starEach es X.env)).any (·.1)=false:=by rfl):
    PE X (.Call (.Name x p) (e::es) [] pos) (tCall sp dvs E t):=by
  intro pins s σ H Q I h;refine wpAny_Call_Name_kw (ld_glob I hg hm ?_ hdb);refine PySem.W.callWith_K (h₀:=X.base) I.ok.mod.kin hk (thn (ha pos pins s σ H _ I h) fun us s1 ⟨vs,H1,I1,r,q⟩=>⟨I1.kIn,?_⟩) he hpl;exact run_fn F hr hb hd hx I1 r q
end
section
variable{X:Cx}{CX:CXT}{k:Nat}{f C:Addr}{fd:FuncData}{ps ks:List Str}{sp:Sp}{E:XK}{x m:Str}{p pos apos kpos:Pos}{e o:Expr}{es:List Expr}{kws:List Keyword}{te ta:TE}{t tk:TA}{nm:Option Str}
variable{g:List Value→List Value→List Value}{gV:List V→List V→List V}
end
structure FnScope (N P:List Str) (sc:Scope):Prop where
  kind:sc.kind= .function
  co:sc.isCoroutine=false
  gen:sc.isGenerator=false
  nd:N.Nodup
  pre:N.take P.length=P
  par:∀x∈P,sc.names.lookup x=some .local∨sc.names.lookup x=some .cell
  nofree:∀y∈sc.names,y.2≠.free
theorem bindL_out {kindOf:Str→Option NameKind} {x:Str}:∀{binds:List (Str×Value)} {m:Str→Option Value},(∀v,(x,v)∉binds)→bindL kindOf binds m x=m x
  |[],_,_=>rfl
  | (n,v)::r,m,h=>by
    unfold bindL;rw[bindL_out fun w hw=>h w (List.mem_cons_of_mem _ hw)]
    split
    · have:x≠n:=by rintro rfl;exact h v List.mem_cons_self
      simp[this]
    · rfl
theorem bindC_out {kindOf:Str→Option NameKind} {x:Str}:∀{binds:List (Str×Value)} {m:Str→Option Value},(∀v,(x,v)∉binds)→bindC kindOf binds m x=m x
  |[],_,_=>rfl
  | (n,v)::r,m,h=>by
    unfold bindC;rw[bindC_out fun w hw=>h w (List.mem_cons_of_mem _ hw)]
    split
    · rfl
    · have:x≠n:=by rintro rfl;exact h v List.mem_cons_self
      simp[this]
theorem bindL_get {kindOf:Str→Option NameKind} {x:Str} {v:Value}:∀{P:List Str} {vs:List Value} {i:Nat} {m:Str→Option Value},P.Nodup→P[i]? =some x→vs[i]? =some v→kindOf x=some .local→
    bindL kindOf (P.zip vs) m x=some v
  |[],_,_,_,_,h,_,_=>by simp at h
  |_::_,[],_,_,_,_,h,_=>by simp at h
  | p::P,w::vs,0,m,nd,h1,h2,hk=>by
    simp at h1 h2;subst h1;subst h2
    show bindL kindOf ((p,w)::P.zip vs) m p=_;unfold bindL;rw[bindL_out fun v hv=>(List.nodup_cons.mp nd).1 (List.of_mem_zip hv).1,if_pos hk];simp
  | p::P,w::vs,i+1,m,nd,h1,h2,hk=>by
    show bindL kindOf ((p,w)::P.zip vs) m x=_;unfold bindL;exact bindL_get (i:=i) (List.nodup_cons.mp nd).2 (by simpa using h1) (by simpa using h2) hk
theorem bindC_get {kindOf:Str→Option NameKind} {x:Str} {v:Value}:∀{P:List Str} {vs:List Value} {i:Nat} {m:Str→Option Value},P.Nodup→P[i]? =some x→vs[i]? =some v→kindOf x≠some .local→
    bindC kindOf (P.zip vs) m x=some v
  |[],_,_,_,_,h,_,_=>by simp at h
  |_::_,[],_,_,_,_,h,_=>by simp at h
  | p::P,w::vs,0,m,nd,h1,h2,hk=>by
    simp at h1 h2;subst h1;subst h2
    show bindC kindOf ((p,w)::P.zip vs) m p=_;unfold bindC;rw[bindC_out fun v hv=>(List.nodup_cons.mp nd).1 (List.of_mem_zip hv).1,if_neg hk];simp
  | p::P,w::vs,i+1,m,nd,h1,h2,hk=>by
    show bindC kindOf ((p,w)::P.zip vs) m x=_;unfold bindC;exact bindC_get (i:=i) (List.nodup_cons.mp nd).2 (by simpa using h1) (by simpa using h2) hk
noncomputable def start(N:List Str)(vs:List V):St:=vs.map some++List.replicate (N.length - vs.length) none
noncomputable def cxOf (CX:CXT) (P:Program) (w:World) (K:PySem.W.Frag) (mg:Str→Option Value) (base:Heap) (N:List Str) (qual:Str) (scope:Scope) (f:Addr) (cd:Value) (A:Around) (outer:List Env) (s:Shared) (H:Hp) (E:XK):Cx where
  prog:=P
  w:=w
  K:=K
  mg:=mg
  base:=base
  A:=A.deeper (envOfC qual scope s.heap.objs.size f cd)
  N:=N
  s₀:=s
  H₀:=H
  env:=envOfC qual scope s.heap.objs.size f cd
  outer:=outer
  stack:=envOfC qual scope s.heap.objs.size f cd::outer
  ex:=[]
  calm:=true
  fn:=fun _=>true
  pn:=[]
  xe:=fun e s' =>wpAny (model P w) (A.deeper (envOfC qual scope s.heap.objs.size f cd)) (leaving (envOfC qual scope s.heap.objs.size f cd) e) (fun _ s'' =>CX outer H s E e s'') (fun e' s'' =>CX outer H s E e' s'') s'
theorem cell_has {sc:Scope} {n:Nat} {x:Str} (h:sc.names.lookup x=some .cell):∃c,(cellsFrom n sc.names []).lookup x=some c:=by
  have q:=PySem.W.cellsFrom_some sc.names n [] (.inl h);exact Option.isSome_iff_exists.mp q
theorem inv_start {CX:CXT} {P:Program} {w:World} {K:PySem.W.Frag} {mg:Str→Option Value} {base:Heap} {N ps:List Str} {qual:Str} {scope:Scope} {f:Addr} {cd:Value} {A:Around} {outer:List Env} {s s1:Shared} {H:Hp} {E:XK} {us:List Value} {vs:List V}
    (S:FnScope N ps scope) (hd:A.handled=none) (e0:Env0 P w K mg base A outer s H) (hl:vs.length=ps.length) (r:Vals vs us)
    (x:InCallC s s.heap.objs.size (bindL (envOfC qual scope s.heap.objs.size f cd).kindOf (ps.zip us) fun _=>none) (cellsFrom (s.heap.objs.size+1) scope.names []) (bindC (envOfC qual scope s.heap.objs.size f cd).kindOf (ps.zip us) fun _=>none) s1):
    Inv (cxOf CX P w K mg base N qual scope f cd A outer s H E) [] (start N vs) H s1:=by
  have hpl:ps.length≤N.length:=by have:=congrArg List.length S.pre;rw[List.length_take] at this;omega
  obtain⟨h1,tk,rfl,hk⟩:=x.done;have noA:∀b:Addr,b∉(cxOf CX P w K mg base N qual scope f cd A outer s H E).ex:=fun b z=>absurd (show b∈([]:List Addr) from z) (by simp)
  refine⟨⟨e0.mod,S.kind,rfl,rfl,Nat.le_refl _,fun y z c h1 h2=> ?_,fun y hy=> ?_,fun y c _ h=> ?_,fun _=>hd,Around.frames_deeper e0.frames,.inr ⟨rfl,rfl⟩,fun b z=>absurd z (noA b),e0.bs,e0.bsz,fun b _ _=>noA b,fun b z=>absurd z (noA b),e0.funs,e0.frf⟩,
    rfl,e0.bare,Un.kept hk,⟨_,x.toInCall.ns,fun i y v h1 h2 h3=> ?_⟩,fun y c h=>⟨_,x.cell y c h⟩,e0.hok.fresh (Nat.le_refl _),fun y c h=> ?_,fun p hp=>absurd (show p∈([]:List (Addr×Obj)) from hp) (by simp),e0.hok.kept hk,?_⟩
  · exact name_of_addr x.apart (PySem.mem_of_lookup h1) (PySem.mem_of_lookup h2)
  · have hy:scope.names.lookup y=some .cell∨scope.names.lookup y=some .free:=hy
    rcases hy with hy|hy
    · exact cell_has hy
    · exact absurd rfl (S.nofree _ (PySem.mem_of_lookup hy))
  · exact Nat.le_of_lt (x.above y c (PySem.mem_of_lookup h))
  · have hi:i<vs.length:=by
      unfold start at h2;by_cases hi:i<vs.length
      · exact hi
      · rw[List.getElem?_append_right (by simpa using hi)] at h2
        rw[List.getElem?_replicate] at h2
        split at h2<;>cases h2
    have ha:vs[i]? =some v:=by
      unfold start at h2;rw[List.getElem?_append_left (by simpa using hi),List.getElem?_map] at h2
      cases e:vs[i]? with
      |none=>rw[e] at h2;cases h2
      |some a=>rw[e] at h2;cases h2;rfl
    obtain⟨u,hu,rv⟩:=r.get ha
    have hp:ps[i]? =some y:=by
      rw[←S.pre,List.getElem?_take_of_lt (by omega)];exact h1
    have ndP:ps.Nodup:=by rw[←S.pre];exact S.nd.sublist (List.take_sublist _ _)
    refine⟨u,rv,?_⟩;rcases S.par y (List.mem_of_getElem? hp) with k|k
    · exact .inl ⟨k,bindL_get ndP hp hu k⟩
    · obtain⟨c,e⟩:=cell_has (n:=s.heap.objs.size+1) k
      refine .inr ⟨.inl k,c,e,?_⟩;have q:=x.cell y c e;rw[bindC_get ndP hp hu (by show scope.names.lookup y≠_;rw[k];decide)] at q;exact q
  · exact e0.hok.fresh (Nat.le_of_lt (x.above y c (PySem.mem_of_lookup h)))
  · unfold start
    show _=N.length;rw[List.length_append,List.length_map,List.length_replicate];omega
theorem fn_of {CX:CXT} {P:Program} {w:World} {K:PySem.W.Frag} {mg:Str→Option Value} {base:Heap} {k:Nat} {f:Addr} {name qual:Str} {params:Arguments} {body:List Stmt} {scope:Scope} {dV kV doc pm cdv ct oc:Value} {an od:Option Addr}
    {osl:Array (Option Value)} {N ps:List Str} {sp:Sp} (lk:K.lookup f=some ⟨oc,od,.func (PySem.W.fnOf name qual params body scope dV kV doc pm an cdv ct),osl⟩) (hcd:PySem.W.codeIn K cdv qual=true) (S:FnScope N ps scope)
    (len:∀vs H Q E,sp vs H Q E→vs.length=ps.length)
    (hbody:∀(A:Around) (outer:List Env) (s:Shared) (H:Hp) (vs:List V) (Q:VK) (E:XK),Room k (A.deeper (envOfC qual scope s.heap.objs.size f cdv))→sp vs H Q E→
      ∃t,PSs (cxOf CX P w K mg base N qual scope f cdv A outer s H E) body t∧t {nx:=fun _ H' =>Q .non H',rt:=Q} (start N vs) H):
    FnOk P w K mg base CX (k+1) f (PySem.W.fnOf name qual params body scope dV kV doc pm an cdv ct) ps sp:=by
  refine⟨len,fun A outer s H args us vs Q E hr e0 hb r hsp=> ?_⟩;have hl:=len _ _ _ _ hsp;have KX:K.In s.heap:=e0.mod.kin.keeps fun b o e=>(e0.bs b o e).1;have lim:s.heap.NoLimit:=e0.mod.nolimit.keeps fun b o e=>(e0.bs b o e).1
  have hkind:∀y∈ps.zip us,scope.names.lookup y.1=some .local∨(scope.names.lookup y.1=some .cell∧((cellsFrom (s.heap.objs.size+1) scope.names []).lookup y.1).isSome=true):=fun⟨n,v⟩ hy=>by
    rcases S.par n (List.of_mem_zip hy).1 with q|q
    · exact .inl q
    · exact .inr ⟨q,PySem.W.cellsFrom_some _ _ _ (.inl q)⟩
  refine codeAny_call_function hr.depth (KX _ _ lk) rfl S.co S.gen rfl (PySem.W.codeRec_of KX hcd) (hb _ _ _ _ ?_);refine wpAny_newFunctionEnv_cells S.kind hkind fun env he s1 x=> ?_;subst he;refine⟨lim.keeps x.toInCall.keep,codeAny_func ?_⟩;obtain⟨t,ht,hq⟩:=hbody A outer s H vs Q E (hr.deeper _) hsp;have I:Inv (cxOf CX P w K mg base N qual scope f cdv A outer s H E) [] (start N vs) H s1:=inv_start S hr.hd e0 hl r x;refine wpAny_mono (ht [] s1 (start N vs) H _ I hq) (fun fl s' hs=> ?_) fun e s' hs=>hs
  have fin:∀{σ' :St} {H' :Hp} {v:V} {u:Value},Inv (cxOf CX P w K mg base N qual scope f cdv A outer s H E) [] σ' H' s'→RelV v u→Q v H'→CE outer P w H s Q u s' :=
    fun{σ' H' v u} J rv q=>⟨v,H',J.os,J.bare,J.base,J.hok,rv,q⟩
  cases fl with
  | ret u=>
    obtain⟨v,σ',H',J,rv,q⟩:=hs;exact fin J rv q
  | next=>
    obtain⟨σ',H',J,q⟩:=hs;exact fin (v:=V.non) (u:=Value.none) J rfl q
  | brk=>
    obtain⟨_,_,_,q⟩:=hs;exact False.elim q
  | cont=>
    obtain⟨_,_,_,q⟩:=hs;exact False.elim q
end L2
namespace L2
open PySem PySem.Spec PyProof.Rows
section
variable{X:Cx}{x:Str}{p pos:Pos}{e:Expr}{es:List Expr}{t:TA}{id T:String}{r:List V→Hp→VK→Prop}
noncomputable def tCB(r:List V→Hp→VK→Prop)(t:TA):TE:=fun σ H Q=>t σ H fun vs H1=>r vs H1 Q
theorem pe_callB (hc:CallR X (.builtin id) r) (hg:Gl X x) (hm:X.mg x=none) (hv:bootBuiltins x=some (.builtin id)) (ha:PA X (e::es) t) (hn:x≠ "__name__":=by decide) (hdb:(x==("__debug__" :Str))=false:=by decide)
    (he:starEach (e::es) X.env=(false,eval e X.env)::starEach es X.env:=by rfl) (hpl:(backTo pos (starEach es X.env)).any (·.1)=false:=by rfl):PE X (.Call (.Name x p) (e::es) [] pos) (tCB r t):=by
  intro pins s σ H Q I h;refine wpAny_Call_Name_kw (ld_blt I hg hm hv ?_ hn hdb);exact PyProof.Rows.callWith_builtin1 (thn (ha pos pins s σ H _ I h) fun us s1 ⟨vs,H1,I1,r1,q1⟩=>hc pins s1 σ H1 vs us Q I1 r1 q1) he hpl
theorem pe_callTy (hc:CallR X (.type T) r) (hg:Gl X x) (hm:X.mg x=none) (hv:bootBuiltins x=some (.type T)) (ha:PA X (e::es) t) (hn:x≠ "__name__":=by decide) (hdb:(x==("__debug__" :Str))=false:=by decide)
    (he:starEach (e::es) X.env=(false,eval e X.env)::starEach es X.env:=by rfl) (hpl:(backTo pos (starEach es X.env)).any (·.1)=false:=by rfl):PE X (.Call (.Name x p) (e::es) [] pos) (tCB r t):=by
  intro pins s σ H Q I h;refine wpAny_Call_Name_kw (ld_blt I hg hm hv ?_ hn hdb);exact PyProof.Rows.callWith_type1 (thn (ha pos pins s σ H _ I h) fun us s1 ⟨vs,H1,I1,r1,q1⟩=>hc pins s1 σ H1 vs us Q I1 r1 q1) he hpl
end
end L2
namespace HT
open PySem PyProof.Rows
section
open PySem.SeqAt
open PySem.AutoSeq1 (wpAny_loadPart')
open PySem.MeetsSeq PySem.MeetsSeq2 PySem.MeetsSeq3
end
section
variable{prog:Program}{w:World}{A:Around}{E:Value→Shared→Prop}{s:Shared}
end
end HT
namespace L2
open PySem PySem.Spec PyProof.Rows
noncomputable abbrev TO:=St→Hp→(Option Int→Hp→Prop)→Prop
section
variable{X:Cx}{e:Expr}{te:TE}{lo hi:Option Expr}{tl th:TO}{pos p2:Pos}
noncomputable def SlR (X:Cx) (r:V→Option Int→Option Int→Hp→VK→Prop):Prop:=
  ∀ (pins:List (Addr×Obj)) (s:Shared) (σ:St) (H:Hp) (x:V) (v vl vu:Value) (lo hi:Option Int) (sl:Addr) (Q:VK),Inv X pins σ H s→RelV x v→s.heap.IsSliceOf sl vl vu .none→IsPart vl lo→IsPart vu hi→r x lo hi H Q→
    ∃T id,typeLookup (.type T) "__getitem__"=pure (some (.builtin id))∧s.TypeIs v T∧wpAny (model X.prog X.w) X.A (getItem v (.ref sl)) (EP X pins σ Q) X.xe s
theorem SlR.or {r r' :V→Option Int→Option Int→Hp→VK→Prop} (h:SlR X r) (h' :SlR X r'):SlR X (fun x lo hi H Q=>r x lo hi H Q∨r' x lo hi H Q):=by
  intro pins s σ H x v vl vu lo hi sl Q I rx hs pl pu q;rcases q with q|q
  · exact h pins s σ H x v vl vu lo hi sl Q I rx hs pl pu q
  · exact h' pins s σ H x v vl vu lo hi sl Q I rx hs pl pu q
end
end L2
namespace L2
open PySem PySem.Spec PyProof.Rows
noncomputable def ixN(n:Nat)(i:Int):Option Nat:=if 0≤i then(if i<n then some i.toNat else none) else if -(n:Int)≤i then some (i+n).toNat else none
noncomputable def atI{α:Type}(xs:List α)(i:Int):Option α:=(ixN xs.length i).bind fun j=>xs[j]?
theorem ixN_seq {n:Nat} {i:Int} {j:Nat} (h:ixN n i=some j):seqIndex? i n=some j∧j<n∧ -(n:Int)≤i∧i<n:=by
  unfold ixN at h;by_cases h0:0≤i
  · rw[if_pos h0] at h
    by_cases h1:i<n
    · rw[if_pos h1] at h
      have e:i.toNat=j:=Option.some.inj h;exact⟨by rw[seqIndex_of h0 h1,e],by omega,by omega,h1⟩
    · rw[if_neg h1] at h;cases h
  · rw[if_neg h0] at h
    by_cases h1: -(n:Int)≤i
    · rw[if_pos h1] at h
      have e:(i+n).toNat=j:=Option.some.inj h;exact⟨by rw[seqIndex_neg (by omega) h1,e],by omega,h1,by omega⟩
    · rw[if_neg h1] at h;cases h
theorem atI_get {α:Type} {xs:List α} {i:Int} {v:α} (h:atI xs i=some v):∃j,seqIndex? i xs.length=some j∧xs[j]? =some v∧j<xs.length∧ -(xs.length:Int)≤i∧i<xs.length:=by
  unfold atI at h
  cases e:ixN xs.length i with
  |none=>rw[e] at h;cases h
  | some j=>
    rw[e] at h;obtain⟨h1,h2,h3,h4⟩:=ixN_seq e;exact⟨j,h1,h,h2,h3,h4⟩
theorem atI_nat {α:Type} {xs:List α} {j:Nat} {v:α} (h:xs[j]? =some v):atI xs (j:Int)=some v:=by
  have hj:j<xs.length:=(List.getElem?_eq_some_iff.mp h).1
  have e:ixN xs.length (j:Int)=some j:=by
    unfold ixN;rw[if_pos (by omega),if_pos (by omega)];simp
  unfold atI;rw[e];exact h
theorem atI_last {α:Type} (xs:List α) (v:α):atI (xs++[v]) (-1)=some v:=by
  have hl:(xs++[v]).length=xs.length+1:=by simp
  have e:ixN (xs++[v]).length (-1)=some xs.length:=by
    unfold ixN;rw[hl,if_neg (by decide),if_pos (by omega)]
    congr 1
    omega
  unfold atI;rw[e];show(xs++[v])[xs.length]? =some v;simp
noncomputable def PlainIx(b:Expr):Prop:=∀o i,subscripted b false o i=operate [o,i] (getItem o i)
noncomputable def IxR (X:Cx) (r:R2):Prop:=
  ∀ (value slice:Expr) (pins:List (Addr×Obj)) (s:Shared) (σ:St) (H:Hp) (x y:V) (v u:Value) (Q:VK),Inv X pins σ H s→RelV x v→RelV y u→r x y H Q→
    subscripted slice false v u=operate [v,u] (getItem v u)→wpAny (model X.prog X.w) X.A (subscriptTail value slice v u) (EP X pins σ Q) X.xe s
noncomputable def MtR (X:Cx) (id:String) (r:V→List V→Hp→VK→Prop):Prop:=
  ∀ (pins:List (Addr×Obj)) (s:Shared) (σ:St) (H:Hp) (x:V) (xs:List V) (v:Value) (us:List Value) (Q:VK),Inv X pins σ H s→RelV x v→Vals xs us→r x xs H Q→
    wpAny (model X.prog X.w) X.A (call (.builtin id) (v::us)) (EP X pins σ Q) X.xe s
section
variable{X:Cx}{a b:Expr}{ta tb:TE}{pos:Pos}
theorem IxR.or {r r' :R2} (h:IxR X r) (h' :IxR X r'):IxR X (fun x y H Q=>r x y H Q∨r' x y H Q):=by
  intro value slice pins s σ H x y v u Q I rx ry q hs;rcases q with q|q
  · exact h value slice pins s σ H x y v u Q I rx ry q hs
  · exact h' value slice pins s σ H x y v u Q I rx ry q hs
theorem MtR.or {id:String} {r r' :V→List V→Hp→VK→Prop} (h:MtR X id r) (h' :MtR X id r'):MtR X id (fun x xs H Q=>r x xs H Q∨r' x xs H Q):=by
  intro pins s σ H x xs v us Q I rx rs q;rcases q with q|q
  · exact h pins s σ H x xs v us Q I rx rs q
  · exact h' pins s σ H x xs v us Q I rx rs q
theorem pe_ix {r:R2} (hr:IxR X r) (ha:PE X a ta) (hb:PE X b tb) (hs:PlainIx b):PE X (.Subscript a b pos) (tOp r ta tb):=by
  intro pins s σ H Q I h;exact Subscript_ (binT ha hb I h fun v u s2 x y H2 I2 rx ry q=>hr a b pins s2 σ H2 x y v u Q I2 rx ry q (hs _ _))
noncomputable def rIxL(K:PySem.W.Frag):R2:=fun x y H Q=>∃p xs i v,x= .ref p∧y= .int i∧SqL K H p xs∧atI xs i=some v∧Q v H
noncomputable def rIxS:R2:=fun x y H Q=>∃z i c,x= .str z∧y= .int i∧z.length≤sizeLine∧atI z.cps.toList i=some c∧Q (.str ⟨#[c]⟩) H
theorem ix_list:IxR X (rIxL X.K):=by
  intro value slice pins s σ H x y v u Q I rx ry h hs;obtain⟨p,xs,i,z,rfl,rfl,hq,he,q⟩:=h;cases rx;obtain⟨t,rfl⟩:=ry;obtain⟨its,r,pl,hz⟩:=I.list hq;obtain⟨j,h1,h2,h3,h4,h5⟩:=atI_get he;obtain⟨w,ew,rw'⟩:=r.get h2;have hl:=r.length;have hn:=line63;have fin:EP X pins σ Q w s:=⟨z,H,I,rw',q⟩;by_cases h0:0≤i
  · have hj:i.toNat=j:=by
      rw[seqIndex_of h0 h5] at h1;exact Option.some.inj h1
    exact item_listR pl.isList h0 (by omega) (by rw[hj];simpa using ew) fin hs
  · have hj:(i+(its.toArray.size:Int)).toNat=j:=by
      rw[seqIndex_neg (by omega) h4] at h1;rw[List.size_toArray,←hl];exact Option.some.inj h1
    exact subscriptTail_builtinR (x:=w) pl.isList.typeIs slot_list_getitem.lookup
      (wpAny_getItem_list_neg (Q:=fun r s' =>r=w∧EP X pins σ Q r s') pl.isList (by omega) (by rw[List.size_toArray]<;>omega) (by omega) (by rw[hj];simpa using ew) ⟨rfl,fin⟩) hs
theorem ix_str:IxR X rIxS:=by
  intro value slice pins s σ H x y v u Q I rx ry h hs;obtain⟨z,i,c,rfl,rfl,hz,he,q⟩:=h;obtain⟨t,rfl⟩:=rx;obtain⟨t',rfl⟩:=ry;obtain⟨j,h1,h2,h3,h4,h5⟩:=atI_get he;have hl:z.cps.toList.length=z.length:=by simp[Str.length]
  rw[hl] at h1 h4 h5;have hn:=line63
  exact tail_any (typeIs_str s z t) slot_str_getitem.lookup (getItem_str (c:=c) (by
    have e1:decide (i< -(2 ^ 63:Int))=false:=decide_eq_false (by omega);have e2:decide (i≥2 ^ 63)=false:=decide_eq_false (by omega);rw[e1,e2,Bool.or_false]) (by rw[h1];simpa using h2) ⟨.str ⟨#[c]⟩,H,I.tok _,⟨_,rfl⟩,q⟩) hs
theorem mapSeq_set (its:List Value) (n j:Nat) (u:Value):Obj.mapSeq (·.setIfInBounds j u) {cls:= .type "list",data:= .seq its.toArray n}={cls:= .type "list",data:= .seq (its.set j u).toArray n}:=by
  simp[Obj.mapSeq]
theorem Inv.lst {pins:List (Addr×Obj)} {σ:St} {H:Hp} {s:Shared} {p:Addr} {xs:List V} (I:Inv X pins σ H s) (h:H p=some (.lst xs)):
    ∃(its:List Value) (n:Nat),Vals xs its∧s.heap.get? p=some {cls:= .type "list",data:= .seq its.toArray n}∧xs.length≤sizeLine:=by
  obtain⟨z,its,n,r,e⟩:=I.hok p _ h;exact⟨its,n,r,e,z⟩
theorem Inv.lstUpd {pins:List (Addr×Obj)} {σ:St} {H:Hp} {s:Shared} {p:Addr} {xs ys:List V} {its its' :List Value} {n n' :Nat} {f:Obj→Obj} (I:Inv X pins σ H s) (h:H p=some (.lst xs))
    (ho:s.heap.get? p=some {cls:= .type "list",data:= .seq its.toArray n}) (hf:f {cls:= .type "list",data:= .seq its.toArray n}={cls:= .type "list",data:= .seq its'.toArray n'}) (r:Vals ys its') (hz:ys.length≤sizeLine) (t:Nat):
    Inv X pins σ (upd H p (.lst ys)) {s with heap:=s.heap.update p f,toks:=t}:=by
  have e:(s.heap.update p f).get? p=some {cls:= .type "list",data:= .seq its'.toArray n'}:=by
    rw[Heap.get?_update_self f ho (by rw[hf]<;>rfl),hf]
  refine I.write (x:=p) (e:=p) (by rw[h];trivial) (.inl rfl) (fun b u hb q=>(Heap.get?_update_other _ _ (Ne.symm hb)).trans q) ⟨_,e⟩ ?_;exact⟨hz,its',n',r,e⟩
noncomputable def rSetL:V→V→V→Hp→(Hp→Prop)→Prop:=fun o i v H Q=>∃p xs k j,o= .ref p∧i= .int k∧H p=some (.lst xs)∧ixN xs.length k=some j∧Q (upd H p (.lst (xs.set j v)))
theorem set_list:PSet X rSetL:=by
  intro pins s σ H o i v ov iv u Q I ro ri rv h;obtain⟨p,xs,k,j,rfl,rfl,hp,hj,q⟩:=h;cases ro;obtain⟨t,rfl⟩:=ri;obtain⟨its,n,r,ho,hz⟩:=I.lst hp;obtain⟨h1,h2,h3,h4⟩:=ixN_seq hj;have hl:=r.length;have hn:=line63
  have I' :Inv X pins σ (upd H p (.lst (xs.set j v))) {s with heap:=s.heap.update p (Obj.mapSeq (·.setIfInBounds j u))}:=
    I.lstUpd hp ho (mapSeq_set its n j u) (r.set rv j) (by rw[List.length_set];exact hz) s.toks
  by_cases h0:0≤k
  · have hk:k.toNat=j:=by
      rw[seqIndex_of h0 h4] at h1;exact Option.some.inj h1
    exact PySem.W.ki_setAt ho h0 (by omega) (by rw[List.size_toArray,←hl];exact h4) (by rw[hk];exact⟨_,I',q⟩)
  · have hk:(k+(its.toArray.size:Int)).toNat=j:=by
      rw[seqIndex_neg (by omega) h3] at h1;rw[List.size_toArray,←hl];exact Option.some.inj h1
    exact PySem.W.ki_setBack ho (by omega) (by rw[List.size_toArray,←hl];exact h3) (by omega) (by rw[hk];exact⟨_,I',q⟩)
noncomputable def flatV:V→Bool
  | .non=>true
  | .bl _=>true
  | .int _=>true
  | .str _=>true
  |_=>false
noncomputable def eqV:V→V→Bool
  | .non,.non=>true
  | .bl a,.bl b=>a==b
  | .bl a,.int b=>(if a then 1 else 0)==b
  | .int a,.bl b=>a==(if b then 1 else 0)
  | .int a,.int b=>a==b
  | .str a,.str b=>a==b
  |_,_=>false
theorem eqAt_V {A:Around} {s:Shared} {y x:V} {u v:Value} (ry:RelV y u) (rx:RelV x v) (fy:flatV y=true) (fx:flatV x=true):SeqAt.EqAt A s u v (eqV y x):=by
  cases y with
  | non=>
    cases ry
    cases x with
    |non=>cases rx;exact SeqAt.EqAt.same _
    |bl b=>cases rx;exact SeqAt.EqAt.none_bool b
    |int b=>obtain⟨t,rfl⟩:=rx;exact SeqAt.EqAt.none_int b t
    |str b=>obtain⟨t,rfl⟩:=rx;exact SeqAt.EqAt.none_str b t
    |_=>exact absurd (show false=true from fx) Bool.false_ne_true
  | bl a=>
    cases ry
    cases x with
    |non=>cases rx;exact SeqAt.EqAt.bool_none a
    |bl b=>cases rx;exact SeqAt.EqAt.bool_bool a b
    |int b=>obtain⟨t,rfl⟩:=rx;exact SeqAt.EqAt.bool_int a b t
    |str b=>obtain⟨t,rfl⟩:=rx;exact SeqAt.EqAt.bool_str a b t
    |_=>exact absurd (show false=true from fx) Bool.false_ne_true
  | int a=>
    obtain⟨t',rfl⟩:=ry
    cases x with
    |non=>cases rx;exact SeqAt.EqAt.int_none a t'
    |bl b=>cases rx;exact SeqAt.EqAt.int_bool a t' b
    |int b=>obtain⟨t,rfl⟩:=rx;exact SeqAt.EqAt.int_int a t' b t
    |str b=>obtain⟨t,rfl⟩:=rx;exact SeqAt.EqAt.int_str a t' b t
    |_=>exact absurd (show false=true from fx) Bool.false_ne_true
  | str a=>
    obtain⟨t',rfl⟩:=ry
    cases x with
    |non=>cases rx;exact SeqAt.EqAt.str_none a t'
    |bl b=>cases rx;exact SeqAt.EqAt.str_bool a t' b
    |int b=>obtain⟨t,rfl⟩:=rx;exact SeqAt.EqAt.str_int a t' b t
    |str b=>obtain⟨t,rfl⟩:=rx;exact SeqAt.EqAt.str_str a t' b t
    |_=>exact absurd (show false=true from fx) Bool.false_ne_true
  |_=>exact absurd (show false=true from fy) Bool.false_ne_true
theorem call_len_seq:CallR X (.builtin "len") (fun xs H Q=>∃p ys,xs=[.ref p]∧(SqL X.K H p ys∨SqT X.K H p ys)∧Q (.int ys.length) H):=by
  intro pins s σ H xs us Q I r h;obtain⟨p,ys,rfl,hq,q⟩:=h;obtain⟨u,rfl,rx⟩:=vals1 r;cases rx;have hn:=line63;rcases hq with hq|hq
  · obtain⟨its,r',pl,hz⟩:=I.list hq
    have hlen:=r'.length;exact Calls.call_len_list pl.isList (by simp only[List.size_toArray]<;>omega) ⟨.int ys.length,H,I.tok _,⟨s.toks+1,by rw[List.size_toArray,hlen]⟩,q⟩
  · obtain⟨its,r',pl,hz⟩:=I.tuple hq
    have hlen:=r'.length;exact len_tuple pl (by simp only[List.size_toArray]<;>omega) ⟨.int ys.length,H,I.tok _,⟨s.toks+1,by rw[List.size_toArray,hlen]⟩,q⟩
theorem call_len_str:CallR X (.builtin "len") (fun xs H Q=>∃z,xs=[.str z]∧z.length≤sizeLine∧Q (.int z.length) H):=by
  intro pins s σ H xs us Q I r h;obtain⟨z,rfl,hz,q⟩:=h;obtain⟨u,rfl,t,rfl⟩:=vals1 r;have hn:=line63;exact len_str (by omega) ⟨.int z.length,H,I.tok _,⟨_,rfl⟩,q⟩
theorem CallR.or {f:Value} {r r' :List V→Hp→VK→Prop} (h:CallR X f r) (h' :CallR X f r'):CallR X f (fun xs H Q=>r xs H Q∨r' xs H Q):=by
  intro pins s σ H xs us Q I rs q;rcases q with q|q
  · exact h pins s σ H xs us Q I rs q
  · exact h' pins s σ H xs us Q I rs q
noncomputable def tyV (K:PySem.W.Frag) (T:String) (x:V) (H:Hp):Prop:=match x with
  | .str _=>T="str"
  | .int _=>T="int"
  | .ref p=>(T="list" ∧∃xs,SqL K H p xs)∨(T="tuple" ∧∃o,K.lookup p=some o∧o.cls= .type "tuple" ∧o.dict=none)∨
      (T="dict" ∧((∃kvs,H p=some (.dK kvs))∨∃kvs,H p=some (.dT kvs)))∨(T="set" ∧∃S n,H p=some (.set S n))
  |_=>False
theorem tyV_is {pins:List (Addr×Obj)} {σ:St} {H:Hp} {s:Shared} {T:String} {x:V} {v:Value} (I:Inv X pins σ H s) (r:RelV x v) (ty:tyV X.K T x H):
    s.TypeIs v T∧∀a,v= .ref a→∃ob,s.heap.get? a=some ob∧ob.dict=none:=by
  cases x with
  | str z=>
    obtain⟨t,rfl⟩:=r;cases(show T="str" from ty);exact⟨typeIs_str s z t,fun _ e=>nomatch e⟩
  | int i=>
    obtain⟨t,rfl⟩:=r;cases(show T="int" from ty);exact⟨typeIs_int s i t,fun _ e=>nomatch e⟩
  | ref p =>
    cases r;rcases ty with⟨rfl,xs,hq⟩|⟨rfl,o,hk,hc,hd⟩|⟨rfl,hk⟩|⟨rfl,S,n,hk⟩
    · obtain⟨its,_,pl,_⟩:=I.list hq
      refine⟨pl.isList.typeIs,fun a e=> ?_⟩;cases e;obtain⟨o,n,e,c,hd,_⟩:=pl;exact⟨o,e,hd⟩
    · refine⟨⟨o,I.kIn p o hk,hc⟩,fun a e=> ?_⟩
      cases e;exact⟨o,I.kIn _ o hk,hd⟩
    · have z:∃o,s.heap.get? p=some o∧o.ExactDict:=by
        rcases hk with⟨kvs,hk⟩|⟨kvs,hk⟩
        · obtain⟨_,_,_,_,o,_,_,e,ex,_⟩:=I.hok p _ hk
          exact⟨o,e,ex⟩
        · obtain⟨_,_,_,_,o,_,_,e,ex,_⟩:=I.hok p _ hk
          exact⟨o,e,ex⟩
      obtain⟨o,e,ex⟩:=z;refine⟨⟨o,e,ex.1⟩,fun a e2=> ?_⟩;cases e2;exact⟨o,e,ex.2.1⟩
    · obtain⟨o,_,_,_,e,ex,_⟩:=I.hok p _ hk
      refine⟨⟨o,e,ex.1⟩,fun a e2=> ?_⟩;cases e2;exact⟨o,e,ex.2.1⟩
  |_=>exact False.elim ty
noncomputable def tBM0(K:PySem.W.Frag)(T:String)(r:V→List V→Hp→VK→Prop)(to:TE):TE:=fun σ H Q=>to σ H fun x H1=>tyV K T x H1∧r x [] H1 Q
noncomputable def tBM(K:PySem.W.Frag)(T:String)(r:V→List V→Hp→VK→Prop)(to:TE)(t:TA):TE:=fun σ H Q=>to σ H fun x H1=>tyV K T x H1∧t σ H1 fun xs H2=>r x xs H2 Q
variable{o e:Expr}{es:List Expr}{to:TE}{t:TA}{name:Str}{apos cpos:Pos}{T id:String}{r:V→List V→Hp→VK→Prop}
theorem pe_bm0 (pa:PlainAttrs T) (slot:Slot T name id) (hty:typeOf (.builtin id)=pure (.type "method_descriptor")) (hm:MtR X id r) (ho:PE X o to)
    (hbase:attributeBase o name X.env (eval o X.env)=eval o X.env:=by rfl) (hline:(apos.endLine==cpos.line)=true:=by rfl):PE X (.Call (.Attribute o name apos) [] [] cpos) (tBM0 X.K T r to):=by
  intro pins s σ H Q I h;refine wpAny_Call_method0_late hbase hline (thn (ho pins s σ H _ I h) fun v s1 ⟨x,H1,I1,r1,ty,q1⟩=> ?_);obtain⟨h1,h2⟩:=tyV_is I1 r1 ty;exact⟨T,id,pa,slot,hty,h1,h2,Calls.callWith_builtin rfl (PySem.evalArgs_none (hm pins s1 σ H1 x [] v [] Q I1 r1 .nil q1))⟩
theorem pe_bm (pa:PlainAttrs T) (slot:Slot T name id) (hty:typeOf (.builtin id)=pure (.type "method_descriptor")) (hm:MtR X id r) (ho:PE X o to) (ha:PA X (e::es) t)
    (hbase:attributeBase o name X.env (eval o X.env)=eval o X.env:=by rfl)
    (hfew:((backTo cpos (starEach (e::es) X.env)).all (fun x=> !x.1)&&(backToKw cpos (keywordEach [] X.env)).all (fun x=>x.1.isSome)
      &&decide ((e::es).length+([]:List Keyword).length+(if([]:List Keyword).isEmpty then 0 else 1)<30))=true:=by rfl)
    (hline:(apos.endLine==cpos.line)=true:=by rfl) (hs:starEach (e::es) X.env=(false,eval e X.env)::starEach es X.env:=by rfl) (hplain:(backTo cpos (starEach es X.env)).any (·.1)=false:=by rfl):
    PE X (.Call (.Attribute o name apos) (e::es) [] cpos) (tBM X.K T r to t):=by
  intro pins s σ H Q I h;refine wpAny_Call_method_late hbase hfew hline rfl (thn (ho pins s σ H _ I h) fun v s1 ⟨x,H1,I1,r1,ty,q1⟩=> ?_);obtain⟨h1,h2⟩:=tyV_is I1 r1 ty;refine⟨T,id,pa,slot,hty,h1,h2,?_⟩;have hA:=ha cpos pins s1 σ H1 _ I1 q1;rw[hs] at hA ⊢;refine Calls.callWith_builtin (by show(false||(backTo cpos (starEach es X.env)).any (·.1))=false;rw[hplain]<;>rfl) (Calls.evalArgs_plain ?_);exact thn hA fun us s2 ⟨vs,H2,I2,r2,q2⟩=>hm pins s2 σ H2 x vs v us Q I2 r1 r2 q2
end
end L2
namespace L2
open PySem PySem.Spec PyProof.Rows
noncomputable def MtM (X:Cx) (id:String) (r:V→List V→Hp→VK→Prop):Prop:=
  ∀ (pins:List (Addr×Obj)) (s:Shared) (σ:St) (H:Hp) (x:V) (xs:List V) (v:Value) (us:List Value) (Q:VK),Inv X pins σ H s→RelV x v→Vals xs us→r x xs H Q→
    wpAny (model X.prog X.w) X.A (call (.builtin id) (v::us)) (EP X pins σ Q) X.xe s
theorem Vals.one:∀{x:V} {us:List Value},Vals [x] us→∃u,us=[u]∧RelV x u
  |_,_,.cons r .nil=>⟨_,rfl,r⟩
theorem Vals.two:∀{x y:V} {us:List Value},Vals [x,y] us→∃u v,us=[u,v]∧RelV x u∧RelV y v
  |_,_,_,.cons r (.cons q .nil)=>⟨_,_,rfl,r,q⟩
theorem Vals.zero:∀{us:List Value},Vals [] us→us=[]
  |_,.nil=>rfl
theorem Vals.dropLast {xs:List V} {us:List Value} (h:Vals xs us):Vals xs.dropLast us.dropLast:=by
  induction h with
  |nil=>exact .nil
  | cons r t ih=>
    cases t with
    |nil=>exact .nil
    |cons q t' =>exact .cons r ih
theorem Vals.eraseIdx:∀{xs:List V} {us:List Value} (i:Nat),Vals xs us→Vals (xs.eraseIdx i) (us.eraseIdx i)
  |_,_,_,.nil=> .nil
  |_,_,0,.cons _ t=>t
  |_,_,i+1,.cons r t=> .cons r (Vals.eraseIdx i t)
theorem erase_last {α:Type} (l:List α):l.eraseIdx (l.length - 1)=l.dropLast:=by
  induction l with
  |nil=>rfl
  | cons a r ih=>
    cases r with
    |nil=>rfl
    | cons b r=>
      have e:(a::b::r).length - 1=((b::r).length - 1)+1:=by
        have h1:(a::b::r).length=r.length+2:=rfl;have h2:(b::r).length=r.length+1:=rfl;omega
      rw[e,List.eraseIdx_cons_succ,ih]
      all_goals rfl
section
variable{X:Cx}{pins:List (Addr×Obj)}{σ:St}{H:Hp}{s:Shared}{l b:Addr}{xs ys zs:List V}
theorem Inv.lset {its its' :List Value} {n:Nat} {f:Array Value→Array Value} {t' :Nat} (I:Inv X pins σ H s) (hH:H l=some (.lst xs))
    (e:s.heap.get? l=some {cls:= .type "list",data:= .seq its.toArray n}) (hf:f its.toArray=its'.toArray) (hv:Vals ys its') (hz:ys.length≤sizeLine):
    Inv X pins σ (upd H l (.lst ys)) {s with heap:=s.heap.update l (Obj.mapSeq f),toks:=t'}:=by
  have q:=PySem.IsL.update e f;rw[hf] at q;refine I.write (x:=l) (e:=l) (by rw[hH];exact trivial) (.inl rfl) (fun b' u hb hu=>(Heap.get?_update_other s.heap (Obj.mapSeq f) (Ne.symm hb)).trans hu) ⟨_,q⟩ ?_;exact⟨hz,its',_,hv,q⟩
theorem Inv.lnew {its:List Value} {t' :Nat} (I:Inv X pins σ H s) (hv:Vals ys its) (hz:ys.length≤sizeLine):
    Inv X pins σ (upd H s.heap.objs.size (.lst ys)) {s with heap:=s.heap.push {cls:= .type "list",data:= .seq its.toArray},toks:=t'}:=
  I.laid (fun _ _ q=>Heap.get?_push_of_some _ q) (Nat.le_refl _) ⟨hz,its,0,hv,Heap.get?_push_size _ rfl⟩
theorem Inv.fresh(I:Inv X pins σ H s):H s.heap.objs.size=none:=I.hok.fresh (Nat.le_refl _)
theorem Inv.lstM (I:Inv X pins σ H s) (hH:H l=some (.lst xs)):xs.length≤sizeLine∧∃(its:List Value) (n:Nat),Vals xs its∧xs.length=its.length∧s.heap.get? l=some {cls:= .type "list",data:= .seq its.toArray n}:=by
  obtain⟨z,its,n,r,e⟩:=I.hok l _ hH;exact⟨z,its,n,r,r.length,e⟩
theorem notLongL {n:Nat} (h:n≤sizeLine):Builtin.List.listTooLong n=false:=by
  unfold Builtin.List.listTooLong;exact decide_eq_false (by omega)
end
section
variable{X:Cx}
noncomputable def rAppend:V→List V→Hp→VK→Prop:=fun x vs H Q=>∃l xs y,x= .ref l∧vs=[y]∧H l=some (.lst xs)∧xs.length<sizeLine∧Q .non (upd H l (.lst (xs++[y])))
theorem mt_append:MtM X "list.append" rAppend:=by
  intro pins s σ H x vs v us Q I rx rv h;obtain⟨l,xs,y,rfl,rfl,hH,hz,q⟩:=h;cases rx;obtain⟨u,rfl,ru⟩:=rv.one;obtain⟨z,its,n,r,hl,e⟩:=I.lstM hH;refine call_meets F.slot_list_append ⟨_,e,rfl⟩ F.entry_list_append (F.args_list_append_2 _ _) (PySem.list_append l its.toArray n u (by rw[List.size_toArray];omega)) ⟨e,?_⟩;refine⟨.non,_,I.lset (its' :=its++[u]) hH e (by simp) (r.append (.cons ru .nil)) ?_,rfl,q⟩;rw[List.length_append,List.length_singleton];omega
noncomputable def rExtend:V→List V→Hp→VK→Prop:=fun x vs H Q=>∃l b xs zs,x= .ref l∧vs=[.ref b]∧H l=some (.lst xs)∧H b=some (.lst zs)∧xs.length+zs.length≤sizeLine∧Q .non (upd H l (.lst (xs++zs)))
theorem mt_extend:MtM X "list.extend" rExtend:=by
  intro pins s σ H x vs v us Q I rx rv h;obtain⟨l,b,xs,zs,rfl,rfl,hH,hB,hz,q⟩:=h;cases rx;obtain⟨u,rfl,ru⟩:=rv.one;cases ru;obtain⟨z,its,n,r,hl,e⟩:=I.lstM hH;obtain⟨z2,its2,n2,r2,hl2,e2⟩:=I.lstM hB;have hsz:its.toArray.size+its2.toArray.size≤sizeLine:=by rw[List.size_toArray,List.size_toArray];omega
  have hlong:¬(!its.toArray.isEmpty&&Builtin.List.listTooLong (its.toArray.size+its2.toArray.size))=true:=by
    rw[notLongL hsz,Bool.and_false];exact Bool.false_ne_true
  refine call_meets F.slot_list_extend ⟨_,e,rfl⟩ F.entry_list_extend (F.args_list_extend_2 _ _)
    (AutoSeq1.list_extend_list_list_0 l its.toArray n b its2.toArray n2 hlong (by rw[List.size_toArray];omega) (by omega)) ⟨e,e2,?_⟩
  refine⟨.non,_,I.lset (its' :=its++its2) hH e (by simp) (r.append r2) ?_,rfl,q⟩;rw[List.length_append];omega
noncomputable def rPop:V→List V→Hp→VK→Prop:=fun x vs H Q=>∃l xs y,x= .ref l∧vs=[]∧H l=some (.lst xs)∧xs[xs.length - 1]? =some y∧Q y (upd H l (.lst xs.dropLast))
theorem mt_pop:MtM X "list.pop" rPop:=by
  intro pins s σ H x vs v us Q I rx rv h;obtain⟨l,xs,y,rfl,rfl,hH,hy,q⟩:=h;cases rx;have hus:=rv.zero;subst hus;obtain⟨z,its,n,r,hl,e⟩:=I.lstM hH;obtain⟨u,hu,ru⟩:=r.get hy
  have hy' :its.toArray[its.toArray.size - 1]? =some u:=by
    show its.toArray[its.length - 1]? =some u;rw[←Array.getElem?_toList,←hl];exact hu
  refine call_meets F.slot_list_pop ⟨_,e,rfl⟩ F.entry_list_pop (F.args_list_pop_1 _) (MeetsSeq.list_pop_last l its.toArray n u hy' (by rw[List.size_toArray];omega)) ⟨e,?_⟩;refine⟨y,_,I.lset (its' :=its.dropLast) hH e ?_ r.dropLast ?_,ru,q⟩
  · show its.toArray.eraseIdxIfInBounds (its.toArray.size - 1)=its.dropLast.toArray
    rw[List.size_toArray,List.eraseIdxIfInBounds_toArray,erase_last]
  · rw[List.length_dropLast]
    omega
noncomputable def rCat:R2:=fun x y H Q=>∃l b xs zs,x= .ref l∧y= .ref b∧H l=some (.lst xs)∧H b=some (.lst zs)∧xs.length+zs.length≤sizeLine∧∀p,H p=none→Q (.ref p) (upd H p (.lst (xs++zs)))
theorem op_cat:OpR X (binaryOp .Add) rCat:=by
  intro pins s σ H x y v u Q I rx ry h;obtain⟨l,b,xs,zs,rfl,rfl,hH,hB,hz,q⟩:=h;cases rx;cases ry;obtain⟨z,its,n,r,hl,e⟩:=I.lstM hH;obtain⟨z2,its2,n2,r2,hl2,e2⟩:=I.lstM hB;refine PySem.P.add_list e e2 ?_ (by rw[List.size_toArray,List.size_toArray];omega);have ea:its.toArray++its2.toArray=(its++its2).toArray:=by simp
  rw[ea];exact⟨.ref _,_,I.lnew (t' :=s.toks) (r.append r2) (by rw[List.length_append];omega),rfl,q _ I.fresh⟩
end
section
variable{prog:Program}{w:World}{A:Around}{E:Value→Shared→Prop}{s:Shared}
set_option maxRecDepth 100000 in
end
section
variable{X:Cx}
end
end L2
namespace L2
open PySem PySem.Spec PyProof.Rows
section
variable{κ:Type}[DecidableEq κ]
noncomputable def valV(kvs:List (κ×V))(k:κ):Option V:=(kvs.find? fun kv=>decide (kv.1=k)).map (·.2)
noncomputable def putK (kvs:List (κ×V)) (k:κ) (v:V):List (κ×V):=
  if(kvs.any fun kv=>decide (kv.1=k))=true then kvs.map (fun kv=>if kv.1=k then(kv.1,v) else kv) else kvs++[(k,v)]
noncomputable def dropK(kvs:List (κ×V))(k:κ):List (κ×V):=kvs.filter fun kv=>decide (kv.1≠k)
theorem valV_pos{p:κ×V}{r:List (κ×V)}{k:κ}(e:p.1=k):valV (p::r) k=some p.2:=by simp[valV,List.find?_cons,e]
theorem valV_neg{p:κ×V}{r:List (κ×V)}{k:κ}(e:¬p.1=k):valV (p::r) k=valV r k:=by simp[valV,List.find?_cons,e]
theorem valV_any (k:κ):∀kvs:List (κ×V),(kvs.any fun kv=>decide (kv.1=k))=(valV kvs k).isSome
  |[]=>rfl
  | p::r=>by
    rw[List.any_cons];by_cases e:p.1=k
    · simp only[valV_pos e,decide_eq_true e,Bool.true_or,Option.isSome_some]
    · rw[valV_neg e,decide_eq_false e,Bool.false_or];exact valV_any k r
theorem length_putK (kvs:List (κ×V)) (k:κ) (v:V):(putK kvs k v).length≤kvs.length+1:=by
  unfold putK
  split
  · rw[List.length_map];omega
  · rw[List.length_append,List.length_cons,List.length_nil];omega
theorem RelO.isSome_eq {o:Option V} {u:Option Value} (r:RelO o u):o.isSome=u.isSome:=by
  cases o with
  | none=>cases u with
    |none=>rfl
    |some _=>exact(show False from r).elim
  | some _=>cases u with
    |none=>exact(show False from r).elim
    |some _=>rfl
theorem RelO.getD {o:Option V} {u:Option Value} {d:V} {d' :Value} (r:RelO o u) (rd:RelV d d'):RelV (o.getD d) (u.getD d'):=by
  cases o with
  | none=>cases u with
    |none=>exact rd
    |some _=>exact(show False from r).elim
  | some _=>cases u with
    |none=>exact(show False from r).elim
    |some _=>exact r
theorem KV.val {kvs:List (κ×V)} {vs:List (κ×Value)} (r:KV kvs vs) (k:κ):RelO (valV kvs k) (valueAt vs k):=by
  unfold KV at r
  induction r with
  |nil=>exact True.intro
  | @cons p q ps qs h t ih=>
    obtain⟨h1,h2⟩:=h;by_cases e:p.1=k
    · have e' :q.1=k:=h1.symm.trans e
      have b:valueAt (q::qs) k=some q.2:=by simp[valueAt,List.find?_cons,e']
      rw[valV_pos e,b];exact h2
    · have e' :¬q.1=k:=fun z=>e (h1.trans z)
      have b:valueAt (q::qs) k=valueAt qs k:=by simp[valueAt,List.find?_cons,e']
      rw[valV_neg e,b];exact ih
theorem KV.any {kvs:List (κ×V)} {vs:List (κ×Value)} (r:KV kvs vs) (k:κ):(kvs.any fun kv=>decide (kv.1=k))=vs.any fun kv=>decide (kv.1=k):=by
  unfold KV at r
  induction r with
  |nil=>rfl
  |cons h t ih=>rw[List.any_cons,List.any_cons,ih,h.1]
theorem KV.repl {kvs:List (κ×V)} {vs:List (κ×Value)} (r:KV kvs vs) (k:κ) {y:V} {u:Value} (ry:RelV y u):
    KV (kvs.map fun kv=>if kv.1=k then(kv.1,y) else kv) (vs.map fun kv=>if kv.1=k then(kv.1,u) else kv):=by
  unfold KV at r ⊢
  induction r with
  |nil=>exact .nil
  | @cons p q ps qs h t ih=>
    rw[List.map_cons,List.map_cons];refine .cons ?_ ih;obtain⟨h1,h2⟩:=h;by_cases e:p.1=k
    · rw[if_pos e,if_pos (h1.symm.trans e)];exact⟨h1,ry⟩
    · rw[if_neg e,if_neg (fun z=>e (h1.trans z))];exact⟨h1,h2⟩
theorem KV.put {kvs:List (κ×V)} {vs:List (κ×Value)} (r:KV kvs vs) (k:κ) {y:V} {u:Value} (ry:RelV y u):KV (putK kvs k y) (stored vs k u):=by
  unfold putK stored;rw[r.any k];by_cases e:(vs.any fun kv=>decide (kv.1=k))=true
  · rw[if_pos e,if_pos e];exact r.repl k ry
  · rw[if_neg e,if_neg e];exact Paired.snoc r ⟨rfl,ry⟩
theorem KV.drop {kvs:List (κ×V)} {vs:List (κ×Value)} (r:KV kvs vs) (k:κ):KV (dropK kvs k) (without vs k):=by
  unfold KV at r ⊢;unfold dropK without
  induction r with
  |nil=>exact .nil
  | @cons p q ps qs h t ih=>
    obtain⟨h1,h2⟩:=h;rw[List.filter_cons,List.filter_cons];by_cases e:p.1=k
    · have a:¬decide (p.1≠k)=true:=by simp[e]
      have b:¬decide (q.1≠k)=true:=by simp[h1.symm.trans e]
      rw[if_neg a,if_neg b];exact ih
    · have e' :¬q.1=k:=fun z=>e (h1.trans z)
      have a:decide (p.1≠k)=true:=by simp[e]
      have b:decide (q.1≠k)=true:=by simp[e']
      rw[if_pos a,if_pos b];exact .cons ⟨h1,h2⟩ ih
theorem KV.keys {kvs:List (κ×V)} {vs:List (κ×Value)} (r:KV kvs vs):kvs.map (·.1)=vs.map (·.1):=by
  unfold KV at r
  induction r with
  |nil=>rfl
  |cons h t ih=>rw[List.map_cons,List.map_cons,ih,h.1]
theorem KV.length{kvs:List (κ×V)}{vs:List (κ×Value)}(r:KV kvs vs):kvs.length=vs.length:=Paired.length r
end
theorem kV_is {P:Program} {w:World} {k:Key} {u:Value} (r:RelV (kV k) u):(mixKind P w).is k u=true:=by
  cases k with
  |inl i=>obtain⟨t,e⟩:=(show ∃t,u=Value.int i t from r);subst e;exact mixKind_int P w i t
  |inr x=>obtain⟨t,e⟩:=(show ∃t,u=Value.str x t from r);subst e;exact mixKind_str P w x t
noncomputable abbrev KT(H:Hp):List (List Key×V)→List (List Key×Addr×Value)→Prop:=Paired fun p q=>p.1=q.1∧H q.2.1=some (.tup (p.1.map kV))∧RelV p.2 q.2.2
theorem KT.val {H:Hp} {kvs:List (List Key×V)} {xs:List (List Key×Addr×Value)} (r:KT H kvs xs) (k:List Key):RelO (valV kvs k) ((atKey xs k).map (·.2)):=by
  induction r with
  |nil=>exact True.intro
  | @cons p q ps qs h t ih=>
    obtain⟨h1,_,h2⟩:=h;by_cases e:p.1=k
    · have e' :q.1=k:=h1.symm.trans e
      have b:atKey (q::qs) k=some q.2:=by simp[atKey,List.find?_cons,e']
      rw[valV_pos e,b];exact h2
    · have e' :¬q.1=k:=fun z=>e (h1.trans z)
      have b:atKey (q::qs) k=atKey qs k:=by simp[atKey,List.find?_cons,e']
      rw[valV_neg e,b];exact ih
theorem KT.repl {H:Hp} {kvs:List (List Key×V)} {xs:List (List Key×Addr×Value)} (r:KT H kvs xs) (k:List Key) {y:V} {u:Value} (ry:RelV y u):
    KT H (kvs.map fun kv=>if kv.1=k then(kv.1,y) else kv) (xs.map (putAt k u)):=by
  induction r with
  |nil=>exact .nil
  | @cons p q ps qs h t ih=>
    rw[List.map_cons,List.map_cons];refine .cons ?_ ih;obtain⟨h1,h2,h3⟩:=h;unfold putAt;by_cases e:p.1=k
    · rw[if_pos e,if_pos (h1.symm.trans e)];exact⟨h1,h2,ry⟩
    · rw[if_neg e,if_neg (fun z=>e (h1.trans z))];exact⟨h1,h2,h3⟩
theorem KT.put {H:Hp} {kvs:List (List Key×V)} {xs:List (List Key×Addr×Value)} (r:KT H kvs xs) (k:List Key) {b:Addr} {y:V} {u:Value} (hb:H b=some (.tup (k.map kV))) (ry:RelV y u):
    KT H (putK kvs k y) (storedH xs k b u):=by
  have e:(kvs.any fun kv=>decide (kv.1=k))=(atKey xs k).isSome:=by
    rw[valV_any,(r.val k).isSome_eq,Option.isSome_map]
  unfold putK storedH;rw[e];by_cases q:(atKey xs k).isSome=true
  · rw[if_pos q,if_pos q];exact r.repl k ry
  · rw[if_neg q,if_neg q];exact Paired.snoc r ⟨rfl,hb,ry⟩
theorem KT.keeps {H H' :Hp} {kvs:List (List Key×V)} {xs:List (List Key×Addr×Value)} (r:KT H kvs xs) (ht:∀b ys,H b=some (.tup ys)→H' b=some (.tup ys)):KT H' kvs xs:=
  Paired.mapP r fun _ _ z=>⟨z.1,ht _ _ z.2.1,z.2.2⟩
section
variable{P:Program}{w:World}{H:Hp}{h:Heap}{a:Addr}
theorem rd_of{u:HO}(ok:HOk P w H h)(e:Rd H a u):ObjOk P w H h a u:=e.ok ok
theorem dk_rd {kvs:List (Key×V)} (ok:HOk P w H h) (e:Rd H a (.dK kvs)):kvs.length≤sizeLine∧(a==sysModules)=false∧∃vs,KV kvs vs∧h.DictOf (mixKind P w) a vs:=
  show ObjOk P w H h a (.dK kvs) from rd_of ok e
theorem dk_of{kvs:List (Key×V)}(ok:HOk P w H h)(e:H a=some (.dK kvs)):kvs.length≤sizeLine∧(a==sysModules)=false∧∃vs,KV kvs vs∧h.DictOf (mixKind P w) a vs:=dk_rd ok (.inl e)
end
noncomputable def DGet (H:Hp) (a:Addr) (y:V) (r:Option V):Prop:=
  (∃kvs k,Rd H a (.dK kvs)∧y=kV k∧r=valV kvs k)∨∃kvs k b,Rd H a (.dT kvs)∧y= .ref b∧H b=some (.tup (k.map kV))∧r=valV kvs k
noncomputable def DPut (H:Hp) (a:Addr) (y v:V) (H' :Hp):Prop:=
  (∃kvs k,H a=some (.dK kvs)∧y=kV k∧kvs.length<sizeLine∧H' =upd H a (.dK (putK kvs k v)))∨
  ∃kvs k b,H a=some (.dT kvs)∧y= .ref b∧H b=some (.tup (k.map kV))∧kvs.length<sizeLine∧H' =upd H a (.dT (putK kvs k v))
theorem DGet.k{H:Hp}{a:Addr}{kvs:List (Key×V)}{k:Key}(e:H a=some (.dK kvs)):DGet H a (kV k) (valV kvs k):= .inl ⟨kvs,k,.inl e,rfl,rfl⟩
theorem DGet.t{H:Hp}{a b:Addr}{kvs:List (List Key×V)}{k:List Key}(e:H a=some (.dT kvs))(eb:H b=some (.tup (k.map kV))):DGet H a (.ref b) (valV kvs k):= .inr ⟨kvs,k,b,.inl e,rfl,eb,rfl⟩
theorem DPut.k{H:Hp}{a:Addr}{kvs:List (Key×V)}{k:Key}{v:V}(e:H a=some (.dK kvs))(hl:kvs.length<sizeLine):DPut H a (kV k) v (upd H a (.dK (putK kvs k v))):= .inl ⟨kvs,k,e,rfl,hl,rfl⟩
theorem DPut.t {H:Hp} {a b:Addr} {kvs:List (List Key×V)} {k:List Key} {v:V} (e:H a=some (.dT kvs)) (eb:H b=some (.tup (k.map kV))) (hl:kvs.length<sizeLine):
    DPut H a (.ref b) v (upd H a (.dT (putK kvs k v))):= .inr ⟨kvs,k,b,e,rfl,eb,hl,rfl⟩
section
variable{X:Cx}{pins:List (Addr×Obj)}{σ:St}{H:Hp}{s:Shared}{a:Addr}{y v:V}{u r:Value}{o:Option V}{A:Around}{E:Value→Shared→Prop}
theorem Inv.big (I:Inv X pins σ H s):sysModules<s.heap.objs.size:=by
  have h:mainGlobals<s.heap.objs.size:=(I.mod.glob.keeps I.bk).lt;exact Nat.lt_trans (by decide) h
theorem d_write {h' :Heap} {t' :Nat} {ob:HO} (I:Inv X pins σ H s) (mu:Mut (H a)) (hs:Heap.SameBut a s.heap h') (he:∃q,h'.get? a=some q) (new:ObjOk X.prog X.w (upd H a ob) h' a ob):
    Inv X pins σ (upd H a ob) {s with heap:=h',toks:=t'}:=
  I.write (x:=a) (e:=a) mu (.inl rfl) (fun b q hb z=>(hs.2 b hb).trans z) he new
theorem dk_new {P:Program} {w:World} {H' :Hp} {h' :Heap} {kvs:List (Key×V)} {vs:List (Key×Value)} (z:kvs.length≤sizeLine) (hd:(a==sysModules)=false) (rel:KV kvs vs) (dd:h'.DictOf (mixKind P w) a vs):
    ObjOk P w H' h' a (.dK kvs):=⟨z,hd,vs,rel,dd⟩
end
section
variable{X:Cx}{pins:List (Addr×Obj)}{σ:St}{H:Hp}{s:Shared}{a:Addr}{kvs:List (Key×V)}{k:Key}{u:Value}{A:Around}{E:Value→Shared→Prop}
end
section
variable{X:Cx}{o i e value:Expr}{pos pos' tpos:Pos}{td ty tv:TE}
end
theorem dk_empty {P:Program} {w:World} {H:Hp} (h:Heap) (hb:sysModules<h.objs.size):ObjOk P w H (h.push {cls:= .type "dict",data:= .dict #[]}) h.objs.size (.dK []):=
  ⟨Nat.zero_le _,beq_eq_false_iff_ne.mpr (Ne.symm (Nat.ne_of_lt hb)),[],.nil,Heap.DictOf.new h⟩
section
variable{X:Cx}{pos:Pos}
end
noncomputable def tPairs:List (TE×TE)→St→Hp→(List (V×V)→Hp→Prop)→Prop
  |[],_,H,Q=>Q [] H
  |(tk,tv)::r,σ,H,Q=>tk σ H fun x H1=>tv σ H1 fun y H2=>tPairs r σ H2 fun ps H3=>Q ((x,y)::ps) H3
noncomputable abbrev VV:List (V×V)→List (Value×Value)→Prop:=Paired fun p q=>RelV p.1 q.1∧RelV p.2 q.2
noncomputable def PPs (X:Cx) (pos:Pos) (keys:List (Option Expr)) (values:List Expr) (trs:List (TE×TE)):Prop:=
  ∀ (pins:List (Addr×Obj)) (s:Shared) (σ:St) (H:Hp) (Q:List (V×V)→Hp→Prop),Inv X pins σ H s→tPairs trs σ H Q→
    wpAny (model X.prog X.w) X.A (evalPairs (pairTrees keys values X.env pos)) (fun vs s' =>∃ps H',Inv X pins σ H' s'∧VV ps vs∧Q ps H') X.xe s
theorem pps_nil{X:Cx}{pos:Pos}:PPs X pos [] [] []:=fun pins s σ H Q I h=>pairTrees_nil_walk ⟨[],H,I,.nil,h⟩
theorem pps_cons {X:Cx} {pos:Pos} {k v:Expr} {ks:List (Option Expr)} {vs:List Expr} {tk tv:TE} {trs:List (TE×TE)} (hk:PE X k tk) (hv:PE X v tv) (hr:PPs X pos ks vs trs):
    PPs X pos (some k::ks) (v::vs) ((tk,tv)::trs):=fun pins s σ H Q I h=>
  pairTrees_cons_walk (thn (hk pins s σ H _ I h) fun u s1 ⟨x,H1,I1,rx,q1⟩=>thn (hv pins s1 σ H1 _ I1 q1) fun w2 s2 ⟨y,H2,I2,ry,q2⟩=>
    thn (hr pins s2 σ H2 _ I2 q2) fun ws s3 ⟨ps,H3,I3,rel,q3⟩=>⟨(x,y)::ps,H3,I3,.cons ⟨rx,ry⟩ rel,q3⟩)
noncomputable def mergeK(kvs more:List (Key×V)):List (Key×V):=more.foldl (fun acc kv=>putK acc kv.1 kv.2) kvs
theorem KV.merge:∀{more:List (Key×V)} {rs:List (Key×Value)} {kvs:List (Key×V)} {vs:List (Key×Value)},KV more rs→KV kvs vs→KV (mergeK kvs more) (merged vs rs):=by
  intro more rs kvs vs r;unfold KV at r
  induction r generalizing kvs vs with
  |nil=>intro q;exact q
  | @cons p q ps qs h t ih=>
    intro r0
    have e:KV (putK kvs p.1 p.2) (stored vs q.1 q.2):=by
      have:=r0.put p.1 h.2;rw[←h.1];exact this
    exact ih e
theorem length_mergeK:∀(more kvs:List (Key×V)),(mergeK kvs more).length≤kvs.length+more.length
  |[],kvs=>by show kvs.length≤kvs.length+0;omega
  | p::r,kvs=>by
    have h1:=length_mergeK r (putK kvs p.1 p.2);have h2:=length_putK kvs p.1 p.2;show(mergeK (putK kvs p.1 p.2) r).length≤_;rw[List.length_cons];omega
theorem carries_of {P:Program} {w:World}:∀{kvs:List (Key×V)} {ws:List (Value×Value)},VV (kvs.map fun kv=>(kV kv.1,kv.2)) ws→∃rs,Carries (mixKind P w) ws rs∧KV kvs rs
  |[],_,r=>by rw[List.map_nil] at r;cases r;exact⟨[],True.intro,.nil⟩
  | p ::kvs,_,r=>by
    rw[List.map_cons] at r
    cases r with
    | @cons a b as bs h t=>
      obtain⟨rs,c,q⟩:=carries_of (P:=P) (w:=w) t;obtain⟨b1,b2⟩:=b;exact⟨(p.1,b2)::rs,⟨kV_is h.1,rfl,c⟩,.cons ⟨rfl,h.2⟩ q⟩
noncomputable def tDisp(trs:List (TE×TE)):TE:=fun σ H Q=>∀p,H p=none→tPairs trs σ (upd H p (.dK [])) fun ps H2=>H2 p=some (.dK [])∧∃kvs:List (Key×V),ps=kvs.map (fun kv=>(kV kv.1,kv.2))∧kvs.length≤15∧Q (.ref p) (upd H2 p (.dK (mergeK [] kvs)))
theorem pe_disp {X:Cx} {pos:Pos} {keys:List (Option Expr)} {values:List Expr} {trs:List (TE×TE)} (h:PPs X pos keys values trs) (hall:keys.all (·.isSome)=true) (hl:keys.length=values.length) (h0:keys≠[])
    (h15:keys.length≤15):PE X (.Dict keys values pos) (tDisp trs):=by
  intro pins s σ H Q I q;have hn:=I.hok.fresh (Nat.le_refl s.heap.objs.size);have I1:=I.laid (a:=s.heap.objs.size) (o:= .dK []) (h' :=s.heap.push {cls:= .type "dict",data:= .dict #[]}) (t' :=s.toks) (fun _ _ q=>Heap.get?_push_of_some _ q) (Nat.le_refl _) (dk_empty s.heap I.big);refine wpAny_Dict_walk (knd:=mixKind X.prog X.w) hall hl h0 h15 (thn (h pins _ σ _ _ I1 (q _ hn)) fun ws s2 ⟨ps,H2,I2,rel,e,kvs,ep,lk,q2⟩=> ?_);subst ep;obtain⟨rs,c,rk⟩:=carries_of (P:=X.prog) (w:=X.w) rel;obtain⟨z,hd,vs0,r0,dd⟩:=dk_of I2.hok e;cases r0;refine⟨rs,c,dd,fun h' dd' hs=>⟨.ref s.heap.objs.size,_,?_,rfl,q2⟩⟩
  have hz:(mergeK [] kvs).length≤sizeLine:=by
    have h1:=length_mergeK kvs [];rw[List.length_nil] at h1;rw[sizeLine_eq];omega
  have he:∃q,h'.get? s.heap.objs.size=some q:=let⟨q,_,_,hq,_⟩:=dd';⟨q,hq⟩
  exact d_write I2 (by rw[e];exact True.intro) hs he (dk_new hz hd (rk.merge .nil) dd')
section
variable{X:Cx}{pins:List (Addr×Obj)}{σ:St}{H:Hp}{s:Shared}{a:Addr}{y d:V}{u r:Value}{o:Option V}{A:Around}{E:Value→Shared→Prop}
end
section
variable{X:Cx}{o e f:Expr}{apos cpos:Pos}{td ty tx:TE}
end
section
variable{X:Cx}{pins:List (Addr×Obj)}{σ:St}{H:Hp}{s:Shared}{a:Addr}{kvs:List (Key×V)}{A:Around}{E:Value→Shared→Prop}
end
section
variable{X:Cx}{pins:List (Addr×Obj)}{σ:St}{H:Hp}{s:Shared}{a:Addr}{y:V}{u:Value}{A:Around}{E:Value→Shared→Prop}
end
end L2
namespace Att
open PySem PySem.W PySem.Calls PyProof.Rows
theorem ints_of_wellAll {P:Params} {h:Heap}:∀(ns:List Int) (vs:List Value),WellAll P h vs (ns.map WData.int)→IntsAre vs ns:=by
  intro ns
  induction ns with
  | nil=>
    intro vs w;rw[List.map_nil] at w;cases w;exact .nil
  | cons n ns ih=>
    intro vs w;rw[List.map_cons] at w
    cases w with
    | cons a b=>
      cases a;exact .cons _ _ (ih _ b)
theorem script_of {l:OpenLaw} {n:Nat} (hn:l.most=some n) {P:Params} {h:Heap} {args:List WData} {vals:List Value}
    (hpre:l.row.toRowW.claim.pre args=true) (hwl:WellAll P h vals args):
    ∃a vs ns,vals=[Value.ref a]∧args=[WData.list (ns.map WData.int)]∧h.get? a=some {cls:= .type "list",data:= .seq vs.toArray}∧IntsAre vs ns∧ns.length≤n:=by
  have hsh:WShape.hasAll [] args [.list .int]=true:=(pre_splitW hpre).1;have hc:l.pre.holds [] {args:=args}=true:=(pre_splitW hpre).2;obtain⟨d,r,rfl,h1,h2⟩:=hasAllW_cons hsh;obtain rfl:=hasAllW_nil h2;obtain⟨xs,rfl,h3⟩:=hasW_list h1;obtain⟨ns,rfl⟩:=items_int h3
  have hlen:ns.length≤n:=by
    unfold OpenLaw.pre at hc
    have h4:(WTm.not (.lt (.lit (.int (n:Int))) (.len (.arg 0)))).holds [] {args:=[.list (ns.map .int)]}=true:=by
      have h4:=(holds_andW hc).1;rw[hn] at h4;exact h4
    have h5:=condW_of h4 (w_not (w_lt w_lit (w_len_list (w_arg rfl))));rw[List.length_map] at h5;refine Nat.le_of_not_lt fun q=> ?_;have q' :(n:Int)<((ns.length:Nat):Int):=by omega
    first
      |(rw[decide_eq_true q'] at h5;exact absurd h5 (by decide))
      |(simp at h5;omega)
  cases hwl with
  | cons w1 w2=>
    cases w2
    cases w1 with
    |list ho hall=>exact⟨_,_,ns,rfl,rfl,ho,ints_of_wellAll ns _ hall,hlen⟩
theorem post_true (l:OpenLaw) (args:List WData):l.row.toRowW.claim.post args (.bool true) args=true:=
  postW_of (r:=l.row.toRowW) (X:=(true==true))
    (show WShape.has [] (.bool true) .bool=true by first|rfl|decide|simp[WShape.has,WShape.arms,WShape.armsAll])
    (show(WTm.eq .res (.lit (.bool true))).value [] {args:=args,res:=some (.bool true),after:=args}=some (.bool (true==true)) from w_eq_bool (w_res rfl) w_lit) rfl
theorem attach_call {l:OpenLaw} {n:Nat} {q:Program} {loose:List Str} {XP:(Str→Option Value)→Heap→Prop} {YP:World→Heap→Prop} {d:DefRec}
    (hn:l.most=some n) (hdf:d.params.defaults=[])
    (call:∀(w:World) (s₀ s₁:Shared) (mg mb:Str→Option Value) (fa:Addr) (o:Obj) (pm cd doc:Value) (a:Addr) (vs:List Value) (ns:List Int),
      Ground q loose [] XP w s₀ mg mb s₁.heap→YP w s₁.heap→
      s₁.heap.get? fa=some o→o.data= .func (docDef d.name d.params d.body d.scope pm cd doc)→s₁.heap.CodeRec cd d.name→mg d.name=some (.ref fa)→
      s₁.heap.get? a=some {cls:= .type "list",data:= .seq vs.toArray}→IntsAre vs ns→ns.length≤n→s₁.gens= #[]→
      codeAny (model l.prog w) callerA (.call (.ref fa) ⟨[.ref a],[]⟩) (fun r s' =>r= .ok (.ret (.bool true))∧OldK s₁.heap s'.heap∧s'.os=s₁.os∧AllBare s'.gens) s₁):
    WalkO q loose XP YP l.row.toRowW d [] (fun f vs=>PySem.call f vs):=by
  intro w s₀ s₁ mg mb G Y fa o pm cd doc dV kV ho hd hcd hD hmg hg args vals as hpre hlay hrd hwl hlo;obtain rfl:dV= .none:=Dflts.none hD hdf;obtain rfl:kV= .none:=Dflts.noKw hD;obtain⟨a,vs,ns,rfl,rfl,hobj,hints,hlen⟩:=script_of hn hpre hwl;refine enter_call (codeAny_mono (call w s₀ s₁ mg mb fa o pm cd doc a vs ns G Y ho (fd_plain hd) hcd hmg hobj hints hlen hg) fun r s' hq=> ?_);obtain⟨rfl,h2,h3,h4⟩:=hq;exact⟨.inl ⟨.bool true,.bool true,[],rfl,fun _=>rfl,.bool true,post_true l _,fun _=>⟨List.Pairwise.nil,fun _ hm=>(nomatch hm)⟩⟩,h2,h3,h4⟩
section
variable{prog:Program}{w:World}{A:Around}{E:Value→Shared→Prop}{s:Shared}{K:Frag}
noncomputable def ledger(h:Heap)(L d:Addr):List (Addr×Obj):=(List.range h.objs.size).filterMap fun a=>if a=L∨a=d then none else(h.get? a).map fun o=>(a,o)
end
end Att
namespace L2
open PySem PySem.Spec PyProof.Rows
theorem vals_ints:∀{vs:List Value} {ns:List Int},IntsAre vs ns→Vals (ns.map V.int) vs
  |_,_,.nil=> .nil
  |_,_,.cons n t h=> .cons ⟨t,rfl⟩ (vals_ints h)
noncomputable def Only(H:Hp):Prop:=∀b,H b=none∨∃o xs,H b=some (.frz o (.lst xs))
theorem law_call {P:Program} {w:World} {K:PySem.W.Frag} {mg mb:Str→Option Value} {CX:CXT} {k:Nat} {fa a:Addr} {fd:FuncData} {x:Str} {sp:Sp} {s₁:Shared} {vs:List Value} {ns:List Int}
    (KX:K.In s₁.heap) (hns:s₁.heap.Ns mainGlobals mg) (hb:s₁.heap.Ns builtinsNs mb) (hbb:∀x:Str,x≠ "__name__" →mb x=bootBuiltins x) (hlim:s₁.heap.NoLimit) (hg:s₁.gens= #[])
    (ha:s₁.heap.get? a=some {cls:= .type "list",data:= .seq vs.toArray}) (hi:IntsAre vs ns) (hl:ns.length≤sizeLine) (hr:Room k callerA)
    (F:∀base:Heap,K.In base→base.Ns mainGlobals mg→FnOk P w K mg base CX k fa fd [x] sp) (hbind:∀(s:Shared) (u:Value),BindsTo s fd ⟨[u],[]⟩ [(x,u)])
    (hsp:∀H:Hp,Only H→SqL K H a (ns.map V.int)→sp [.ref a] H (fun v _=>v= .bl true) fun _ _ _=>False)
    (hCX:∀H e s',CX [] H s₁ (fun _ _ _=>False) e s'→False):
    codeAny (model P w) callerA (.call (.ref fa) ⟨[.ref a],[]⟩) (fun r s' =>r= .ok (.ret (.bool true))∧OldK s₁.heap s'.heap∧s'.os=s₁.os∧AllBare s'.gens) s₁:=by
  have rv:=vals_ints hi;have lenV:=hi.length
  have core :∀H:Hp,Only H→SqL K H a (ns.map V.int)→HOk P w H s₁.heap→(∀b,H b≠none→b=a)→(H a≠none→K.lookup a=none)→
      codeAny (model P w) callerA (.call (.ref fa) ⟨[.ref a],[]⟩) (fun r s' =>r= .ok (.ret (.bool true))∧OldK s₁.heap s'.heap∧s'.os=s₁.os∧AllBare s'.gens) s₁:=by
    intro H hO hS hok hA hK;have base_of:∀{b:Addr} {o:Obj},s₁.heap.get? b=some o→H b=none→(hidT s₁.heap H).get? b=some o:=fun e n=>hidT_get e n
    have noA:∀{b:Addr} {o:Obj} {es:Array DictEntry} {ep:Nat},s₁.heap.get? b=some o→o.data= .dict es ep→H b=none:=fun{b o es ep} e d=>by
      cases q:H b with
      |none=>rfl
      | some u=>
        have e' :b=a:=hA b (by rw[q];simp);subst e';rw[ha] at e;cases e
        have d' :Data.seq vs.toArray _=Data.dict es ep:=d;cases d'
    have nsK:∀{b:Addr} {m:Str→Option Value},s₁.heap.Ns b m→(hidT s₁.heap H).Ns b m:=fun{b m} ⟨o,es,ep,e,d,r⟩=>⟨o,es,ep,base_of e (noA e d),d,r⟩
    have hKb:K.In (hidT s₁.heap H):=fun b o e=>base_of (KX b o e) (by
      cases q:H b with
      |none=>rfl
      | some u=>
        have e' :b=a:=hA b (by rw[q];simp);subst e';rw[hK (by rw[q];simp)] at e;cases e)
    have hM:Mod K mg (hidT s₁.heap H):=⟨hKb,nsK hns,⟨mb,nsK hb,hbb⟩,let⟨mc,h1,h2⟩:=hlim;⟨mc,nsK h1,h2⟩⟩;have e0:Env0 P w K mg (hidT s₁.heap H) callerA [] s₁ H:=⟨rfl,hM,fun b o e=>of_hidT e,Nat.le_of_eq (hidT_size _ _),trivial,fun b hb=>absurd (show b∈([]:List Addr) from hb) (by simp),hok,.of_eq hg⟩;refine codeAny_mono ((F _ hKb (nsK hns)).run callerA [] s₁ H ⟨[.ref a],[]⟩ [.ref a] [.ref a] _ _ hr e0 (hbind s₁ (.ref a)) (.cons rfl .nil) (hsp H hO hS)) fun r s' h=> ?_
    cases r with
    |error e=>exact(hCX H e s' h).elim
    | ok fl =>
      cases fl with
      |next=>exact False.elim h
      |brk=>exact False.elim h
      |cont=>exact False.elim h
      | ret u=>
        obtain⟨v,H',os,bare,un,hok',r',q⟩:=h;have q' :v= .bl true:=q;subst q';obtain rfl:u=Value.bool true:=r';refine⟨rfl,OldK.of_keep fun b o e=> ?_,os,bare⟩
        cases q:H b with
        |none=>exact un.keep b o e q (by intro z;exact absurd (show b∈([]:List Addr) from z) (by simp)) (by simp)
        | some u=>
          rcases hO b with z|⟨ob,xs,z⟩
          · rw[q] at z;cases z
          · have z2:=un.frzs b ob _ z
            obtain⟨e1,_⟩:=hok b _ z;obtain⟨e2,_⟩:=hok' b _ z2;rw[e] at e1;cases e1
            exact e2
  cases hk:K.lookup a with
  | some o=>
    have e:=KX a o hk;rw[ha] at e;cases e;refine core (fun _=>none) (fun _=> .inl rfl) (.inr ⟨_,vs.toArray,_,hk,rfl,rfl,rfl,by rw[List.size_toArray,lenV];exact hl,by simpa using rv⟩) (fun b u z=>by have z' :(none:Option HO)=some u:=z;cases z') (fun b z=>absurd rfl z) fun z=>absurd rfl z
  | none=>
    refine core (fun b=>if b=a then some (.frz {cls:= .type "list",data:= .seq vs.toArray} (.lst (ns.map V.int))) else none) (fun b=> ?_) (.inl (.inr ⟨{cls:= .type "list",data:= .seq vs.toArray},if_pos rfl⟩)) (fun b u z=> ?_) (fun b z=> ?_) fun _=>hk
    · by_cases hb:b=a
      · exact .inr ⟨_,_,if_pos hb⟩
      · exact .inl (if_neg hb)
    · by_cases hb:b=a
      · have z' :=(if_pos hb).symm.trans z
        cases z';subst hb;exact⟨ha,by rw[List.length_map];exact hl,vs,_,rv,ha⟩
      · have z' :=(if_neg hb).symm.trans z
        cases z'
    · by_cases hb:b=a
      · exact hb
      · exact absurd (if_neg hb) z
end L2
namespace L2
open PySem PySem.Spec PyProof.Rows
theorem walk_of {l:PySem.W.OpenLaw} {n k:Nat} {q:Program} {loose:List Str} {XP:(Str→Option Value)→Heap→Prop} {YP:World→Heap→Prop} {d:DefRec} {K:Params→PySem.W.Frag} {CX:World→CXT} {sp:World→Sp} {x:Str}
    (hn:l.most=some n) (hn2:n≤sizeLine) (hdf:d.params.defaults=[]) (hr:Room k callerA)
    (hY:∀(w:World) (h:Heap),YP w h→(K w.params).In h)
    (F :∀(w:World) (mg:Str→Option Value) (fa:Addr) (h:Heap),(K w.params).In h→h.Ns mainGlobals mg→mg d.name=some (.ref fa)→
      ∃ fd:FuncData,(∀(s:Shared) (u:Value),BindsTo s fd ⟨[u],[]⟩ [(x,u)])∧
        ∀base:Heap,(K w.params).In base→base.Ns mainGlobals mg→FnOk l.prog w (K w.params) mg base (CX w) k fa fd [x] (sp w))
    (hsp:∀(w:World) (H:Hp) (a:Addr) (ns:List Int),ns.length≤n→Only H→SqL (K w.params) H a (ns.map V.int)→sp w [.ref a] H (fun v _=>v= .bl true) fun _ _ _=>False)
    (hCX:∀(w:World) (H:Hp) (s:Shared) (e:Value) (s' :Shared),CX w [] H s (fun _ _ _=>False) e s'→False):
    PySem.W.WalkO q loose XP YP l.row.toRowW d [] (fun f vs=>PySem.call f vs):=by
  refine Att.attach_call hn hdf fun w s₀ s₁ mg mb fa o pm cd doc a vs ns G Y ho hd hcd hmg hobj hints hlen hg=> ?_;have KX:=hY w _ Y;obtain⟨fd,hb,hF⟩:=F w mg fa _ KX G.T.g hmg;exact law_call KX G.T.g G.T.b G.T.builtins G.T.nolimit hg hobj hints (Nat.le_trans hlen hn2) hr hF hb (fun H hO hS=>hsp w H a ns hlen hO hS) fun H e s' =>hCX w H s₁ e s'
end L2
namespace L2
open PySem PySem.Spec PyProof.Rows
noncomputable abbrev CX0:CXT:=fun _ _ _ _ _ _=>False
noncomputable abbrev E0:XK:=fun _ _ _=>False
theorem pass0{X:Cx}:Passes CX0 X E0:=fun _ _ _ _ _ _ _ h=>h.elim
structure Fun (K:PySem.W.Frag) (x qual:Str) (st:Stmt) (f:Addr) (fd:FuncData):Prop where
  ex:∃(oc:Value) (od:Option Addr) (kV doc pm:Value) (an:Option Addr) (cdv ct:Value) (osl:Array (Option Value)),
    fd=PySem.W.fnOf x qual (defArgs st) (defBody st) (defScope st) .none kV doc pm an cdv ct∧K.lookup f=some ⟨oc,od,.func fd,osl⟩∧PySem.W.codeIn K cdv qual=true
  kp:PySem.W.keepIn K (.ref f)=true
section
variable{P:Program}{w:World}{K:PySem.W.Frag}{mg:Str→Option Value}{base:Heap}
theorem Fun.ok {x qual:Str} {st:Stmt} {f:Addr} {fd:FuncData} {N ps:List Str} {k:Nat} {sp:Sp} (F:Fun K x qual st f fd) (S:FnScope N ps (defScope st)) (len:∀vs H Q E,sp vs H Q E→vs.length=ps.length)
    (hbody:∀(cdv:Value) (A:Around) (outer:List Env) (s:Shared) (H:Hp) (vs:List V) (Q:VK) (E:XK),Room k (A.deeper (envOfC qual (defScope st) s.heap.objs.size f cdv))→sp vs H Q E→
      ∃t,PSs (cxOf CX0 P w K mg base N qual (defScope st) f cdv A outer s H E).nox (defBody st) t∧t {nx:=fun _ H' =>Q .non H',rt:=Q} (start N vs) H):FnOk P w K mg base CX0 (k+1) f fd ps sp:=by
  obtain⟨oc,od,kV,doc,pm,an,cdv,ct,osl,rfl,lk,hcd⟩:=F.ex;refine fn_of lk hcd S len fun A outer s H vs Q E hr hsp=> ?_;obtain⟨t,h,q⟩:=hbody cdv A outer s H vs Q E hr hsp;exact⟨t,h.nox,q⟩
theorem Fun.binds {x qual:Str} {st:Stmt} {f:Addr} {fd:FuncData} {ps:List Str} (F:Fun K x qual st f fd)
    (h:∀(kV doc pm:Value) (an:Option Addr) (cdv ct:Value) (us:List Value),us.length=ps.length→bindArgs (PySem.W.fnOf x qual (defArgs st) (defBody st) (defScope st) .none kV doc pm an cdv ct) ⟨us,[]⟩=pure (ps.zip us)):Binds K fd ps []:=by
  obtain⟨oc,od,kV,doc,pm,an,cdv,ct,osl,rfl,lk,hcd⟩:=F.ex;exact .all (h kV doc pm an cdv ct)
theorem fun_mk {x qual:Str} {st:Stmt} {f:Addr} {oc:Value} {od an:Option Addr} {osl:Array (Option Value)} {kV doc pm cdv ct:Value} (l:K.lookup f=some ⟨oc,od,.func (PySem.W.fnOf x qual (defArgs st) (defBody st) (defScope st) .none kV doc pm an cdv ct),osl⟩)
    (c:PySem.W.codeIn K cdv qual=true) (k:PySem.W.keepIn K (.ref f)=true):Fun K x qual st f (PySem.W.fnOf x qual (defArgs st) (defBody st) (defScope st) .none kV doc pm an cdv ct):=⟨⟨oc,od,kV,doc,pm,an,cdv,ct,osl,rfl,l,c⟩,k⟩
end
theorem hu_of{A:Around}{k:Nat}(hr:Room k A):A.units+1<cLine:=Nat.lt_of_le_of_lt (Nat.add_le_add_left (by decide:1≤64) _) hr.units
section
variable{X:Cx}
theorem pv (i:Nat) {x:Str} {pos:Pos} (hN:X.N[i]? =some x:=by rfl) (hv:Vis X.env.scope x:=by first|exact Or.inl rfl|exact Or.inr (Or.inl rfl)|exact Or.inr (Or.inr rfl)) (hd:(x==("__debug__" :Str))=false:=by decide)
    (hcd:(x==("__classdict__" :Str))=false:=by decide):PE X (.Name x pos) (tVar i):=pe_var hN hv hd hcd
end
theorem iteF {A B:Prop} (h:B):if false=true then A else B:=by
  rw[if_neg Bool.false_ne_true];exact h
theorem iteT {A B:Prop} (h:A):if true=true then A else B:=by
  rw[if_pos rfl];exact h
theorem ite2 {c A B:Prop} [Decidable c] (h1:c→A) (h2:¬c→B):if c then A else B:=by
  by_cases h:c
  · rw[if_pos h]
    exact h1 h
  · rw[if_neg h]
    exact h2 h
noncomputable def Same(H H' :Hp):Prop:=∀b o,H b=some o→H' b=some o
theorem Same.refl(H:Hp):Same H H:=fun _ _ h=>h
theorem Same.trans{H H1 H2:Hp}(a:Same H H1)(b:Same H1 H2):Same H H2:=fun c o h=>b c o (a c o h)
theorem Same.free {H H' :Hp} (e:Same H H') {l:Addr} (h:H' l=Option.none):H l=Option.none:=by
  cases q:H l with
  |none=>rfl
  | some o=>
    rw[e l o q] at h;cases h
theorem Same.seq {K:PySem.W.Frag} {H H' :Hp} {a:Addr} {xs:List V} (e:Same H H') (h:SqL K H a xs):SqL K H' a xs:=by
  rcases h with(h|⟨o,h⟩)|h
  · exact .inl (.inl (e _ _ h))
  · exact .inl (.inr ⟨o,e _ _ h⟩)
  · exact .inr h
section
variable{κ:Type}[DecidableEq κ]
end
end L2
namespace L2
open PySem PySem.Spec PyProof.Rows
noncomputable def clOf (env:Env):List (Str×NameKind)→List (Str×Addr)→List (Str×Addr)
  |[],acc=>acc
  |y::r,acc=>clOf env r (if(y.2==NameKind.free)=true then(y.1,(env.cells.lookup y.1).getD 0)::acc else acc)
theorem closure_go {env:Env}:∀(ns:List (Str×NameKind)) (acc:List (Str×Addr)),(∀y∈ns,y.2= .free→∃c,env.cells.lookup y.1=some c)→
    (forIn ns acc fun(x:Str×NameKind) (cs:List (Str×Addr))=>if(x.2==NameKind.free)=true then(cellOf env x.1>>= fun a=>pure (ForInStep.yield ((x.1,a)::cs))) else(pure (ForInStep.yield cs):Sem (ForInStep (List (Str×Addr)))))=pure (clOf env ns acc)
  |[],acc,_=>rfl
  | y ::r,acc,h=>by
    rw[List.forIn_cons];have ih:=fun a=>closure_go r a fun z hz=>h z (List.mem_cons_of_mem _ hz);by_cases hk:(y.2==NameKind.free)=true
    · obtain⟨c,hc⟩:=h y List.mem_cons_self (eq_of_beq hk)
      have e:cellOf env y.1=pure c:=by unfold cellOf;rw[hc]
      rw[if_pos hk,e];show(forIn r ((y.1,c)::acc) _:Sem (List (Str×Addr)))=_;rw[ih];show pure (clOf env r ((y.1,c)::acc))=pure (clOf env r (if(y.2==NameKind.free)=true then(y.1,(env.cells.lookup y.1).getD 0)::acc else acc));rw[if_pos hk,hc];rfl
    · rw[if_neg hk]
      show(forIn r acc _:Sem (List (Str×Addr)))=_;rw[ih];show pure (clOf env r acc)=pure (clOf env r (if(y.2==NameKind.free)=true then(y.1,(env.cells.lookup y.1).getD 0)::acc else acc));rw[if_neg hk]
theorem closure_of {scope:Scope} {env:Env} (h:∀y∈scope.names,y.2= .free→∃c,env.cells.lookup y.1=some c):closureFor scope env=pure (clOf env scope.names []):=by
  have q:=closure_go (env:=env) scope.names [] h;have e:closureFor scope env=((forIn scope.names ([]:List (Str×Addr)) fun(x:Str×NameKind) (cs:List (Str×Addr))=>if(x.2==NameKind.free)=true then(cellOf env x.1>>= fun a=>pure (ForInStep.yield ((x.1,a)::cs))) else(pure (ForInStep.yield cs):Sem (ForInStep (List (Str×Addr)))))>>= fun cs=>pure cs):=rfl;rw[e,q];rfl
theorem clOf_from {env:Env}:∀(ns:List (Str×NameKind)) (acc:List (Str×Addr)) {x:Str} {c:Addr},(∀y∈ns,y.2= .free→∃c,env.cells.lookup y.1=some c)→(clOf env ns acc).lookup x=some c→env.cells.lookup x=some c∨acc.lookup x=some c
  |[],acc,x,c,_,h=> .inr h
  | y :: r,acc,x,c,h,e=>by
    have e:(clOf env r (if(y.2==NameKind.free)=true then(y.1,(env.cells.lookup y.1).getD 0)::acc else acc)).lookup x=some c:=e;rcases clOf_from r _ (fun z hz=>h z (List.mem_cons_of_mem _ hz)) e with q|q
    · exact .inl q
    · by_cases hk:(y.2==NameKind.free)=true
      · rw[if_pos hk,List.lookup_cons] at q
        obtain⟨d,hd⟩:=h y List.mem_cons_self (eq_of_beq hk)
        cases hx:x==y.1 with
        | true=>
          rw[hx] at q;dsimp only at q;rw[hd] at q;have hxy:x=y.1:=eq_of_beq hx;subst hxy;exact .inl (hd.trans q)
        | false=>
          rw[hx] at q;exact .inr q
      · rw[if_neg hk] at q
        exact .inr q
theorem clOf_some {env:Env}:∀(ns:List (Str×NameKind)) (acc:List (Str×Addr)) {x:Str},((x,NameKind.free)∈ns∨∃c,acc.lookup x=some c)→∃c,(clOf env ns acc).lookup x=some c
  | [],acc,x,h=>by
    rcases h with h|h
    · cases h
    · exact h
  | y ::r,acc,x,h=>by
    show ∃c,(clOf env r (if(y.2==NameKind.free)=true then(y.1,(env.cells.lookup y.1).getD 0)::acc else acc)).lookup x=some c;refine clOf_some r _ ?_;rcases h with h|⟨c,hc⟩
    · rcases List.mem_cons.mp h with e|h
      · subst e
        refine .inr ⟨(env.cells.lookup x).getD 0,?_⟩;rw[if_pos (by rfl),List.lookup_cons,beq_self_eq_true]
      · exact .inl h
    · by_cases hk:(y.2==NameKind.free)=true
      · rw[if_pos hk]
        cases hx:x==y.1 with
        |true=>exact .inr ⟨_,by rw[List.lookup_cons,hx]⟩
        |false=>exact .inr ⟨c,by rw[List.lookup_cons,hx];exact hc⟩
      · rw[if_neg hk]
        exact .inr ⟨c,hc⟩
theorem relabel_from {env:Env} {x:Str} {k:NameKind}:∀(ns:List (Str×NameKind)),(ns.map fun(n,k)=>if(k==NameKind.free&&env.scope.kind== .function&&env.kindOf n==some .cell) then(n,NameKind.cell) else(n,k)).lookup x=some k→
    ns.lookup x=some k∨(ns.lookup x=some .free∧k= .cell)
  |[],h=>by cases h
  | (n, j)::r,h=>by
    have ih:=relabel_from (env:=env) (x:=x) (k:=k) r;rw[List.map_cons] at h;dsimp only at h;by_cases hc:(j==NameKind.free&&env.scope.kind== .function&&env.kindOf n==some .cell)=true
    · rw [if_pos hc,List.lookup_cons] at h
      rw[List.lookup_cons]
      cases hx:x==n with
      | true=>
        rw[hx] at h
        have hj:(j==NameKind.free)=true:=by
          rw[Bool.and_eq_true,Bool.and_eq_true] at hc;exact hc.1.1
        have hj:=eq_of_beq hj;subst hj;exact .inr ⟨rfl,(Option.some.inj h).symm⟩
      | false=>
        rw[hx] at h;exact ih h
    · rw[if_neg hc,List.lookup_cons] at h
      rw[List.lookup_cons]
      cases hx:x==n with
      | true=>
        rw[hx] at h;exact .inl h
      | false=>
        rw[hx] at h;exact ih h
theorem relabel_free {env:Env} {x:Str}:∀(ns:List (Str×NameKind)),ns.lookup x=some .free→
    (ns.map fun(n,k)=>if(k==NameKind.free&&env.scope.kind== .function&&env.kindOf n==some .cell) then(n,NameKind.cell) else(n,k)).lookup x=some .cell∨
    (ns.map fun(n,k)=>if(k==NameKind.free&&env.scope.kind== .function&&env.kindOf n==some .cell) then(n,NameKind.cell) else(n,k)).lookup x=some .free
  |[],h=>by cases h
  | (n, j)::r,h=>by
    have ih:=relabel_free (env:=env) (x:=x) r;rw[List.map_cons];dsimp only;rw[List.lookup_cons] at h;by_cases hc:(j==NameKind.free&&env.scope.kind== .function&&env.kindOf n==some .cell)=true
    · rw[if_pos hc,List.lookup_cons]
      cases hx:x==n with
      |true=>exact .inl rfl
      | false=>
        rw[hx] at h;exact ih h
    · rw[if_neg hc,List.lookup_cons]
      cases hx:x==n with
      | true=>
        rw[hx] at h;exact .inr h
      | false=>
        rw[hx] at h;exact ih h
noncomputable def cxComp (X:Cx) (N:List Str) (scope:Scope) (cl:List (Str×Addr)) (C:Addr) (s:Shared) (H:Hp) (fp:List Addr):Cx where
  prog:=X.prog
  w:=X.w
  K:=X.K
  mg:=X.mg
  base:=X.base
  A:=X.A
  N:=N
  s₀:=s
  H₀:=H
  env:=compEnvC scope cl C X.env
  outer:=X.stack
  stack:=X.stack
  ex:=fp
  fn:=fun _=>false
  calm:=X.calm
  pn:=[]
  xe:=fun _ _=>False
noncomputable def cσ(k:Nat)(js:List Nat)(σ:St):St:=List.replicate k none++js.map fun j=>σ.getD j none
structure CScope (X:Cx) (N:List Str) (scope:Scope) (k:Nat) (js:List Nat):Prop where
  kind:scope.kind= .function
  cell:∀y∈scope.names,y.2≠.cell
  loc:∀y∈scope.names,y.2= .local→scope.names.lookup y.1=some .local
  free:∀y∈scope.names,y.2= .free→X.env.kindOf y.1=some .cell∨X.env.kindOf y.1=some .free
  len:N.length=k+js.length
  names:∀(i j:Nat),js[i]? =some j→X.N[j]? =N[k+i]?
  js:∀(i:Nat) (x:Str),N[k+i]? =some x→scope.names.lookup x=some .free
section
variable{X:Cx}{pins:List (Addr×Obj)}{σ:St}{H:Hp}{s:Shared}{N:List Str}{scope:Scope}{k:Nat}{js:List Nat}
theorem CScope.cells(S:CScope X N scope k js)(ok:X.Ok):∀y∈scope.names,y.2= .free→∃c,X.env.cells.lookup y.1=some c:=fun y hy hf=>ok.has _ (S.free y hy hf)
theorem inv_comp {fp:List Addr} {h1:Heap} {t1:Nat} (I:Inv X pins σ H s) (S:CScope X N scope k js) (f:∀b∈fp,FpOk X pins H b) (fo:∀b∈fp,∃o,s.heap.get? b=some o)
    (hn:h1.Ns s.heap.objs.size fun _=>none) (hk:∀b o,s.heap.get? b=some o→h1.get? b=some o):
    Inv (cxComp X N scope (clOf X.env scope.names []) s.heap.objs.size s H fp) [] (cσ k js σ) H {s with heap:=h1,toks:=t1}:=by
  have cs:=S.cells I.ok
  have clE:∀{x:Str} {c:Addr},(clOf X.env scope.names []).lookup x=some c→X.env.cells.lookup x=some c:=fun{x c} e=>by
    rcases clOf_from scope.names [] cs e with q|q
    · exact q
    · cases q
  refine⟨⟨I.ok.mod,S.kind,I.ok.glob,I.ok.blt,Nat.le_refl _,fun x y c e1 e2=>I.ok.inj x y c (clE e1) (clE e2),fun x hx=> ?_,fun x c hf _=>(nomatch hf),I.ok.hd,I.ok.frames,.inl rfl,fun b hb=>⟨?_,fun x c e=> ?_⟩,I.bs,
    Nat.le_trans I.ok.bsz I.sz,fun b o e hb=> ?_,fun b hb z=> ?_,I.stack,I.stkFree⟩,rfl,I.bare,Un.kept hk,⟨_,hn,fun i x v e1 e2 e3=> ?_⟩,fun x c e=> ?_,I.hok.fresh (Nat.le_refl _),fun x c e=>I.freeC x c (clE e),fun p hp=> ?_,I.hok.kept hk,?_⟩
  · have hx:(relabel scope X.env).names.lookup x=some .cell∨(relabel scope X.env).names.lookup x=some .free:=hx
    have fr:scope.names.lookup x=some .free:=by
      rcases hx with q|q
      · rcases relabel_from scope.names q with z|z
        · exact absurd rfl (S.cell _ (PySem.mem_of_lookup z))
        · exact z.1
      · rcases relabel_from scope.names q with z|z
        · exact z
        · exact z.1
    exact clOf_some scope.names [] (.inl (PySem.mem_of_lookup fr))
  · obtain⟨o,ho⟩:=fo b hb
    exact Nat.ne_of_lt (Heap.lt_size ho)
  · exact(f b hb).2.2.2.2.1 x c (clE e)
  · rcases(f b hb).2.2.2.1 with z|z
    · exact I.ok.noex b o e z
    · exact absurd (Nat.lt_of_lt_of_le (Nat.lt_of_lt_of_le (Heap.lt_size e) I.ok.bsz) z) (Nat.lt_irrefl _)
  · rcases List.mem_cons.mp (I.stkSub b z) with q|q
    · exact(f b hb).2.1 q
    · exact(f b hb).2.2.1 q
  · have e1:N[i]? =some x:=e1
    have hi:k≤i:=by
      by_cases hi:i<k
      · unfold cσ at e2
        rw[List.getElem?_append_left (by rw[List.length_replicate];exact hi),List.getElem?_replicate,if_pos hi] at e2;cases e2
      · omega
    obtain⟨d,rfl⟩:∃d,i=k+d:=⟨i - k,by omega⟩;unfold cσ at e2;rw[List.getElem?_append_right (by rw[List.length_replicate];omega),List.length_replicate,List.getElem?_map] at e2;have ed:k+d - k=d:=by omega
    rw[ed] at e2
    cases ej:js[d]? with
    |none=>rw[ej] at e2;cases e2
    | some j=>
      rw[ej] at e2;have e2:σ.getD j none=some v:=Option.some.inj e2
      have e2' :σ[j]? =some (some v):=by
        rw[List.getD_eq_getElem?_getD] at e2
        cases q:σ[j]? with
        |none=>rw[q] at e2;cases e2
        |some z=>rw[q] at e2;rw[show z=some v from e2]
      have en:X.N[j]? =some x:=(S.names d j ej).trans e1;have fr:=S.js d x e1;have kx:=S.free _ (PySem.mem_of_lookup fr) rfl;obtain⟨m,_,hl⟩:=I.loc;obtain⟨u,r,l⟩:=hl j x v en e2' (by rcases kx with q|q;exact .inr (.inl q);exact .inr (.inr q));refine⟨u,r,.inr ⟨?_,?_⟩⟩
      · exact relabel_free (env:=X.env) scope.names fr
      · rcases l with⟨l,_⟩|⟨_,c,ec,ic⟩
        · rcases kx with q|q
          · dsimp only at q;rw[q] at l;cases l
          · dsimp only at q;rw[q] at l;cases l
        · obtain⟨c',e'⟩:=clOf_some (env:=X.env) scope.names [] (.inl (PySem.mem_of_lookup fr))
          have e'' :=clE e';rw[ec] at e'';cases e'';exact⟨c,e',ic.keeps hk⟩
  · obtain⟨v,q⟩:=I.cell x c (clE e)
    exact⟨v,q.keeps hk⟩
  · have hp:p∈([]:List (Addr×Obj)):=hp
    cases hp
  · show(cσ k js σ).length=N.length
    unfold cσ;rw[List.length_append,List.length_replicate,List.length_map,S.len]
end
noncomputable def SubS(σ σ' :St):Prop:=∀(i:Nat) v,σ[i]? =some (some v)→σ'[i]? =some (some v)
theorem SubS.refl(σ:St):SubS σ σ:=fun _ _ h=>h
theorem SubS.own {σ σ' :St} {k i:Nat} {js:List Nat} {v:Option V} (h:SubS (cσ k js σ) σ') (hi:i<k):SubS (cσ k js σ) (σ'.set i v):=fun j u e=>by
  have hj:j≠i:=fun z=>by
    subst z;unfold cσ at e;rw[List.getElem?_append_left (by rw[List.length_replicate];exact hi),List.getElem?_replicate,if_pos hi] at e;cases e
  rw[List.getElem?_set_ne (Ne.symm hj)];exact h j u e
noncomputable def CompGoal (J:It) (k:Nat) (js:List Nat) (g:TG) (tt:TT) (te:TE) (σ:St) (H1:Hp) (Q:VK):Prop:=∀p,H1 p=none→∃W:Nat→Nat→List V→Hp→Prop,(∃m,W 0 m [] (upd H1 p (.lst [])))∧
  ∀ i m ys H,W i m ys H→H p=some (.lst ys)∧((J.stop i H∧Q (.ref p) H)∨(J.go i H∧ys.length<sizeLine∧∀x H',J.yld i H x H'→g x (cσ k js σ) H' fun σ2 H2=>SubS (cσ k js σ) σ2∧tt σ2 H2 fun b H3=>
    if b=true then te σ2 H3 fun y H4=>H4 p=some (.lst ys)∧∃m',m' <m∧W (i+1) m' (ys++[y]) (upd H4 p (.lst (ys++[y]))) else ∃m',m' <m∧W (i+1) m' ys H3))
noncomputable def tComp(wi:TI)(k:Nat)(js:List Nat)(g:TG)(tt:TT)(te:TE):TE:=fun σ H Q=>wi σ H fun J H1=>CompGoal J k js g tt te σ H1 Q
noncomputable def tYes:TT:=fun _ H Q=>Q true H
noncomputable def PIfs (Y:Cx) (ifs:List Expr) (t:TT):Prop:=
  ∀ (pins:List (Addr×Obj)) (s:Shared) (σ:St) (H:Hp) (Q:Bool→Hp→Prop),Inv Y pins σ H s→t σ H Q→
    wpAny (model Y.prog Y.w) Y.A (forIn ifs true fun c r=>if r=true then do let ok←isTrue c Y.env (eval c Y.env);pure (ForInStep.yield ok) else pure (ForInStep.yield r)) (TP Y pins σ Q) Y.xe s
theorem pif0{Y:Cx}:PIfs Y [] tYes:=fun _ _ _ H _ I h=>wpAny_tests_nil ⟨H,I,h⟩
section
variable{prog:Program}{w:World}{A:Around}{R:Result→Shared→Prop}{s:Shared}
theorem compLoop_any {elt target iter:Expr} {ifs:List Expr} {scope:Scope} {pos:Pos} {it acc:Value} {env:Env} (I:Nat→Shared→Prop)
    (turn : ∀ n s,I n s→wpAny (model prog w) A (pyNext it) (fun r s₁=>match r with
      |none=>R (.ok .next) s₁
      | some v=>wpAny (model prog w) A (letOwnedTupleGo target it v) (fun _ s₀=>wpAny (model prog w) A (assign target env v) (fun _ s₂=>
          wpAny (model prog w) A (forIn ifs true fun c r=>if r=true then do let ok←isTrue c env (eval c env);pure (ForInStep.yield ok) else pure (ForInStep.yield r)) (fun ok s₃=>
            if ok=true then wpAny (model prog w) A (eval elt env) (fun x s₄=>
              wpAny (model prog w) A (call (.builtin "list.append") [acc,x]) (fun _ s₅=>∃m,m<n∧I m s₅) (fun _ _=>False) s₄) (fun _ _=>False) s₃
            else ∃m,m<n∧I m s₃) (fun _ _=>False) s₂) (fun _ _=>False) s₀) (fun _ _=>False) s₁) (fun _ _=>False) s)
    (n:Nat) (h:I n s):
    codeAny (model prog w) A (.compLoop (.ListComp elt [⟨target,iter,ifs,0⟩] scope pos) 0 it acc env) R s:=by
  refine codeAny_loop rfl I (fun n s hI=> ?_) n h;show wpAny _ A ((compTurn (.ListComp elt [⟨target,iter,ifs,0⟩] scope pos) 0 it acc env).onRaise (fun x=>do noteFrame x env;theTreesLotGoes x)) _ _ s;refine wpAny_noted ?_;rw[compTurn_list];refine wpAny_bind (wpAny_standAt (wpAny_bind (wpAny_mono (turn n s hI) (fun r s₁ h₁=> ?_) fun _ _ h' =>h'.elim)))
  cases r with
  |none=>exact wpAny_pure h₁
  | some v=>
    refine wpAny_bind (wpAny_mono h₁ (fun _ s₀ h₀=> ?_) fun _ _ h' =>h'.elim);refine wpAny_bind (wpAny_mono h₀ (fun _ s₂ h₂=>wpAny_bind (wpAny_mono h₂ (fun ok s₃ h₃=> ?_) fun _ _ h' =>h'.elim)) fun _ _ h' =>h'.elim)
    cases ok with
    |false=>exact wpAny_pure ⟨rfl,h₃⟩
    | true=>
      exact wpAny_bind (wpAny_bind (wpAny_mono h₃ (fun x s₄ h₄=>wpAny_bind (wpAny_mono h₄ (fun _ s₅ h₅=>wpAny_pure (wpAny_pure ⟨rfl,h₅⟩)) fun _ _ h' =>h'.elim)) fun _ _ h' =>h'.elim))
end
section
variable{X:Cx}{tg iter elt:Expr}{ifs:List Expr}{scope:Scope}{pos:Pos}{N:List Str}{k:Nat}{js:List Nat}{wi:TI}{g:TG}{tt:TT}{te:TE}
theorem comp_core {pins:List (Addr×Obj)} {s2:Shared} {σ:St} {H2:Hp} {it:Addr} {fp:List Addr} {tn:Nat→Heap→Prop} {J:It} {Q:VK} {RR:Value→Addr→Result→Shared→Prop} {E:Value→Shared→Prop} (hc:X.calm=true) (S:CScope X N scope k js)
    (hb:∀(cl:List (Str×Addr)) (C:Addr) (s:Shared) (H:Hp) (fp:List Addr),PG (cxComp X N scope cl C s H fp) tg g∧PIfs (cxComp X N scope cl C s H fp) ifs tt∧PE (cxComp X N scope cl C s H fp) elt te)
    (I2:Inv X pins σ H2 s2) (T:Turn X.prog X.w X.K tg J fp it tn) (st2:tn 0 s2.heap) (f2:∀b∈fp,FpOk X pins H2 b)
    (h :∀p,H2 p=none→∃W:Nat→Nat→List V→Hp→Prop,(∃m,W 0 m [] (upd H2 p (.lst [])))∧
      ∀ i m ys H,W i m ys H→H p=some (.lst ys)∧((J.stop i H∧Q (.ref p) H)∨(J.go i H∧ys.length<sizeLine∧∀x H',J.yld i H x H'→g x (cσ k js σ) H' fun σ2 H2=>SubS (cσ k js σ) σ2∧tt σ2 H2 fun b H3=>
        if b=true then te σ2 H3 fun y H4=>H4 p=some (.lst ys)∧∃m',m' <m∧W (i+1) m' (ys++[y]) (upd H4 p (.lst (ys++[y]))) else ∃m',m' <m∧W (i+1) m' ys H3)))
    (hR:∀(p C:Addr) (s' :Shared) (H' :Hp) (m:Str→Option Value),Inv X pins σ H' s'→Q (.ref p) H'→s'.heap.Ns C m→H' C=none→C≠X.env.locals→X.s₀.heap.objs.size≤C→(∀x c,X.env.cells.lookup x=some c→c≠C)→(∀q∈X.pn++pins,q.1≠C)→RR (.ref p) C (.ok .next) s'):
    wpAny (model X.prog X.w) X.A (newList []) (fun acc s₃=>wpAny (model X.prog X.w) X.A (newFunctionEnv scope X.env.globals (clOf X.env scope.names []) [] X.env.qual none .none (some X.env)) (fun cenv s₄=>
      codeAny (model X.prog X.w) X.A (.compStart (.ListComp elt [⟨tg,iter,ifs,0⟩] scope pos) 0 (.ref it) acc {cenv with scope:=relabel scope X.env}) (RR acc cenv.locals) s₄) E s₃) E s2:=by
  have hf:H2 s2.heap.objs.size=none:=I2.hok.fresh (Nat.le_refl _);obtain⟨W,⟨m0,w0⟩,turn⟩:=h s2.heap.objs.size hf;have I3:Inv X pins σ (upd H2 s2.heap.objs.size (.lst [])) {s2 with heap:=s2.heap.push {cls:= .type "list",dict:=none,data:= .seq ([]:List Value).toArray},toks:=s2.toks}:=I2.lnew (ys:=[]) .nil (Nat.zero_le _);refine wpAny_newObj_type (wpAny_newFunctionEnv S.cell (by intro y hy;simp at hy) (fun h₁ hns₁ hsb₁=> ?_) S.kind);dsimp only at hns₁ hsb₁ ⊢;generalize hp:s2.heap.objs.size=p at*
  generalize hH3:s2.heap.push {cls:= .type "list",dict:=none,data:= .seq ([]:List Value).toArray}=g3 at hns₁ hsb₁ I3 ⊢;have k23:∀b o,s2.heap.get? b=some o→g3.get? b=some o:=fun b o e=>hH3▸Heap.get?_push_of_some _ e;have k34:∀b o,g3.get? b=some o→h₁.get? b=some o:=fun b o e=>hsb₁.extBut b o (Nat.ne_of_lt (Heap.lt_size e)) (Heap.get?_push_of_some _ e)
  have npf:∀b∈fp,b≠p:=fun b hb z=>by
    obtain⟨o,ho,_⟩:=T.obj _ _ st2 b hb;have:=Heap.lt_size ho;rw[hp,z] at this;exact Nat.lt_irrefl _ this
  have f3:∀b∈fp,FpOk X pins (upd H2 p (.lst [])) b:=fun b hb=>⟨by rw[upd_ne (npf b hb)];exact(f2 b hb).1,(f2 b hb).2⟩
  have fo3:∀b∈fp,∃o,g3.get? b=some o:=fun b hb=>by
    obtain⟨o,ho,_⟩:=T.obj _ _ st2 b hb;exact⟨o,k23 b o ho⟩
  have J0:=inv_comp (s:={s2 with heap:=g3,toks:=s2.toks}) (h1:=h₁) (t1:=s2.toks+([]:List (Str×Value)).length) I3 S f3 fo3 hns₁ k34;have st4:tn 0 h₁:=T.keep _ _ _ st2 fun b hb o e=>k34 b o (k23 b o e);obtain⟨hG,hT,hE⟩:=hb (clOf X.env scope.names []) g3.objs.size {s2 with heap:=g3,toks:=s2.toks} (upd H2 p (.lst [])) fp
  generalize hY:cxComp X N scope (clOf X.env scope.names []) g3.objs.size {s2 with heap:=g3,toks:=s2.toks} (upd H2 p (.lst [])) fp=Y at*
  have yp:Y.prog=X.prog:=by rw[←hY];rfl
  have yw:Y.w=X.w:=by rw[←hY];rfl
  have yK:Y.K=X.K:=by rw[←hY];rfl
  have yA:Y.A=X.A:=by rw[←hY];rfl
  have yc:Y.calm=true:=by rw[←hY];exact hc
  have yx:Y.xe=fun _ _=>False:=by rw[←hY];rfl
  have ye:Y.env=compEnvC scope (clOf X.env scope.names []) g3.objs.size X.env:=by rw[←hY];rfl
  have ypn:Y.pn=[]:=by rw[←hY];rfl
  have yex:Y.ex=fp:=by rw[←hY];rfl
  have yfs:Y.fs=frs X.stack:=by rw[←hY];rfl
  have clE:∀{x:Str} {c:Addr},(clOf X.env scope.names []).lookup x=some c→X.env.cells.lookup x=some c:=fun{x c} e=>by
    rcases clOf_from scope.names [] (S.cells I2.ok) e with q|q
    · exact q
    · cases q
  have stat:∀{H' :Hp},(∀b∈fp,H' b=none)→∀b∈fp,FpOk Y [] H' b:=fun hn b hb=>by
    refine⟨hn b hb,?_,?_,?_,fun x c e=> ?_,fun q hq=> ?_⟩
    · rw[ye]
      obtain⟨o,ho⟩:=fo3 b hb;exact Nat.ne_of_lt (Heap.lt_size ho)
    · rw[yfs]
      intro z;rcases List.mem_cons.mp (I2.stkSub b z) with q|q
      · exact(f2 b hb).2.1 q
      · exact(f2 b hb).2.2.1 q
    · rw[yex];exact .inl hb
    · rw[ye] at e
      exact(f2 b hb).2.2.2.2.1 x c (clE e)
    · rw[ypn] at hq;cases hq
  have endH:∀{σ' :St} {H' :Hp} {s' :Shared},Inv Y [] σ' H' s'→Q (.ref p) H'→RR (.ref p) g3.objs.size (.ok .next) s' :=fun{σ' H' s'} I' q=>by
    have u:=I'.base;have ho:=I'.os;rw[yfs,yex] at u;subst hY;have IX:Inv X pins σ H' s' :=I3.call' (ch:=fp) ho u I'.hok I'.bare fun b hb=>⟨(f2 b hb).2.2.2.1,(f2 b hb).2.1,(f2 b hb).2.2.2.2.1,(f2 b hb).2.2.2.2.2⟩;obtain⟨m,hn,_⟩:=I'.loc;refine hR p g3.objs.size s' H' m IX q hn I'.free (fun z=> ?_) (Nat.le_trans I3.sz (Nat.le_refl _)) (fun x c e z=> ?_) fun r hr z=> ?_
    · exact absurd (z▸I3.lt) (Nat.lt_irrefl _)
    · obtain⟨v,o,ho,_⟩:=I3.cell x c e
      exact absurd (z▸Heap.lt_size ho) (Nat.lt_irrefl _)
    · obtain⟨ho,_⟩:=I3.pin r hr
      exact absurd (z▸Heap.lt_size ho) (Nat.lt_irrefl _)
  have loop:codeAny (model X.prog X.w) X.A (.compLoop (.ListComp elt [⟨tg,iter,ifs,0⟩] scope pos) 0 (.ref it) (.ref p) (compEnvC scope (clOf X.env scope.names []) g3.objs.size X.env)) (RR (.ref p) g3.objs.size) {s2 with heap:=h₁,toks:=s2.toks+([]:List (Str×Value)).length}:=by
    refine compLoop_any (fun n s' =>∃i ys H',Inv Y [] (cσ k js σ) H' s'∧tn i s'.heap∧(∀b∈fp,H' b=none)∧W i n ys H') ?_ m0 ⟨0,[],_,J0,st4,fun b hb=>(f3 b hb).1,w0⟩
    rintro n s5 ⟨i,ys,H5,I5,st5,fr5,w5⟩
    obtain⟨hys,w5⟩:=turn i n ys H5 w5;rw[←yp,←yw,←yA,←ye];have T' :Turn Y.prog Y.w Y.K tg J fp it tn:=by rw[yp,yw,yK];exact T
    rcases w5 with⟨stop,q⟩|⟨go,hz,step⟩
    · refine thn (T'.done Y rfl rfl rfl yc i [] s5 _ H5 _ I5 (stat fr5) st5 stop) fun r s6 ⟨hr,I6⟩=> ?_
      subst hr;exact endH I6 q
    · refine thn (T'.item Y rfl rfl rfl yc i [] s5 _ H5 _ I5 (stat fr5) st5 go) fun r s6 ⟨u,hr,h6⟩=> ?_
      subst hr;refine thn h6 fun _ s7 ⟨x,H7,I7,r7,y7,st7,fr7⟩=> ?_;have I7' :=I7.pinned (stat fr7) (T.obj _ _ st7)
      have fin:∀{σ8:St} {H8:Hp} {s8:Shared},SubS (cσ k js σ) σ8→Inv Y ([]++pinsAt fp s7.heap) σ8 H8 s8→Inv Y [] (cσ k js σ) H8 s8∧tn (i+1) s8.heap∧∀b∈fp,H8 b=none:=fun{σ8 H8 s8} sb I8=>by
        refine⟨?_,T.keep _ _ _ st7 fun b hb o e=>(I8.pin (b,o) (List.mem_append_right _ (List.mem_append_right _ (mem_pinsAt hb e)))).1,fun b hb=> ?_⟩
        · exact(I8.unpinned (pins:=[])).weak (by rw[I5.len,I8.len]) sb
        · obtain⟨o,e,d⟩:=T.obj _ _ st7 b hb
          exact(I8.pin (b,o) (List.mem_append_right _ (List.mem_append_right _ (mem_pinsAt hb e)))).2.1
      have wE:∀{α:Type} {t:Sem α} {P:α→Shared→Prop} {s' :Shared},wpAny (model Y.prog Y.w) Y.A t P Y.xe s'→wpAny (model Y.prog Y.w) Y.A t P (fun _ _=>False) s' :=fun{α t P s'} h=>by rw[yx] at h;exact h
      refine thn (wE (hG _ s7 _ H7 x u _ I7' r7 (step x H7 y7))) fun _ s8 ⟨σ8,H8,I8,sb,q8⟩=> ?_;refine thn (wE (hT _ s8 σ8 H8 _ I8 q8)) fun b s9 ⟨H9,I9,q9⟩=> ?_
      cases b with
      | false=>
        have q9:∃m',m' <n∧W (i+1) m' ys H9:=q9;obtain⟨m',hm,w9⟩:=q9;obtain⟨a1,a2,a3⟩:=fin sb I9;exact⟨m',hm,i+1,ys,H9,a1,a2,a3,w9⟩
      | true=>
        refine thn (wE (hE _ s9 σ8 H9 _ I9 q9)) fun y s10 ⟨v,H10,I10,r10,e10,m',hm,w10⟩=> ?_;refine thn (wE (mt_append _ s10 σ8 H10 (.ref p) [v] (.ref p) [y] (fun _ H11=>∃m',m' <n∧W (i+1) m' (ys++[v]) H11) I10 rfl (.cons r10 .nil) ⟨p,ys,v,rfl,rfl,e10,hz,m',hm,w10⟩)) fun z s11 ⟨_,H11,I11,_,m2,hm2,w11⟩=> ?_;obtain⟨a1,a2,a3⟩:=fin sb I11;exact⟨m2,hm2,i+1,ys++[v],H11,a1,a2,a3,w11⟩
  refine codeAny_compStart_list loop ?_;exact T.self _ _ _ _ _ st4 loop
theorem pe_comp (hc:X.calm=true) (S:CScope X N scope k js) (hi:PI X tg iter wi)
    (hb:∀(cl:List (Str×Addr)) (C:Addr) (s:Shared) (H:Hp) (fp:List Addr),PG (cxComp X N scope cl C s H fp) tg g∧PIfs (cxComp X N scope cl C s H fp) ifs tt∧PE (cxComp X N scope cl C s H fp) elt te)
    (hs:∀x,foldedSetIterable iter X.env x=pure x:=by intro _;rfl):PE X (.ListComp elt [⟨tg,iter,ifs,0⟩] scope pos) (tComp wi k js g tt te):=by
  intro pins s σ H Q I h;rw[eval_ListComp];refine wpAny_comprehension_free (use:=none) rfl hs (closure_of (S.cells I.ok)) S.kind S.loc (thn (hi pins s σ H _ I h) fun v s1 h1=>thn h1 fun itv s2 h2=> ?_);obtain⟨it,fp,tn,J,H2,e,I2,T,st2,f2,q⟩:=h2;subst e;refine comp_core (RR:=fun acc C=>compPost (model X.prog X.w) X.A X.xe none (EP X pins σ Q) acc C) hc S hb I2 T st2 f2 q ?_;intro p C s' H' m IX q' hn hC hL h0 hcl hpn;refine⟨m,hn,fun h' sb=>⟨.ref p,H',?_,rfl,q'⟩⟩;exact IX.turned (t' :=s'.toks) (fun b o hb e=>(sb.2 b hb).trans e) hC (Ne.symm hL).symm (.inr h0) hcl hpn
theorem ps_setC {i:Nat} {x:Str} {pos' cpos:Pos} (hN:X.N.Nodup) (hi' :X.N[i]? =some x) (hx:Loc X.env.scope x) (hc:X.calm=true) (S:CScope X N scope k js) (hi:PI X tg iter wi)
    (hb:∀(cl:List (Str×Addr)) (C:Addr) (s:Shared) (H:Hp) (fp:List Addr),PG (cxComp X N scope cl C s H fp) tg g∧PIfs (cxComp X N scope cl C s H fp) ifs tt∧PE (cxComp X N scope cl C s H fp) elt te)
    (hsw:swapsWith (.ListComp elt [⟨tg,iter,ifs,0⟩] scope cpos) (some (.Name x pos')) pos.line X.env=pure true:=by rfl)
    (hs:∀x,foldedSetIterable iter X.env x=pure x:=by intro _;rfl) (hf:X.fn x=true∨X.env.scope.names.lookup x=some .local:=by first|exact .inl rfl|exact .inr rfl|assumption):
    PS X (.Assign [.Name x pos'] (.ListComp elt [⟨tg,iter,ifs,0⟩] scope cpos) pos) (tAsg (tComp wi k js g tt te) (gName i)):=by
  intro pins s σ H D I h;rw[exec_Assign_Name_used _ _ _ _ hsw];refine wpAny_bind (wpAny_standAt (wpAny_bind ?_));show wpAny _ X.A (do let _←comprehension (.ListComp elt [⟨tg,iter,ifs,0⟩] scope cpos) scope X.env _ (newList []) false (eval iter X.env) (some (assign (.Name x pos') X.env))) _ _ s
  refine wpAny_bind (wpAny_mono (wpAny_comprehension_free (use:=some (assign (.Name x pos') X.env)) (Q:=fun _ s' =>SP X pins D .next s') rfl hs (closure_of (S.cells I.ok)) S.kind S.loc (thn (hi pins s σ H _ I h) fun v s1 h1=>thn h1 fun itv s2 h2=> ?_))
    (fun _ s' hq=>wpAny_pure (wpAny_pure hq)) fun _ _ e=>e)
  obtain⟨it,fp,tn,J,H2,e,I2,T,st2,f2,q⟩:=h2;subst e;refine comp_core (Q:=fun v H' =>D.nx (σ.set i (some v)) H') (RR:=fun acc C=>compPost (model X.prog X.w) X.A X.xe (some (assign (.Name x pos') X.env)) (fun _ s' =>SP X pins D .next s') acc C) hc S hb I2 T st2 f2 q ?_;intro p C s' H' m IX q' hn hC hL h0 hcl hpn;show wpAny _ X.A (assign (.Name x pos') X.env (.ref p)) _ _ s';refine wpAny_assign_Name (store_ok2 (v:= .ref p) IX hN hi' hx rfl (fun s'' I'' ⟨a,sb,ha⟩=> ?_) hf)
  have hCa:C≠a:=by
    rcases ha with z|z
    · rw[z];exact hL
    · exact fun e=>hcl x a z e.symm
  refine⟨m,hn.sameBut sb hCa,fun h' sb' =>⟨σ.set i (some (.ref p)),H',?_,q'⟩⟩;exact I''.turned (t' :=s''.toks) (fun b o hb e=>(sb'.2 b hb).trans e) hC hL (.inr h0) hcl hpn
end
noncomputable def cOk (osc:Scope) (ON N:List Str) (scope:Scope) (k:Nat) (js:List Nat):Bool:=
  (scope.kind== .function)&&scope.names.all (fun y=> !(y.2== .cell))&&scope.names.all (fun y=> !(y.2== .local)||scope.names.lookup y.1==some .local)&&
  scope.names.all (fun y=> !(y.2== .free)||(osc.names.lookup y.1==some .cell||osc.names.lookup y.1==some .free))&&(N.length==k+js.length)&&
  (List.range js.length).all (fun i=>ON[js.getD i 0]? ==N[k+i]?)&&(N.drop k).all fun x=>scope.names.lookup x==some .free
theorem cscope_of {X:Cx} {N:List Str} {scope:Scope} {k:Nat} {js:List Nat} (h:cOk X.env.scope X.N N scope k js=true):CScope X N scope k js:=by
  unfold cOk at h;simp only[Bool.and_eq_true] at h;obtain⟨⟨⟨⟨⟨⟨h1,h2⟩,h3⟩,h4⟩,h5⟩,h6⟩,h7⟩:=h;have h5:=eq_of_beq h5;rw[List.all_eq_true] at h2 h3 h4 h6 h7;refine⟨eq_of_beq h1,fun y hy e=> ?_,fun y hy e=> ?_,fun y hy e=> ?_,h5,fun i j e=> ?_,fun i x e=> ?_⟩
  · have q:=h2 y hy
    rw[e] at q;exact absurd q (by decide)
  · have q:=h3 y hy
    rw[e] at q;exact eq_of_beq (by simpa using q)
  · have q:=h4 y hy
    rw[e] at q;have q:(X.env.scope.names.lookup y.1==some .cell||X.env.scope.names.lookup y.1==some .free)=true:=by simpa using q
    rw[Bool.or_eq_true] at q;rcases q with q|q
    · exact .inl (eq_of_beq q)
    · exact .inr (eq_of_beq q)
  · have hi:i<js.length:=(List.getElem?_eq_some_iff.mp e).1
    have q:=eq_of_beq (h6 i (List.mem_range.mpr hi));rw[List.getD_eq_getElem?_getD,e] at q;exact q
  · refine eq_of_beq (h7 x ?_)
    rw[List.mem_iff_getElem?];exact⟨i,by rw[List.getElem?_drop];exact e⟩
end L2
namespace L2
open PySem PySem.Spec PyProof.Rows
section
variable{X:Cx}
end
section
variable{X:Cx}{tg:Expr}
end
section
variable{X:Cx}
noncomputable def eqVs:List V→List V→Bool
  |[],[]=>true
  |x::xs,y::ys=>eqV x y&&eqVs xs ys
  |_,_=>false
theorem eqVs_range:∀(xs ys:List V),xs.length=ys.length→(List.range xs.length).all (fun j=>eqV (xs.getD j .non) (ys.getD j .non))=eqVs xs ys
  |[],[],_=>rfl
  | x::xs,y::ys,h=>by
    rw[List.length_cons,List.range_succ_eq_map,List.all_cons,List.all_map];have h' :xs.length=ys.length:=by simpa using h
    rw[←(show(eqV x y&&eqVs xs ys)=eqVs (x::xs) (y::ys) from rfl),←eqVs_range xs ys h'];rfl
  |[],_::_,h=>by simp at h
  |_::_,[],h=>by simp at h
noncomputable def rEqL (neg:Bool):R2:=fun x y H Q=>∃a b xs ys,x= .ref a∧y= .ref b∧H a=some (.lst xs)∧H b=some (.lst ys)∧
  ((xs.length≠ys.length∧Q (.bl neg) H)∨(xs.length=ys.length∧xs.all flatV=true∧ys.all flatV=true∧Q (.bl (if neg then !eqVs xs ys else eqVs xs ys)) H))
theorem flat_get {xs:List V} {us:List Value} {j:Nat} (r:Vals xs us) (f:xs.all flatV=true) (hj:j<us.length):∃x,xs[j]? =some x∧RelV x us[j]∧flatV x=true:=by
  have hl:=r.length;have hx:xs[j]? =some xs[j]:=by simp[hl,hj]
  obtain⟨u,hu,ru⟩:=r.get hx;have e:us[j]? =some us[j]:=by simp[hj]
  rw[e] at hu;cases hu;exact⟨_,hx,ru,List.all_eq_true.mp f _ (List.getElem_mem _)⟩
theorem op_eq_list (hu:X.A.units<cLine):OpR X (compareOp .Eq) (rEqL false):=by
  intro pins s σ H x y v u Q I rx ry h;obtain⟨a,b,xs,ys,rfl,rfl,ha,hb,h⟩:=h;cases rx;cases ry;obtain⟨its,r,pl,hz⟩:=I.list (SqL.of ha);obtain⟨its2,r2,pl2,hz2⟩:=I.list (SqL.of hb);have hl:=r.length;have hl2:=r2.length;rcases h with⟨hne,q⟩|⟨he,f1,f2,q⟩
  · exact SeqAt.eq_list_lengthsAt pl.isList pl2.isList (by simp;omega) hu ⟨.bl false,H,I,rfl,q⟩
  · refine SeqAt.eq_listAt (e:=fun j=>eqV (xs.getD j .non) (ys.getD j .non)) pl.isList pl2.isList (by simp;omega) hu (fun j h1 h2=> ?_) ⟨.bl (eqVs xs ys),H,I,?_,q⟩
    · have h1:j<its.length:=by simpa using h1
      have h2:j<its2.length:=by simpa using h2
      obtain⟨x,e1,rx,fx⟩:=flat_get r f1 h1;obtain⟨y,e2,ry,fy⟩:=flat_get r2 f2 h2;have g1:xs.getD j .non=x:=by rw[List.getD_eq_getElem?_getD,e1];rfl
      have g2:ys.getD j .non=y:=by rw[List.getD_eq_getElem?_getD,e2];rfl
      show SeqAt.EqAt _ _ its.toArray[j] its2.toArray[j] (eqV (xs.getD j .non) (ys.getD j .non));rw[g1,g2];exact eqAt_V rx ry fx fy
    · show Value.bool _=Value.bool _
      rw[←eqVs_range xs ys he,List.size_toArray,hl]
end
end L2
namespace L2
open PySem PySem.Spec PyProof.Rows
theorem Same.upd {H:Hp} {p:Addr} {o:HO} (h:H p=none):Same H (upd H p o):=fun b u e=>by
  rw[upd_ne (ne_of_none e h)];exact e
structure Feeds (J:It) (H:Hp) (xs:List V):Prop where
  go:∀i H',Same H H'→i<xs.length→J.go i H'
  yld:∀i H' x H'',Same H H'→J.yld i H' x H''→H'' =H'∧(i<xs.length→xs[i]? =some x)
  stop:∀i H',Same H H'→xs.length≤i→J.stop i H'
theorem feeds_list {K:PySem.W.Frag} {a:Addr} {xs:List V} {H:Hp} (h:SqL K H a xs):Feeds (Itl K a) H xs where
  go:=fun i H' s hi=>⟨xs,xs[i],s.seq h,by simp[hi]⟩
  yld:=fun i H' x H'' s q=>⟨q.1,fun _=>q.2 xs (s.seq h)⟩
  stop:=fun i H' s hi=>⟨xs,s.seq h,hi⟩
theorem feeds_range (lo:Int) (n:Nat) (H:Hp):Feeds (Itr lo n) H ((List.range n).map fun(i:Nat)=>V.int (lo+(i:Int))) where
  go:=fun i H' _ h=>by
    show i<n;simpa using h
  yld:=fun i H' x H'' _ q=>by
    obtain⟨e,rfl⟩:=q;refine⟨e,fun h=> ?_⟩;have h:i<n:=by simpa using h
    simp[List.getElem?_map,List.getElem?_range h]
  stop:=fun i H' _ h=>by
    show n≤i;simpa using h
theorem comp_pure {J:It} {xs:List V} {k:Nat} {js:List Nat} {g:TG} {tt:TT} {te:TE} {σ:St} {H:Hp} {Q:VK} (pb:V→Bool) (fe:V→V) (F:Feeds J H xs) (hlen:xs.length≤sizeLine)
    (hbody:∀(i:Nat) (x:V) (H' :Hp) (C1:V→Hp→Prop) (C0:Hp→Prop),xs[i]? =some x→Same H H'→(pb x=true→C1 (fe x) H')→(pb x=false→C0 H')→
      g x (cσ k js σ) H' fun σ2 H2=>SubS (cσ k js σ) σ2∧tt σ2 H2 fun b H3=>if b=true then te σ2 H3 C1 else C0 H3)
    (hq:∀p,H p=none→Q (.ref p) (upd H p (.lst ((xs.filter pb).map fe)))):
    CompGoal J k js g tt te σ H Q:=by
  intro p hp;refine⟨fun i m ys H' =>m=xs.length - i∧i≤xs.length∧ys=((xs.take i).filter pb).map fe∧H' =upd H p (.lst ys),⟨xs.length,rfl,Nat.zero_le _,rfl,rfl⟩,?_⟩
  rintro i m ys H' ⟨rfl,hi,rfl,rfl⟩
  refine⟨upd_same,?_⟩;have hs:Same H (upd H p (.lst (((xs.take i).filter pb).map fe))):=Same.upd hp;by_cases hlt:i<xs.length
  · refine .inr ⟨F.go i _ hs hlt,?_,fun x H'' hy=> ?_⟩
    · rw[List.length_map]
      have h1:((xs.take i).filter pb).length≤(xs.take i).length:=List.length_filter_le _ _;rw[List.length_take] at h1;omega
    · obtain⟨rfl,hx⟩:=F.yld i _ x H'' hs hy
      have hx:=hx hlt;have et:(xs.take (i+1)).filter pb=(xs.take i).filter pb++(if pb x=true then[x] else[]):=PySem.take_succ_filter pb xs i x hx;refine hbody i x _ _ _ hx hs (fun hb=>⟨upd_same,xs.length - (i+1),by omega,rfl,hlt,?_,?_⟩) (fun hb=>⟨xs.length - (i+1),by omega,rfl,hlt,?_,rfl⟩)
      · rw[et,if_pos hb,List.map_append]
        rfl
      · rw[upd_upd]
      · rw[et,hb]
        simp
  · have e:i=xs.length:=by omega
    subst e;refine .inl ⟨F.stop _ _ hs (Nat.le_refl _),?_⟩;rw[List.take_length];exact hq p hp
end L2
namespace L2
open PySem PySem.Spec PyProof.Rows
section
variable{X:Cx}{tg:Expr}
end
structure FeedsG (J:It) (H:Hp) (n:Nat) (Y:Nat→V→Hp→Prop):Prop where
  go:∀i H',Same H H'→i<n→J.go i H'
  yld:∀i H' x H'',Same H H'→i<n→J.yld i H' x H''→Same H' H''∧Y i x H''
  stop:∀i H',Same H H'→n≤i→J.stop i H'
theorem Feeds.g {J:It} {H:Hp} {xs:List V} (F:Feeds J H xs):FeedsG J H xs.length (fun i x _=>xs[i]? =some x) where
  go:=F.go
  yld:=fun i H' x H'' s hi h=>by
    obtain⟨e,q⟩:=F.yld i H' x H'' s h;exact⟨e▸Same.refl H',q hi⟩
  stop:=F.stop
end L2
namespace L2
open PySem PySem.Spec PyProof.Rows
mutual
inductive Dat (H:Hp):V→PyData→Prop
  |non:Dat H .non .none
  |bl (b:Bool):Dat H (.bl b) (.bool b)
  |int (i:Int):Dat H (.int i) (.int i)
  |str (x:Str):Dat H (.str x) (.str x)
  |lst {a:Addr} {xs:List V} {ds:List PyData} (e:H a=some (.lst xs)) (h:DatAll H xs ds):Dat H (.ref a) (.list ds)
  |tup {a:Addr} {xs:List V} {ds:List PyData} (e:H a=some (.tup xs)) (h:DatAll H xs ds):Dat H (.ref a) (.tuple ds)
inductive DatAll (H:Hp):List V→List PyData→Prop
  |nil:DatAll H [] []
  |cons {x:V} {xs:List V} {d:PyData} {ds:List PyData} (h:Dat H x d) (t:DatAll H xs ds):DatAll H (x::xs) (d::ds)
end
mutual
theorem Dat.reads {P:Program} {w:World} {H:Hp} {h:Heap} (ok:HOk P w H h):∀{v:V} {d:PyData} {u:Value},Dat H v d→RelV v u→(∃as,Reads h u d as)∧d.hasDict=false
  |_,_,_,.non,r=>by cases r;exact⟨⟨_,.none⟩,by simp only[PyData.hasDict]⟩
  |_,_,_,.bl b,r=>by cases r;exact⟨⟨_,.bool b⟩,by simp only[PyData.hasDict]⟩
  |_,_,_,.int i,r=>by obtain⟨t,rfl⟩:=r;exact⟨⟨_,.int i t⟩,by simp only[PyData.hasDict]⟩
  |_,_,_,.str x,r=>by obtain⟨t,rfl⟩:=r;exact⟨⟨_,.str x t⟩,by simp only[PyData.hasDict]⟩
  | _,_,_,.lst e hd,r=>by
    cases r;obtain⟨z,its,n,rv,ho⟩:=(show ObjOk P w H h _ (.lst _) from ok _ _ e);obtain⟨⟨as,q⟩,hh⟩:=DatAll.reads ok hd rv;exact⟨⟨_,.list ho rfl rfl (by simpa using q)⟩,by simp only[PyData.hasDict];exact hh⟩
  | _,_,_,.tup e hd,r=>by
    cases r;obtain⟨z,its,rv,o,ho,hc,n,hdt⟩:=(show ObjOk P w H h _ (.tup _) from ok _ _ e);obtain⟨⟨as,q⟩,hh⟩:=DatAll.reads ok hd rv;exact⟨⟨_,.tuple ho hc hdt (by simpa using q)⟩,by simp only[PyData.hasDict];exact hh⟩
theorem DatAll.reads {P:Program} {w:World} {H:Hp} {h:Heap} (ok:HOk P w H h):∀{xs:List V} {ds:List PyData} {us:List Value},DatAll H xs ds→Vals xs us→(∃as,ReadsAll h us ds as)∧PyData.hasDictAll ds=false
  |_,_,_,.nil,.nil=>⟨⟨_,.nil⟩,by simp only[PyData.hasDictAll]⟩
  | _,_,_,.cons hd t,.cons r rr=>by
    obtain⟨⟨as,q⟩,h1⟩:=Dat.reads ok hd r;obtain⟨⟨bs,q'⟩,h2⟩:=DatAll.reads ok t rr;exact⟨⟨_,.cons q q'⟩,by simp only[PyData.hasDictAll,h1,h2,Bool.or_self]⟩
end
mutual
theorem Dat.same {H H' :Hp} (s:Same H H'):∀{v:V} {d:PyData},Dat H v d→Dat H' v d
  |_,_,.non=> .non
  |_,_,.bl b=> .bl b
  |_,_,.int i=> .int i
  |_,_,.str x=> .str x
  |_,_,.lst e h=> .lst (s _ _ e) (DatAll.same s h)
  |_,_,.tup e h=> .tup (s _ _ e) (DatAll.same s h)
theorem DatAll.same {H H' :Hp} (s:Same H H'):∀{xs:List V} {ds:List PyData},DatAll H xs ds→DatAll H' xs ds
  |_,_,.nil=> .nil
  |_,_,.cons h t=> .cons (Dat.same s h) (DatAll.same s t)
end
section
variable{X:Cx}
end
end L2
namespace L2
open PySem PySem.Spec PyProof.Rows
section
variable{X:Cx}{e stp:Expr}{te ts:TE}{pos p2:Pos}
end
section
variable{prog:Program}{w:World}{A:Around}{E:Value→Shared→Prop}{s:Shared}
end
section
variable{X:Cx}{e:Expr}{ta:TA}{p p' pos pos' :Pos}
end
section
variable{X:Cx}{K:PySem.W.Frag}
theorem ix_listK(hK:X.K=K):IxR X (rIxL K):=hK▸ix_list
theorem pg_tupK{es:List Expr}{k:Nat}{t:TGs}{n:Nat}{pos:Pos}(hK:X.K=K)(hc:X.calm=true)(h:PGs X es t)(hn:(assignEach es X.env).length=n)(hst:(assignEach es X.env).findIdx? (·.1)=none):PG X (.Tuple es k pos) (gTup K n t):=hK▸pg_tup hc h hn hst
end
end L2
namespace L2
open PySem PySem.Spec PyProof.Rows
section
variable{X:Cx}{tg:Expr}
end
section
variable{X:Cx}{tg:Expr}
end
section
variable{X:Cx}{pins:List (Addr×Obj)}{σ:St}{H:Hp}{s:Shared}{h' :Heap}
theorem Inv.turneds {t' :Nat} {ch:List Addr} (I:Inv X pins σ H s) (hf:∀b∈ch,FpOk X pins H b) (k:∀b o,b∉ch→s.heap.get? b=some o→h'.get? b=some o):Inv X pins σ H {s with heap:=h',toks:=t'}:=by
  have nit:∀b u,H b=some u→b∉ch:=fun b u e z=>by rw[(hf b z).1] at e;cases e
  have hL:X.env.locals∉ch:=fun z=>(hf _ z).2.1 rfl
  refine I.step (g' :=s.gens) (d' :=s.drawn) (ch:=ch) (fun b hb=> ?_) (fun b o _ _ hc e _=>k b o hc e) (fun b o _ _ hc e _=>⟨o.slots,k b o hc e⟩) (fun _ _ _ _ n=>n)
    (fun b o hc e=>⟨o,k b o hc e⟩) (fun _ _ e=>e) (fun _ _ _ e=>e) (fun b ps e=>⟨#[],by rw[e];simp⟩) (fun m hm=> ?_) (fun b u e=> ?_) I.bare
  · obtain⟨f0,f1,f2,f3,f4,f5⟩:=hf b hb
    exact⟨f3,f1,f4,f5⟩
  · obtain⟨o,es,ep,ho,r⟩:=hm
    exact⟨o,es,ep,k _ o hL ho,r⟩
  · refine(I.hok b u e).stay (fun c v hc q=>k c v ?_ q) (fun _ q=>q) fun _ _ q=>q
    rcases hc with z|z
    · rw[z];exact nit b u e
    · exact nit c _ z
theorem Inv.turnedTup {t' :Nat} {ch:List Addr} {xs:List V} (I:Inv X pins σ H s) (hf:∀b∈ch,FpOk X pins H b) (k:∀b o,b∉ch→s.heap.get? b=some o→h'.get? b=some o)
    (new:ObjOk X.prog X.w (upd H s.heap.objs.size (.tup xs)) h' s.heap.objs.size (.tup xs)):Inv X pins σ (upd H s.heap.objs.size (.tup xs)) {s with heap:=h',toks:=t'}:=by
  have hTn:H s.heap.objs.size=none:=I.hok.fresh (Nat.le_refl _);have nit:∀b u,H b=some u→b∉ch:=fun b u e z=>by rw[(hf b z).1] at e;cases e
  have hL:X.env.locals∉ch:=fun z=>(hf _ z).2.1 rfl
  refine I.step (g' :=s.gens) (d' :=s.drawn) (ch:=ch) (fun b hb=> ?_) (fun b o _ _ hc q _=>k b o hc q) (fun b o _ _ hc q _=>⟨o.slots,k b o hc q⟩)
    (fun b o _ q n=> ?_) (fun b o hc q=>⟨o,k b o hc q⟩) (fun b ys q=> ?_) (fun b o ys q=> ?_) (fun b ps q=>⟨#[],?_⟩) (fun m hm=> ?_) (fun b u q=> ?_) I.bare
  · obtain⟨f0,f1,f2,f3,f4,f5⟩:=hf b hb
    exact⟨f3,f1,f4,f5⟩
  · rw[upd_ne (Nat.ne_of_lt (Heap.lt_size q))];exact n
  · rw[upd_ne (ne_of_none q hTn)];exact q
  · rw[upd_ne (ne_of_none q hTn)];exact q
  · rw[upd_ne (ne_of_none q hTn),q];simp
  · obtain⟨o,es,ep,q,r⟩:=hm
    exact⟨o,es,ep,k _ o hL q,r⟩
  · by_cases hb:b=s.heap.objs.size
    · subst hb
      rw[upd_same] at q;cases q;exact new
    · rw[upd_ne hb] at q
      refine(I.hok b u q).stay (fun c v hc q' =>k c v ?_ q') (fun c q' => ?_) fun c ys q' => ?_
      · rcases hc with z|z
        · rw[z];exact nit b u q
        · exact nit c _ z
      · rw[upd_ne (ne_of_none q' hTn)];exact q'
      · rw[upd_ne (ne_of_none q' hTn)];exact q'
end
noncomputable def Itz (K:PySem.W.Frag) (a b:Addr):It:=
  ⟨fun i H=>∃xs ys x y,SqL K H a xs∧SqL K H b ys∧xs[i]? =some x∧ys[i]? =some y,
    fun i H v H' =>∃T x y,v= .ref T∧H T=none∧H' =upd H T (.tup [x,y])∧(∀xs,SqL K H a xs→xs[i]? =some x)∧∀ys,SqL K H b ys→ys[i]? =some y,
    fun i H=>∃xs ys,SqL K H a xs∧SqL K H b ys∧(xs.length≤i∨ys.length≤i)⟩
theorem turn_zip {P:Program} {w:World} {K:PySem.W.Frag} {elts:List Expr} {kt:Nat} {pt:Pos} (l1 l2 z TI TO i1 i2:Addr) (D:ZipApart z TI TO i1 i2 l1 l2):
    Turn P w K (.Tuple elts kt pt) (Itz K l1 l2) [z,TI,TO,i1,i2] z (fun i h=>IsZip h z TI TO .none∧IsPair h TI (.ref i1) (.ref i2)∧(∃a b,IsPair h TO a b)∧h.IsListIter i1 l1 i∧h.IsListIter i2 l2 i) where
  mem:=by simp
  obj:=fun i h st b hb=>by
    obtain⟨hz,hTI,⟨a,c,hTO⟩,⟨o1,h1,c1,d1⟩,⟨o2,h2,c2,d2⟩⟩:=st;have hb:b=z∨b=TI∨b=TO∨b=i1∨b=i2:=by simpa using hb
    rcases hb with rfl|rfl|rfl|rfl|rfl
    · exact⟨_,hz,fun v z=>by cases z⟩
    · exact⟨_,hTI,fun v z=>by cases z⟩
    · exact⟨_,hTO,fun v z=>by cases z⟩
    · exact⟨o1,h1,fun v z=>by rw[d1] at z;cases z⟩
    · exact⟨o2,h2,fun v z=>by rw[d2] at z;cases z⟩
  keep:=fun i h h' st k=>by
    obtain⟨hz,hTI,⟨a,b,hTO⟩,h1,h2⟩:=st;exact⟨k z (by simp) _ hz,k TI (by simp) _ hTI,⟨a,b,k TO (by simp) _ hTO⟩,h1.at fun o e=>k i1 (by simp) o e,h2.at fun o e=>k i2 (by simp) o e⟩
  item :=by
    intro X hP hw hK hc i pins s σ H E I hf st hg;subst hP hw hK;obtain⟨xs,ys,x,y,hq,hq2,hx,hy⟩:=hg;obtain⟨its,rv,p,hzz⟩:=I.list hq;obtain⟨its2,rv2,p2,hzz2⟩:=I.list hq2;obtain⟨u,hu,ru⟩:=rv.get hx;obtain⟨u2,hu2,ru2⟩:=rv2.get hy;obtain⟨hz,hTI,⟨a,b,hTO⟩,h1,h2⟩:=st;refine wpAny_pyNext_zip_item D hz hTI hTO h1 h2 p.isList p2.isList (x:=u) (y:=u2) (by simpa using hu) (by simpa using hu2) fun h' a1 a2 a3 a4 a5 a6 hk=> ?_;refine⟨.ref s.heap.objs.size,rfl,?_⟩;refine wpAny_letOwnedTupleGo_zip a1 fun h'' hz'' hs'' => ?_;have lt:∀{c o},s.heap.get? c=some o→s.heap.objs.size≠c:=fun e=>Nat.ne_of_gt (Heap.lt_size e);have ltl:∀{c},(∃o,s.heap.get? c=some o)→c<s.heap.objs.size:=fun⟨o,e⟩=>Heap.lt_size e;have hTn:H s.heap.objs.size=none:=I.hok.fresh (Nat.le_refl _);have hT'' :h''.get? s.heap.objs.size=some {cls:= .type "tuple",data:= .seq #[u,u2]}:=(hs''.2 _ (lt hz)).trans a5;have kk:∀c o,c∉[z,TI,TO,i1,i2]→s.heap.get? c=some o→h''.get? c=some o:=fun c o hc q=>(hs''.2 c (fun x=>hc (by simp[x]))).trans (hk c o (fun x=>hc (by simp[x])) (fun x=>hc (by simp[x])) (fun x=>hc (by simp[x])) (fun x=>hc (by simp[x])) q);have I2:=I.turnedTup (t' :=s.toks) hf kk (show ObjOk X.prog X.w (upd H s.heap.objs.size (.tup [x,y])) h'' s.heap.objs.size (.tup [x,y]) from⟨(show 2≤sizeLine by decide),[u,u2],.cons ru (.cons ru2 .nil),⟨_,hT'',rfl,_,rfl⟩⟩);refine⟨.ref s.heap.objs.size,_,I2,rfl,⟨_,x,y,rfl,hTn,rfl,(fun ys hy=>by rw[I.list_inj hy hq];exact hx),(fun ys' hy' =>by rw[I.list_inj hy' hq2];exact hy)⟩,⟨hz'',?_,⟨_,_,(hs''.2 _ D.TOz).trans a2⟩,a3.at fun o q=>(hs''.2 _ D.i1z).trans q,a4.at fun o q=>(hs''.2 _ D.i2z).trans q⟩,fun c hc=> ?_⟩
    · exact(hs''.2 _ D.TIz).trans (hk _ _ D.TIz D.TITO D.TIi1 D.TIi2 hTI)
    · have hcl:c≠s.heap.objs.size:=fun q=>by
        subst q;have hb:s.heap.objs.size=z∨s.heap.objs.size=TI∨s.heap.objs.size=TO∨s.heap.objs.size=i1∨s.heap.objs.size=i2:=by simpa using hc
        rcases hb with q|q|q|q|q
        · exact lt hz q
        · exact lt hTI q
        · exact lt hTO q
        · obtain⟨_,e,_⟩:=h1;exact lt e q
        · obtain⟨_,e,_⟩:=h2;exact lt e q
      rw[upd_ne hcl];exact(hf c hc).1
  done:=by
    intro X hP hw hK hc i pins s σ H E I hf st hg;subst hP hw hK;obtain⟨xs,ys,hq,hq2,hx⟩:=hg;obtain⟨its,rv,p,hzz⟩:=I.list hq;obtain⟨its2,rv2,p2,hzz2⟩:=I.list hq2;obtain⟨hz,hTI,⟨a,b,hTO⟩,h1,h2⟩:=st;have hl:=rv.length;have hl2:=rv2.length;refine wpAny_pyNext_zip_end (I.ok.hd hc) D hz hTI hTO h1 h2 p.isList p2.isList ?_ fun h' hk=>⟨rfl,I.turneds (t' :=s.toks) hf fun c o hc q=>hk c o (fun x=>hc (by simp[x])) (fun x=>hc (by simp[x])) (fun x=>hc (by simp[x])) (fun x=>hc (by simp[x])) q⟩;rcases hx with hx|hx
    · exact .inl (by simp;omega)
    · exact .inr (by simp;omega)
  self:=fun _ _ _ _ _ st h=>wpAny_pyIter_zip st.1 h
section
variable{X:Cx}{tg:Expr}
theorem zip_apart (n l1 l2:Nat) (h1:l1<n) (h2:l2<n):ZipApart (n+4) (n+2) (n+3) n (n+1) l1 l2:=by
  constructor<;>(intro z;(have z' :(_:Nat)=_:=z);omega)
noncomputable def iZip(K:PySem.W.Frag)(ta:TA):TI:=fun σ H R=>ta σ H fun vs H1=>∃a b,vs=[.ref a,.ref b]∧(∃xs,H1 a=some (.lst xs))∧(∃ys,H1 b=some (.lst ys))∧R (Itz K a b) H1
theorem pi_zip {a b:Expr} {ta:TA} {p pos:Pos} {elts:List Expr} {kt:Nat} {pt:Pos} (hg:Gl X "zip") (hm:X.mg "zip"=none) (ha:PA X [a,b] ta) (hs:starEach [a,b] X.env=[(false,eval a X.env),(false,eval b X.env)]:=by rfl) (hs2:starEach [b] X.env=[(false,eval b X.env)]:=by rfl):
    PI X (.Tuple elts kt pt) (.Call (.Name "zip" p) [a,b] [] pos) (iZip X.K ta):=by
  intro pins s σ H R I h;refine Call_ (ld_blt I hg hm Boot.«zip» (PyProof.Rows.callWith_type1 (thn (ha pos pins s σ H _ I h) fun us s1 ⟨vs,H1,I1,r1,q1⟩=> ?_) (by rw[hs,hs2]) (by rw[hs2];rfl)));obtain⟨l1,l2,e,⟨xs,hq⟩,⟨ys,hq2⟩,q⟩:=q1;subst e
  cases r1 with
  | cons r rr=>
    cases rr with
    | cons r' rr=>
      cases rr;cases r;cases r';obtain⟨its,rv,p1,hz⟩:=I1.list (SqL.of hq);obtain⟨its2,rv2,p2,hz2⟩:=I1.list (SqL.of hq2);refine call_zip_2 p1.isList p2.isList fun h' a1 a2 a3 a4 a5 a6 hk=> ?_;have I2:Inv X pins σ H1 {s1 with heap:=h'}:=I1.kept (t' :=s1.toks) hk;have hl1:=I1.hok.lt hq;have hl2:=I1.hok.lt hq2;refine wpAny_pyIter_zip (s:={s1 with heap:=h'}) a1 ?_;refine⟨s1.heap.objs.size+4,[s1.heap.objs.size+4,s1.heap.objs.size+2,s1.heap.objs.size+3,s1.heap.objs.size,s1.heap.objs.size+1],_,_,H1,rfl,I2,turn_zip l1 l2 _ _ _ _ _ (zip_apart _ _ _ hl1 hl2),⟨a1,a2,⟨_,_,a3⟩,a4,a5⟩,fun b hb=> ?_,q⟩
      have hb:s1.heap.objs.size≤b:=by
        simp only[List.mem_cons,List.not_mem_nil,or_false] at hb;rcases hb with rfl|rfl|rfl|rfl|rfl
        · exact Nat.le_add_right _ _
        · exact Nat.le_add_right _ _
        · exact Nat.le_add_right _ _
        · exact Nat.le_refl _
        · exact Nat.le_add_right _ _
      exact I1.fpOk hb (I1.hok.fresh hb)
end
theorem for_zip {K:PySem.W.Frag} {a b:Addr} {xs ys:List V} {g:TG} {tb:TS} {D:Ends} {σ:St} {H:Hp} (Pv:Nat→St→Hp→Prop) (he:xs.length=ys.length) (h0:Pv 0 σ H) (hl:∀i σ H,i≤xs.length→Pv i σ H→SqL K H a xs∧SqL K H b ys)
    (hs:∀i x y T σ H,xs[i]? =some x→ys[i]? =some y→Pv i σ H→H T=none→g (.ref T) σ (upd H T (.tup [x,y])) fun σ2 H2=>tb {D with nx:=Pv (i+1),ct:=Pv (i+1),bk:=D.nx} σ2 H2) (hd:∀σ H,Pv xs.length σ H→D.nx σ H):
    ∃ W:Nat→Nat→St→Hp→Prop,(∃m,W 0 m σ H)∧∀i m σ H,W i m σ H→
      ((Itz K a b).stop i H∧D.nx σ H)∨((Itz K a b).go i H∧∃N:St→Hp→Prop,(∀σ' H',N σ' H'→∃m',m' <m∧W (i+1) m' σ' H')∧∀x H',(Itz K a b).yld i H x H'→g x σ H' fun σ2 H2=>tb {D with nx:=N,ct:=N,bk:=D.nx} σ2 H2):=by
  refine⟨fun i m σ H=>m=xs.length - i∧i≤xs.length∧Pv i σ H,⟨xs.length,by simp,Nat.zero_le _,h0⟩,?_⟩
  rintro i m σ H ⟨rfl,hi,p⟩
  obtain⟨q,q2⟩:=hl i σ H hi p;by_cases hlt:i<xs.length
  · have hlt2:i<ys.length:=by omega
    refine .inr ⟨⟨xs,ys,xs[i],ys[i],q,q2,by simp[hlt],by simp[hlt2]⟩,Pv (i+1),fun σ' H' p' =>⟨xs.length - (i+1),by omega,rfl,hlt,p'⟩,fun x H' y=> ?_⟩;obtain⟨T,x,y,rfl,hT,rfl,hx,hy⟩:=y;exact hs i x y T σ H (hx xs q) (hy ys q2) p hT
  · have e:i=xs.length:=by omega
    subst e;exact .inl ⟨⟨xs,ys,q,q2,.inl (Nat.le_refl _)⟩,hd σ H p⟩
end L2
namespace L2
open PySem PySem.Spec PyProof.Rows
structure ClsFn (K:PySem.W.Frag) (C:Addr) (m:Str) (f:Addr):Prop where
  sp:PySem.W.specialIn K (.ref C) "__getattribute__"=some (some (.builtin "type.__getattribute__"))
  rd:PySem.W.readsIn K C (.type "type")=true
  at_:PySem.W.findCls K (.ref C) (.type "type") m=some (.val (.ref f))
  kp:PySem.W.keepIn K (.ref f)=true
section
variable{X:Cx}{CX:CXT}{k:Nat}{f C:Addr}{fd:FuncData}{ps:List Str}{sp:Sp}{dvs:List V}{ds:List Value}{E:XK}{x m:Str}{p pos apos:Pos}{e:Expr}{es:List Expr}{t:TA}
theorem pe_ccall {pl:Sem Bool} (c:ClsFn X.K C m f) (hg:Gl X x) (hm:X.mg x=some (.ref C)) (F:FnOk X.prog X.w X.K X.mg X.base CX k f fd ps sp) (hr:Room k X.A) (hb:Binds X.K fd ps ds) (hd:Vals dvs ds) (hx:Passes CX X E) (ha:PA X (e::es) t)
    (hdb:(x==("__debug__" :Str))=false:=by decide) (hst:starEach (e::es) X.env=(false,eval e X.env)::starEach es X.env:=by rfl) (hpl:(backTo pos (starEach es X.env)).any (·.1)=false:=by rfl)
    (ht:eval (.Call (.Attribute (.Name x p) m apos) (e::es) [] pos) X.env=(do
      let ov←eval (.Name x p) X.env
      standAt apos.atName
      let(f,first)←holding [ov] (getMethod ov m pl)
      callWith pos f first (backTo pos (starEach (e::es) X.env)) (backToKw pos (keywordEach [] X.env))):=by rfl):
    PE X (.Call (.Attribute (.Name x p) m apos) (e::es) [] pos) (tCall sp dvs E t):=by
  intro pins s σ H Q I h;refine PySem.W.methodCall_KW (pl:=pl) (ld_glob I hg hm ?_ hdb) ht;refine PySem.W.method_cls I.kIn c.sp (PySem.W.cls_value I.kIn c.rd c.at_ rfl ?_);refine PySem.W.callWith_K (first:=[]) (h₀:=X.base) I.ok.mod.kin c.kp (thn (ha pos pins _ σ H _ (I.tok _) h) fun us s2 ⟨vs,H2,I2,r,q2⟩=>⟨I2.kIn,?_⟩) hst hpl;exact run_fn F hr hb hd hx I2 r q2
end
section
variable{X:Cx}{o e f:Expr}{apos cpos:Pos}{td ty tx:TE}
end
section
variable{X:Cx}
end
section
variable{X:Cx}{e:Expr}{ta:TA}{p pos p' pos' :Pos}
end
section
variable{X:Cx}{e lo stp:Expr}{te tl ts:TE}{pos p2:Pos}
end
section
variable{X:Cx}{pins:List (Addr×Obj)}{σ:St}{H:Hp}{s:Shared}{d:Addr}{kvs:List (Key×V)}
end
section
variable{X:Cx}{tg e:Expr}{te:TE}
end
end L2
namespace L2
open PySem PySem.Spec PyProof.Rows
section
variable{M:Model}{A:Around}{E:Value→Shared→Prop}{s:Shared}
end
structure TailHas (bm:List Value):Prop where
  hasB:bm.contains (.type "ValueError")=true
  hasBase:bm.contains (.type "BaseException")=true
  noAttr:bm.contains (.type "AttributeError")=false
  noName:bm.contains (.type "NameError")=false
noncomputable abbrev excNew(C t:Addr):Obj:={cls:= .ref C,data:= .fields #[.ref t,.none,.none,.none,.bool false,.none]}
section
variable{prog:Program}{w:World}{A:Around}{E:Value→Shared→Prop}{h:Heap}{g:Array GenState}{d:Drawn}{t:Nat}{os:OsState}
variable{nm q:Str}{C N:Addr}{bs bm:List Value}{hdct:Bool}{sn:List Str}{sub:List Value}{ab:Bool}{col:Option Bool}{dd:Option Addr}{k0 k1 k2 k3 k5:Option Value}
theorem exc_check_new {M:Model} (T:TailHas bm) {rest:List Value} {Q:Unit→Shared→Prop} (hC:h.get? C=some (excClassObj nm q C N bs bm hdct sn sub ab col dd k0 k1 k2 k3 k5 "ValueError.__new__"))
    (hq:Q () ⟨h,g,d,t,os⟩):wpAny M A (checkBuiltinCall "ValueError.__new__" ⟨.ref C::rest,[]⟩) Q E ⟨h,g,d,t,os⟩:=by
  have F:=PySem.F.excBase_ValueError;have hcont:(Value.ref C::bm).contains (.type "ValueError")=true:=by rw[List.contains_cons,T.hasB,Bool.or_true]
  have hstar:=F.noStar;simp only[checkBuiltinCall,F.newKind,F.newSplit,F.newRow]
  repeat (first|refine wpAny_loadPart_at hC ?_|(refine wpAny_isSubtype_exc hC ?_;rw[hcont])|refine wpAny_staticBase_exc hC ?_|refine wpAny_madeBy_exc hC ?_|simp only[bne_self_eq_false,Bool.false_eq_true,if_false]|wp_step)
  exact hq
theorem exc_new_code (T:TailHas bm) {R:Result→Shared→Prop} {rest:List Value} (hC:h.get? C=some (excClassObj nm q C N bs bm hdct sn sub ab col dd k0 k1 k2 k3 k5 "ValueError.__new__"))
    (hq:R (.ok (.ret (.ref (h.objs.size+1)))) ⟨(h.push {cls:= .type "tuple",data:= .seq rest.toArray}).push (excNew C h.objs.size),g,d,t,os⟩) (hrest:rest.length≤sizeLine:=by size_fits):
    codeAny (model prog w) A (.builtin "ValueError.__new__" ⟨.ref C::rest,[]⟩) R ⟨h,g,d,t,os⟩:=by
  have F:=PySem.F.excBase_ValueError;have hends:=F.ends;have hcB:(Value.ref C::bm).contains (.type "ValueError")=true:=by rw[List.contains_cons,T.hasB,Bool.or_true]
  have hcA:(Value.ref C::bm).contains (.type "AttributeError")=false:=by rw[List.contains_cons,T.noAttr];rfl
  have hcN:(Value.ref C::bm).contains (.type "NameError")=false:=by rw[List.contains_cons,T.noName];rfl
  refine codeAny_builtinAt F.entry ?_;unfold Builtin.«BaseException.__new__»;refine PySem.wpAt_bind ?_;show PySem.wpAt _ _ _ (stack>>= _) _ _ _;refine PySem.wpAt_bind (PySem.wpAt_stack fun p below=>PySem.wpAt_of_wpAny ?_)
  wp_walk
  refine PySem.wpAt_of_wpAny ?_;rw[F.owner]
  repeat (first|with_reducible refine wpAny_madeHere_exc F.canon hC ?_|with_reducible refine wpAny_loadPart_at hC ?_|(with_reducible refine wpAny_isSubtype_exc hC ?_;first|rw[hcB]|rw[hcA]|rw[hcN])|wp_step)
  show R _ _;rw[Heap.size_push];exact hq
theorem exc_type_call (T:TailHas bm) {K:PySem.W.Frag} {rest:List Value} {fI:Addr} {Q:Fin→Shared→Prop}
    (hC:h.get? C=some (excClassObj nm q C N bs bm hdct sn sub ab col dd k0 k1 k2 k3 k5 "ValueError.__new__")) (X:K.In h) (hi:PySem.W.findIn K (.ref C) "__init__"=some (some (.ref fI))) (hf:PySem.W.typeIn K (.ref fI)=some (.type "function"))
    (hq:wpAny (model prog w) A (call (.ref fI) (.ref (h.objs.size+1)::rest)) (fun r s' =>r= .none∧Q (.done (.ret (.ref (h.objs.size+1)))) s') E ⟨(h.push {cls:= .type "tuple",data:= .seq rest.toArray}).push (excNew C h.objs.size),g,d,t,os⟩) (hrest:rest.length≤sizeLine:=by size_fits):
    wpAny (model prog w) A (Builtin.«type.__call__» ⟨.ref C::rest,[]⟩) Q E ⟨h,g,d,t,os⟩:=by
  have F:=PySem.F.excBase_ValueError
  repeat (first|with_reducible refine wpAny_loadPart_at hC ?_|with_reducible refine wpAny_madeBy_exc hC ?_|wp_step)
  refine codeAny_call_builtin_code (Code.quiet_builtin _ F.quiet) (exc_check_new T hC ?_);refine exc_new_code T hC ?_ hrest;show wpAny _ _ _ _ _ _;have hk:∀b o,h.get? b=some o→((h.push {cls:= .type "tuple",data:= .seq rest.toArray}).push (excNew C h.objs.size)).get? b=some o:=fun b o e=>Heap.get?_push_of_some _ (Heap.get?_push_of_some _ e);have hC₁:=hk _ _ hC;have X₁:K.In ((h.push {cls:= .type "tuple",data:= .seq rest.toArray}).push (excNew C h.objs.size)):=X.keeps hk;have hget:((h.push {cls:= .type "tuple",data:= .seq rest.toArray}).push (excNew C h.objs.size)).get? (h.objs.size+1)=some (excNew C h.objs.size):=by heap_get
  have hcC:(Value.ref C::bm).contains (.ref C)=true:=by simp
  unfold isInstance
  repeat (first|with_reducible refine wpAny_loadPart_at hget ?_|(with_reducible refine wpAny_isSubtype_exc hC₁ ?_;rw[hcC])|wp_step)
  show wpAny _ _ (typeLookup (.ref C) _) _ _ _;refine(PySem.W.looks_findIn X₁ hi).here ?_;refine wpAny_holding (wpAny_bind ?_);refine(PySem.W.bind_fn X₁ (.ref (h.objs.size+1)) hf).here ?_;refine wpAny_bind (wpAny_mono hq (fun r s' hr=> ?_) fun _ _ x=>x);obtain⟨rfl,hQ⟩:=hr
  wp_walk
  exact hQ
theorem exc_call (T:TailHas bm) {K:PySem.W.Frag} {rest:List Value} {fI:Addr} {Q:Value→Shared→Prop}
    (hC:h.get? C=some (excClassObj nm q C N bs bm hdct sn sub ab col dd k0 k1 k2 k3 k5 "ValueError.__new__")) (X:K.In h) (hi:PySem.W.findIn K (.ref C) "__init__"=some (some (.ref fI))) (hf:PySem.W.typeIn K (.ref fI)=some (.type "function"))
    (hq:wpAny (model prog w) (A.under (.builtin "type.__call__" ⟨.ref C::rest,[]⟩)) (call (.ref fI) (.ref (h.objs.size+1)::rest)) (fun r s' =>r= .none∧Q (.ref (h.objs.size+1)) s') E ⟨(h.push {cls:= .type "tuple",data:= .seq rest.toArray}).push (excNew C h.objs.size),g,d,t,os⟩) (hrest:rest.length≤sizeLine:=by size_fits):
    wpAny (model prog w) A (call (.ref C) rest) Q E ⟨h,g,d,t,os⟩:=by
  have f1:=tc_lookup;have f2:=tc_bind (.ref C);have hT:(⟨h,g,d,t,os⟩:Shared).TypeIs (.ref C) "type":=⟨_,hC,rfl⟩;refine wpAny_call (codeAny_of_tree ?_);show wpAny _ _ (callAny (.ref C) _) _ _ _
  repeat (any_goals (first|assumption|with_reducible refine wpAny_loadPart_at hC ?_|wp_step))
  refine⟨rfl,?_⟩;exact codeAny_call_builtin_at (Code.quiet_builtin _ (by decide+kernel)) entry_typeCall (wpAny_check_type_call_sub hC (exc_type_call (hrest:=hrest) T hC X hi hf hq))
end
noncomputable def excP(a C:Addr)(dd:Option Addr)(n:Bool)(h:Heap):Prop:=∃vs:Array Value,h.get? a=some {cls:= .ref C,dict:=dd,data:= .fields vs}∧vs.size=6∧(n=true→vs[1]? =some .none)
theorem ext_ok {P:Program} {w:World} {H:Hp} {h:Heap} {a C:Addr} {dd:Option Addr} {n:Bool} (p:excP a C dd n h):ObjOk P w H h a (.ext (excP a C dd n)):=by
  obtain⟨vs,e,r⟩:=p;exact⟨⟨vs,e,r⟩,⟨_,e⟩,fun h1 h2 ⟨ws,e1,r1⟩ k=>⟨ws,k _ e1,r1⟩⟩
theorem ext_at {P:Program} {w:World} {H:Hp} {h:Heap} {a C:Addr} {dd:Option Addr} {n:Bool} (ok:HOk P w H h) (e:H a=some (.ext (excP a C dd n))):excP a C dd n h:=
  (show ObjOk P w H h a (.ext (excP a C dd n)) from ok a _ e).1
theorem upd_self {H:Hp} {a:Addr} {o:HO} (h:H a=some o):upd H a o=H:=by
  funext b
  by_cases hb:b=a
  · subst hb
    rw[upd_same,h]
  · rw[upd_ne hb]
structure ExcC (K:PySem.W.Frag) (C:Addr):Prop where
  obj:∃nm q N bs bm hdct sn sub ab col dd k0 k1 k2 k3 k5,K.lookup C=some (excClassObj nm q C N bs bm hdct sn sub ab col dd k0 k1 k2 k3 k5 "ValueError.__new__")∧TailHas bm
structure ExcMk (K:PySem.W.Frag) (C f:Addr):Prop extends ExcC K C where
  init:PySem.W.findIn K (.ref C) "__init__"=some (some (.ref f))
  fn:PySem.W.typeIn K (.ref f)=some (.type "function")
  kp:PySem.W.keepIn K (.ref C)=true
section
variable{X:Cx}{CX:CXT}{k:Nat}{f C:Addr}{fd:FuncData}{ps:List Str}{sp:Sp}{E:XK}{x m:Str}{p pos apos:Pos}{e o:Expr}{es:List Expr}{ta:TE}{t:TA}
noncomputable def tMakeX(C:Addr)(sp:Sp)(E:XK)(t:TA):TE:=fun σ H Q=>t σ H fun vs H1=>∀x,H1 x=none→sp (.ref x::vs) (upd H1 x (.ext (excP x C none true))) (fun v H2=>v= .non∧Q (.ref x) H2) E
theorem run_makeX {pins:List (Addr×Obj)} {σ:St} {H:Hp} {s:Shared} {Q:VK} {us:List Value} {vs:List V} (M:ExcMk X.K C f) (F:FnOk X.prog X.w X.K X.mg X.base CX k f fd ps sp) (hr:Room (k+1) X.A) (hb:Binds X.K fd ps [])
    (hx:Passes CX X E) (I:Inv X pins σ H s) (r:Vals vs us) (hus:us.length≤100)
    (h:∀x,H x=none→sp (.ref x::vs) (upd H x (.ext (excP x C none true))) (fun v H2=>v= .non∧Q (.ref x) H2) E):
    wpAny (model X.prog X.w) X.A (call (.ref C) us) (EP X pins σ Q) X.xe s:=by
  have hq:=h (s.heap.objs.size+1) (I.hok.fresh (Nat.le_succ _));obtain⟨nm,q,N,bs,bm,hdct,sn,sub,ab,col,dd,k0,k1,k2,k3,k5,lk,T⟩:=M.obj;have hC:=I.kIn _ _ lk;have hk:∀b u,s.heap.get? b=some u→((s.heap.push {cls:= .type "tuple",data:= .seq us.toArray}).push (excNew C s.heap.objs.size)).get? b=some u:=fun b u e=>Heap.get?_push_of_some _ (Heap.get?_push_of_some _ e);have hget:((s.heap.push {cls:= .type "tuple",data:= .seq us.toArray}).push (excNew C s.heap.objs.size)).get? (s.heap.objs.size+1)=some (excNew C s.heap.objs.size):=by heap_get
  have I2:Inv X pins σ (upd H (s.heap.objs.size+1) (.ext (excP (s.heap.objs.size+1) C none true))) {s with heap:=(s.heap.push {cls:= .type "tuple",data:= .seq us.toArray}).push (excNew C s.heap.objs.size)}:=
    I.laid (t' :=s.toks) hk (Nat.le_succ _) (ext_ok ⟨_,hget,rfl,fun _=>rfl⟩)
  have r2:Vals (V.ref (s.heap.objs.size+1)::vs) (Value.ref (s.heap.objs.size+1)::us):= .cons rfl r
  have hl:(Value.ref (s.heap.objs.size+1)::us++([]:List Value)).length=ps.length:=by
    have e:=r2.length;rw[F.len _ _ _ _ hq] at e;rw[List.append_nil];exact e.symm
  obtain⟨hp,g,d,tk,os⟩:=s;refine exc_call (hrest:=Nat.le_trans hus (by decide)) T hC I.kIn M.init M.fn (wpAny_call (codeAny_mono (F.run _ X.stack _ _ ⟨Value.ref (hp.objs.size+1)::us,[]⟩ (Value.ref (hp.objs.size+1)::us) _ _ E (hr.make C us []) (I2.env0.make C us []) ?_ r2 hq) fun r s' hq' => ?_))
  · have:=hb _ (Value.ref (hp.objs.size+1)::us) I2.kIn hl
    rw[List.append_nil] at this;exact this
  · cases r with
    |error e=>exact hx pins σ _ _ e s' I2 hq'
    | ok fl=>
      cases fl with
      | ret u=>
        obtain⟨v,H',I3,rv,ev,q3⟩:=I2.after hq';subst ev;exact⟨rv,⟨V.ref (hp.objs.size+1),H',I3,rfl,q3⟩⟩
      |next=>exact False.elim hq'
      |brk=>exact False.elim hq'
      |cont=>exact False.elim hq'
theorem pe_makeX (M:ExcMk X.K C f) (F:FnOk X.prog X.w X.K X.mg X.base CX k f fd ps sp) (hr:Room (k+1) X.A) (hg:Gl X x) (hm:X.mg x=some (.ref C)) (hb:Binds X.K fd ps []) (hx:Passes CX X E)
    (ha:PA X (e::es) t) (hlen:∀vs H Q E,sp vs H Q E→vs.length≤100) (hdb:(x==("__debug__" :Str))=false:=by decide) (he:starEach (e::es) X.env=(false,eval e X.env)::starEach es X.env:=by rfl) (hpl:(backTo pos (starEach es X.env)).any (·.1)=false:=by rfl):
    PE X (.Call (.Name x p) (e::es) [] pos) (tMakeX C sp E t):=by
  intro pins s σ H Q I h;refine wpAny_Call_Name_kw (ld_glob I hg hm ?_ hdb);refine PySem.W.callWith_K (h₀:=X.base) I.ok.mod.kin M.kp (thn (ha pos pins s σ H _ I h) fun us s1 ⟨vs,H1,I1,r,q⟩=>⟨I1.kIn,?_⟩) he hpl;refine run_makeX M F hr hb hx I1 r ?_ q;have h1:=hlen _ _ _ _ (q _ (I1.hok.fresh (Nat.le_refl _)));have h2:=r.length;rw[List.length_cons] at h1;rw[List.nil_append];omega
theorem pe_makeX0 (M:ExcMk X.K C f) (F:FnOk X.prog X.w X.K X.mg X.base CX k f fd ps sp) (hr:Room (k+1) X.A) (hg:Gl X x) (hm:X.mg x=some (.ref C)) (hb:Binds X.K fd ps []) (hx:Passes CX X E)
    (hdb:(x==("__debug__" :Str))=false:=by decide):PE X (.Call (.Name x p) [] [] pos) (tMakeX C sp E tNil):=by
  intro pins s σ H Q I h;refine wpAny_Call_Name_kw (ld_glob I hg hm ?_ hdb);exact PySem.W.callWith_K0 I.kIn M.kp (run_makeX (us:=[]) M F hr hb hx I .nil (by simp) h)
end
theorem find_vinit(K:PySem.W.Frag):PySem.W.findCls K (.type "ValueError") (.type "type") "__init__"=some (.val (.builtin "ValueError.__init__")):=by kernel_rfl
section
variable{prog:Program}{w:World}{A:Around}{E:Value→Shared→Prop}{h:Heap}{g:Array GenState}{d:Drawn}{t:Nat}{os:OsState}
variable{nm q:Str}{C N:Addr}{bs bm:List Value}{hdct:Bool}{sn:List Str}{sub:List Value}{ab:Bool}{col:Option Bool}{dd:Option Addr}{k0 k1 k2 k3 k5:Option Value}
theorem exc_check_init {M:Model} (T:TailHas bm) {e:Addr} {oe:Obj} {rest:List Value} {Q:Unit→Shared→Prop}
    (hC:h.get? C=some (excClassObj nm q C N bs bm hdct sn sub ab col dd k0 k1 k2 k3 k5 "ValueError.__new__")) (he:h.get? e=some oe) (hcls:oe.cls= .ref C) (hq:Q () ⟨h,g,d,t,os⟩):
    wpAny M A (checkBuiltinCall "ValueError.__init__" ⟨.ref e::rest,[]⟩) Q E ⟨h,g,d,t,os⟩:=by
  have F:=PySem.F.excBase_ValueError;have hcB:(Value.ref C::bm).contains (.type "ValueError")=true:=by rw[List.contains_cons,T.hasB,Bool.or_true]
  have hshort:=F.noStar;simp only[checkBuiltinCall,F.initKind,F.initSplit,F.initRow]
  repeat (first|(with_reducible refine wpAny_loadPart_at he ?_;rw[hcls])|with_reducible refine wpAny_loadPart_at hC ?_|(with_reducible refine wpAny_isSubtype_exc hC ?_;rw[hcB])|wp_step)
  refine wpAny_onRaise ?_
  rw[show ∀(a b:String) (n:Nat),Bind.check ⟨.positional,"*","ValueError",.self,[⟨"args",.varPos,false⟩]⟩ a b n (List.map (fun x=>x.fst) ({pos:=Value.ref e::rest}:Args).kw)=pure () from
    fun a b n=>check_star_args _ _ _ _ _ _]
  exact wpAny_pure hq
theorem exc_vinit (T:TailHas bm) {e:Addr} {vs:Array Value} {de:Option Addr} {x:Value} {Q:Value→Shared→Prop}
    (hC:h.get? C=some (excClassObj nm q C N bs bm hdct sn sub ab col dd k0 k1 k2 k3 k5 "ValueError.__new__")) (he:h.get? e=some {cls:= .ref C,dict:=de,data:= .fields vs}) (hv:vs.size=6)
    (hq:∀h' T',h.get? T' =none→(∀b o,b≠e→h.get? b=some o→h'.get? b=some o)→h'.get? e=some {cls:= .ref C,dict:=de,data:= .fields (vs.setIfInBounds 0 (.ref T'))}→Q .none ⟨h',g,d,t,os⟩):
    wpAny (model prog w) A (call (.builtin "ValueError.__init__") [.ref e,x]) Q E ⟨h,g,d,t,os⟩:=by
  have F:=PySem.F.excBase_ValueError;have hsz:0<vs.size:=by omega
  refine wpAny_call (codeAny_call_builtin F.init.plain F.initEntry (exc_check_init T hC he rfl ?_));unfold Builtin.«BaseException.__init__»
  wp_walk
  have h0:vs[0]? =some vs[0]:=Array.getElem?_eq_getElem hsz;rw[h0];have he2:=Heap.get?_push_of_some {cls:= .type "tuple",data:= .seq #[x]} he
  have fin:Q .none ⟨(h.push {cls:= .type "tuple",data:= .seq #[x]}).update e (Obj.mapFields (·.setIfInBounds 0 (.ref h.objs.size))),g,d,t,os⟩:=by
    refine hq _ h.objs.size (Heap.get?_none_of_le (Nat.le_refl _)) (fun b o hb e' => ?_) ?_
    · rw[Heap.get?_update_other _ _ (Ne.symm hb)]
      exact Heap.get?_push_of_some _ e'
    · exact Heap.get?_update_self _ he2 rfl
  generalize vs[0]=v0;refine wpAny_pure ?_;refine wpAny_bind (wpAny_setField he2 rfl hsz ?_)
  cases v0 with
  |ref a=>exact wpAny_letGo (wpAny_pure fin)
  |_=>exact wpAny_pure (wpAny_pure fin)
end
section
variable{X:Cx}{p pos apos:Pos}{e1 e2:Expr}{t:TA}
noncomputable def tVInit(K:PySem.W.Frag)(t:TA):TE:=fun σ H Q=>t σ H fun vs H1=>∃a C dd n x,vs=[.ref a,x]∧H1 a=some (.ext (excP a C dd n))∧ExcC K C∧Q .non H1
theorem pe_vinit {pl:Sem Bool} (hg:Gl X "ValueError") (hm:X.mg "ValueError"=none) (ha:PA X [e1,e2] t)
    (hst:starEach [e1,e2] X.env=(false,eval e1 X.env)::starEach [e2] X.env:=by rfl) (hpl:(backTo pos (starEach [e2] X.env)).any (·.1)=false:=by rfl)
    (ht:eval (.Call (.Attribute (.Name "ValueError" p) "__init__" apos) [e1,e2] [] pos) X.env=(do
      let ov←eval (.Name "ValueError" p) X.env
      standAt apos.atName
      let(f,first)←holding [ov] (getMethod ov "__init__" pl)
      callWith pos f first (backTo pos (starEach [e1,e2] X.env)) (backToKw pos (keywordEach [] X.env))):=by rfl):
    PE X (.Call (.Attribute (.Name "ValueError" p) "__init__" apos) [e1,e2] [] pos) (tVInit X.K t):=by
  intro pins s σ H Q I h;refine PySem.W.methodCall_KW (pl:=pl) (ld_blt I hg hm Boot.«ValueError» ?_) ht;obtain⟨m,F⟩:=I.fr;refine PySem.W.method_type F I.mod.kin (by kernel_rfl) (by decide+kernel) (find_vinit X.K) (by decide+kernel) ?_;refine PyProof.Rows.callWith_builtin1 (thn (ha pos pins _ σ H _ (I.tok _) h) fun us s1 ⟨vs,H1,I1,r1,q1⟩=> ?_) hst hpl;obtain⟨a,C,dd,n,x,rfl,hx,hc,q⟩:=q1
  cases r1 with
  | cons r rr=>
    cases rr with
    | cons r' rr=>
      cases rr;cases r;obtain⟨nm,q',N,bs,bm,hdct,sn,sub,ab,col,dd',k0,k1,k2,k3,k5,lk,T⟩:=hc.obj;obtain⟨ws,he,hw,hn⟩:=ext_at I1.hok hx;obtain⟨hp,g,d,tk,os⟩:=s1;refine exc_vinit T (I1.kIn _ _ lk) he hw fun h' T' hT k he' =>⟨.non,H1,?_,rfl,q⟩;have I2:=I1.write (h' :=h') (t' :=tk) (x:=a) (e:=a) (o:= .ext (excP a C dd n)) (by rw[hx];exact True.intro) (.inl rfl) k ⟨_,he'⟩ (ext_ok ⟨_,he',by simp[hw],fun z=>by rw[Array.getElem?_setIfInBounds_ne (by decide)];exact hn z⟩);rw[upd_self hx] at I2;exact I2
end
end L2
namespace L2
open PySem PySem.Spec PyProof.Rows PySem.Builtin.ObjectAttr
theorem refuse_value(self:Value):refuseLoop self "__setattr__" [.type "ValueError",.type "Exception",.type "BaseException",.type "object"]=pure ():=by kernel_rfl
section
variable{prog:Program}{w:World}{A:Around}{E:Value→Shared→Prop}{h:Heap}{g:Array GenState}{d:Drawn}{t:Nat}{os:OsState}
variable {nm q:Str} {C N x:Addr} {bs bm:List Value} {sn:List Str} {sub:List Value} {ab:Bool} {col:Option Bool} {dd:Option Addr} {k0 k1 k2 k3 k5:Option Value} {newId:String}
  {mA:Str→Option Value} {name:Str} {v:Value} {K:PySem.W.Frag}
theorem exc_check_sa {M:Model} {o:Obj} {nameV:Value} {Q:Unit→Shared→Prop} (hob:bm.contains (.type "object")=true)
    (hC:h.get? C=some (excClassObj nm q C N bs bm true sn sub ab col dd k0 k1 k2 k3 k5 newId)) (hx:h.get? x=some o) (hc:o.cls= .ref C) (hq:Q () ⟨h,g,d,t,os⟩):
    wpAny M A (checkBuiltinCall "object.__setattr__" ⟨[.ref x,nameV,v],[]⟩) Q E ⟨h,g,d,t,os⟩:=by
  have SF:=PySem.F.store_object;have hcB:(Value.ref C::bm).contains (.type "object")=true:=by rw[List.contains_cons,hob,Bool.or_true]
  have ha:=SF.args (.ref x) nameV v;simp only[checkBuiltinCall,SF.kind,SF.split];refine wpAny_bind ?_
  · unfold isInstance
    repeat (first|(with_reducible refine wpAny_loadPart_at hx ?_;rw[hc])|(with_reducible refine wpAny_isSubtype_exc hC ?_;rw[hcB])|wp_step)
    exact hq
theorem exc_store_entry {tk:Tok} {Q:Fin→Shared→Prop} {ns:List Str} (hpass:∀self,refuseLoop self "__setattr__" bm=pure ()) (X:K.In h) (hna:PySem.W.findIn K (.ref C) name=some none)
    (hC:h.get? C=some (excClassObj nm q C N bs bm true sn sub ab col dd k0 k1 k2 k3 k5 newId)) (I:h.Inst x C mA)
    (hq:∀h' tk',h'.Inst x C (fun y=>if y=name then some v else mA y)→
      (∀b o,b≠x→(∀o₀ dx,h.get? x=some o₀→o₀.dict=some dx→b≠dx)→h.get? b=some o→h'.get? b=some o)→
      (∀o₀,h.get? x=some o₀→∃o₁,h'.get? x=some o₁∧o₁.cls=o₀.cls∧o₁.data=o₀.data∧o₁.slots=o₀.slots∧(∀dx,o₀.dict=some dx→o₁.dict=some dx)∧(o₀.dict=none→∃dx,o₁.dict=some dx∧h.objs.size≤dx))→Q (.done (.ret .none)) ⟨h',g,d,tk',os⟩) (hw:Within mA ns) (hsz:ns.length≤1000):
    wpAny (model prog w) A (Builtin.«object.__setattr__» ⟨[.ref x,.str name tk,v],[]⟩) Q E ⟨h,g,d,t,os⟩:=by
  obtain⟨o,hx,hc,hnc,hd⟩:=I;have hpass:=hpass (.ref x);unfold Builtin.«object.__setattr__»
  repeat (first|rw[refuse_eq]|(rw[refuseLoop_ref,hpass])|(with_reducible refine wpAny_loadPart_at hx ?_;rw[hc])|with_reducible refine wpAny_mroOf_exc hC ?_|(with_reducible refine(PySem.W.looks_findIn X hna).here ?_)|wp_step)
  rcases hd with⟨hdn,hmA⟩|⟨dx,hdx,hne,hns⟩
  ·
    rw[hdn,if_neg (by simp[typeHasDict])]
    split
    · rename_i hcd
      cases hcd
    split
    · rename_i c hcd
      exact absurd hcd (hnc c)
    · have hx₁:(h.push {cls:= .type "dict",data:= .dict #[]}).get? x=some o:=Heap.get?_push_of_some _ hx
      have hxs:x≠h.objs.size:=Nat.ne_of_lt (Heap.lt_size hx);refine wpAny_bind (wpAny_alloc' ?_);refine wpAny_bind (wpAny_update' hx₁ ?_);refine wpAny_pure ?_
      have hgd:((h.push {cls:= .type "dict",data:= .dict #[]}).update x fun o=>{cls:=o.cls,dict:=some h.objs.size,data:=o.data,slots:=o.slots}).get? h.objs.size
          =some {cls:= .type "dict",data:= .dict #[]}:=
        (Heap.get?_update_ne _ _ _ _ hxs.symm).trans (Heap.get?_push_at rfl rfl)
      have hnd:((h.push {cls:= .type "dict",data:= .dict #[]}).update x fun o=>{cls:=o.cls,dict:=some h.objs.size,data:=o.data,slots:=o.slots}).Ns h.objs.size (fun _=>none):=
        ⟨_,#[],_,hgd,rfl,fun e he=>absurd he (by simp),fun _=>rfl⟩
      show wpAny _ _ (storeInDict h.objs.size (.str name tk) name v) _ _ _;unfold storeInDict newKeyGuard;refine wpAny_bind (wpAny_pure (wpAny_bind (wpAny_nsSet1 (Heap.Ns1.of_empty hnd) fun h' hn' hs=> ?_)));obtain⟨oD,esD,epD,hoD,hdD,hcD⟩:=hn'.count (Within.cons name v Within.nil);refine wpAny_bind (wpAny_lookBehind hoD (by rw[hdD];exact pastItsLine_dict (Nat.le_trans hcD (by rw[List.length_cons,List.length_nil,sizeLine_eq];omega))) ?_)
      wp_walk
      have hx' :h'.get? x=some {cls:=o.cls,dict:=some h.objs.size,data:=o.data,slots:=o.slots}:= ?_
      refine hq h' _ ⟨{cls:=o.cls,dict:=some h.objs.size,data:=o.data,slots:=o.slots},hx',hc,hnc,.inr ⟨h.objs.size,rfl,hxs.symm,?_⟩⟩ (fun b ob hbx _ hb=> ?_)
        (fun o₀ h₀=>by obtain rfl:o=o₀:=Option.some.inj (hx.symm.trans h₀);exact⟨_,hx',rfl,rfl,rfl,(fun dx e=>by rw[hdn] at e;cases e),fun _=>⟨_,rfl,Nat.le_refl _⟩⟩)
      · obtain⟨o',es,ep,e1,e2,e3,eu,e4⟩:=hn'
        exact⟨o',es,ep,e1,e2,e3,eu,fun y=>by rw[e4 y];by_cases hy:y=name<;>simp[hy,hmA]⟩
      · exact(hs.2 b (Nat.ne_of_lt (Heap.lt_size hb))).trans ((Heap.get?_update_ne _ _ _ _ hbx).trans (Heap.get?_push_of_some _ hb))
      · refine(hs.2 x hxs).trans (Heap.get?_update_self _ hx₁ ?_)
        have hfr:=(Heap.get?_some_iff.mp hx).2;obtain⟨oc,od,odt,osl⟩:=o;cases odt<;>first|rfl|exact hfr
  ·
    rw[hdx];refine wpAny_pure ?_;show wpAny _ _ (storeInDict dx (.str name tk) name v) _ _ _;unfold storeInDict newKeyGuard;refine wpAny_bind (wpAny_pure (wpAny_bind (wpAny_nsSet1 hns fun h' hn' hs=> ?_)));obtain⟨oD,esD,epD,hoD,hdD,hcD⟩:=hn'.count (Within.cons name v hw);refine wpAny_bind (wpAny_lookBehind hoD (by rw[hdD];exact pastItsLine_dict (Nat.le_trans hcD (by rw[List.length_cons,sizeLine_eq];omega))) ?_)
    wp_walk
    refine hq h' _ ⟨o,(hs.2 x hne.symm).trans hx,hc,hnc,.inr ⟨dx,hdx,hne,hn'⟩⟩ (fun b ob _ hbd hb=> ?_)
      (fun o₀ h₀=>⟨o₀,(hs.2 x hne.symm).trans h₀,rfl,rfl,rfl,(fun _ e=>e),fun e=>by obtain rfl:o=o₀:=Option.some.inj (hx.symm.trans h₀);rw[hdx] at e;cases e⟩)
    exact(hs.2 b (hbd o dx hx hdx)).trans hb
theorem exc_store {Q:Unit→Shared→Prop} {ns:List Str} (hpass:∀self,refuseLoop self "__setattr__" bm=pure ()) (hob:bm.contains (.type "object")=true) (X:K.In h)
    (hs:PySem.W.findIn K (.ref C) "__setattr__"=some (some (.builtin "object.__setattr__"))) (hna:PySem.W.findIn K (.ref C) name=some none)
    (hC:h.get? C=some (excClassObj nm q C N bs bm true sn sub ab col dd k0 k1 k2 k3 k5 newId)) (I:h.Inst x C mA)
    (hq:∀h' tk',h'.Inst x C (fun y=>if y=name then some v else mA y)→
      (∀b o,b≠x→(∀o₀ dx,h.get? x=some o₀→o₀.dict=some dx→b≠dx)→h.get? b=some o→h'.get? b=some o)→
      (∀o₀,h.get? x=some o₀→∃o₁,h'.get? x=some o₁∧o₁.cls=o₀.cls∧o₁.data=o₀.data∧o₁.slots=o₀.slots∧(∀dx,o₀.dict=some dx→o₁.dict=some dx)∧(o₀.dict=none→∃dx,o₁.dict=some dx∧h.objs.size≤dx))→Q () ⟨h',g,d,tk',os⟩) (hw:Within mA ns) (hsz:ns.length≤1000):
    wpAny (model prog w) A (setAttr (.ref x) name v) Q E ⟨h,g,d,t,os⟩:=by
  obtain⟨o,hx,hc,hnc,hd⟩:=id I
  have J:∃od,PySem.W.InstAt h x o C od:=by
    rcases hd with⟨hdn,_⟩|⟨dx,hdx,_,oD,es,ep,h1,_⟩
    · exact⟨none,hx,hc,by cases e:o.data<;>simp_all[PySem.W.notCls],by rw[hdn];trivial⟩
    · exact⟨some oD,hx,hc,by cases e:o.data<;>simp_all[PySem.W.notCls],by rw[hdx];exact h1⟩
  obtain⟨od,J⟩:=J;refine PySem.W.set_plain (s:=⟨h,g,d,t,os⟩) X J hs ?_;exact codeAny_call_builtin PySem.F.store_object.slot.plain PySem.F.store_object.entry (exc_check_sa hob hC hx hc (exc_store_entry hpass X hna hC I (fun h' tk' a b c=>hq h' tk' a b c) hw hsz))
end
end L2
namespace L2
open PySem PySem.Spec PyProof.Rows
structure ExcF (K:PySem.W.Frag) (C:Addr):Prop where
  obj:∃nm q N bs bm sn sub ab col dd k0 k1 k2 k3 k5,K.lookup C=some (excClassObj nm q C N bs bm true sn sub ab col dd k0 k1 k2 k3 k5 "ValueError.__new__")∧(∀self,refuseLoop self "__setattr__" bm=pure ())∧bm.contains (.type "object")=true
  sa:PySem.W.findIn K (.ref C) "__setattr__"=some (some (.builtin "object.__setattr__"))
section
variable{X:Cx}{pins:List (Addr×Obj)}{σ:St}{H:Hp}{s:Shared}{a C:Addr}{n:Bool}{f:Str}{y:V}{u:Value}{A:Around}{E:Value→Shared→Prop}
theorem rel_within {fs:List (Str×V)} {mA:Str→Option Value} (r:∀f,RelO (fs.lookup f) (mA f)):PySem.Within mA (fs.map (·.1)):=by
  intro g hg;have:=r g
  cases e:fs.lookup g with
  | none=>rw[e] at this;cases q:mA g with
    |none=>rw[q] at hg;simp at hg
    |some v=>rw[q] at this;cases this
  | some v=>
    obtain⟨l1,l2,h1,_⟩:=List.lookup_eq_some_iff.mp e;rw[h1];simp
theorem Inv.two {h' :Heap} {t' :Nat} {dx:Addr} {o1 o2:HO} {φ:Heap→Prop} (I:Inv X pins σ H s) (e:H a=some (.ext φ)) (hd1:(∀xs,H dx≠some (.tup xs))∧(∀y,H dx≠some (.own y))∧(∀o u,H dx≠some (.frz o u))∧∀ps,H dx≠some (.tbl ps)) (hd2:H dx=none→s.heap.objs.size≤dx) (hne:dx≠a)
    (k:∀b o,b≠a→b≠dx→s.heap.get? b=some o→h'.get? b=some o) (ha:∃o,h'.get? a=some o) (hx:∃o,h'.get? dx=some o)
    (n1:ObjOk X.prog X.w (upd (upd H a o1) dx o2) h' a o1) (n2:ObjOk X.prog X.w (upd (upd H a o1) dx o2) h' dx o2):Inv X pins σ (upd (upd H a o1) dx o2) {s with heap:=h',toks:=t'}:=by
  have na:∀b,H b=none→b≠a:=fun b q z=>by rw[z,e] at q;cases q
  have nd:∀b o,s.heap.get? b=some o→H b=none→b≠dx:=fun b o q q' z=>by
    subst z;exact absurd (Nat.lt_of_lt_of_le (Heap.lt_size q) (hd2 q')) (Nat.lt_irrefl _)
  have far:∀b,b≠a→b≠dx→upd (upd H a o1) dx o2 b=H b:=fun b h1 h2=>by rw[upd_ne h2,upd_ne h1]
  refine I.step (g' :=s.gens) (d' :=s.drawn) (ch:=[]) (fun _ z=>nomatch z) (fun b o _ _ _ q n=>k b o (na b n) (nd b o q n) q) (fun b o _ _ _ q n=>⟨o.slots,k b o (na b n) (nd b o q n) q⟩) (fun b o _ q n=>by rw[far b (na b n) (nd b o q n)];exact n)
    (fun b o _ q=> ?_) (fun b xs q=> ?_) (fun b o u q=> ?_) (fun b ps q=>⟨#[],?_⟩) (fun m hm=> ?_) (fun b u q=> ?_) I.bare
  · by_cases h1:b=a
    · rw[h1];exact ha
    · by_cases h2:b=dx
      · rw[h2];exact hx
      · exact⟨o,k b o h1 h2 q⟩
  · rw[far b (fun z=>by rw[z,e] at q;cases q) (fun z=>hd1.1 xs (by rw[←z];exact q))];exact q
  · rw[far b (fun z=>by rw[z,e] at q;cases q) (fun z=>hd1.2.2.1 o u (by rw[←z];exact q))];exact q
  · rw[far b (fun z=>by rw[z,e] at q;cases q) (fun z=>hd1.2.2.2 ps (by rw[←z];exact q)),q];simp
  · obtain⟨o,es,ep,q,r⟩:=hm
    exact⟨o,es,ep,k _ o (na _ I.free) (nd _ o q I.free) q,r⟩
  · by_cases h2:b=dx
    · subst h2
      rw[upd_same] at q;cases q;exact n2
    · rw [upd_ne h2] at q
      by_cases h1:b=a
      · subst h1
        rw[upd_same] at q;cases q;exact n1
      · rw[upd_ne h1] at q
        refine(I.hok b u q).stay (fun c v hc q' =>k c v ?_ ?_ q') (fun c q' => ?_) fun c ys q' => ?_
        · rcases hc with z|z
          · rw[z];exact h1
          · exact fun z' =>by rw[z',e] at z;cases z
        · rcases hc with z|z
          · rw[z];exact h2
          · exact fun z' =>hd1.2.1 b (by rw[←z'];exact z)
        · rw[far c (fun z=>by rw[z,e] at q';cases q') (fun z=>hd1.2.1 b (by rw[←z];exact q'))];exact q'
        · rw[far c (fun z=>by rw[z,e] at q';cases q') (fun z=>hd1.1 ys (by rw[←z];exact q'))];exact q'
theorem rel_put {fs:List (Str×V)} {mA:Str→Option Value} (r:∀f,RelO (fs.lookup f) (mA f)) (ry:RelV y u):∀g,RelO ((putF f y fs).lookup g) (if g=f then some u else mA g):=fun g=>by
  rw[lookup_putF];by_cases h:g=f
  · rw[if_pos h,if_pos h];exact ry
  · rw[if_neg h,if_neg h];exact r g
theorem setattr_x1 {Q:Unit→Shared→Prop} (I:Inv X pins σ H s) (e:H a=some (.ext (excP a C none n))) (c:ExcF X.K C) (na:NoAttr X.K C f) (ry:RelV y u)
    (h:∀dx s',H dx=none→dx≠a→Inv X pins σ (upd (upd H a (.ext (excP a C (some dx) n))) dx (.xd [(f,y)])) s'→Q () s'):wpAny (model X.prog X.w) A (setAttr (.ref a) f u) Q E s:=by
  obtain⟨nm,q,N,bs,bm,sn,sub,ab,col,dd,k0,k1,k2,k3,k5,lk,hp,ho⟩:=c.obj;obtain⟨vs,he,hv,hn⟩:=ext_at I.hok e;have hC:=I.kIn _ _ lk;have I0:=I;obtain⟨hh,g,d,tk,os⟩:=s;refine exc_store (mA:=fun _=>none) (ns:=[]) hp ho I.kIn c.sa na hC ⟨_,he,rfl,(fun c z=>by cases z),.inl ⟨rfl,fun _=>rfl⟩⟩ (fun h' tk' inst kk same=> ?_) (fun g hg=>by simp at hg) (by simp);obtain⟨o1,e1,ec,ed,es,_,enew⟩:=same _ he;obtain⟨dx,ex,hdx⟩:=enew rfl;obtain⟨o2,e2,_,_,hd2⟩:=inst;rw[e1] at e2;cases e2;rcases hd2 with⟨z,_⟩|⟨d',hd',ne',ns'⟩
  · rw[ex] at z;cases z
  rw[ex] at hd';cases hd';have hHdx:H dx=none:=I0.hok.fresh hdx
  have eo:o1={cls:= .ref C,dict:=some dx,data:= .fields vs}:=by
    obtain⟨oc,od,odt,osl⟩:=o1;simp only at ec ed es ex;subst ec ed es ex;rfl
  rw[eo] at e1;refine h dx _ hHdx ne' (I0.two (t' :=tk') e ⟨(fun xs z=>by rw[hHdx] at z;cases z),(fun y z=>by rw[hHdx] at z;cases z),(fun o u z=>by rw[hHdx] at z;cases z),(fun ps z=>by rw[hHdx] at z;cases z)⟩ (fun _=>hdx) ne' (fun b o hb _ q=>kk b o hb (fun o0 dx0 h0 h1=>by rw[he] at h0;cases h0;cases h1) q) ⟨_,e1⟩ (let⟨o,_,_,h1,_⟩:=ns';⟨o,h1⟩) (ext_ok ⟨vs,e1,hv,hn⟩) ⟨_,ns',?_⟩);exact rel_put (fs:=[]) (fun _=>trivial) ry
theorem setattr_x2 {dx:Addr} {fs:List (Str×V)} {Q:Unit→Shared→Prop} (I:Inv X pins σ H s) (e:H a=some (.ext (excP a C (some dx) n))) (ed:H dx=some (.xd fs)) (hne:dx≠a) (hl:fs.length≤900) (c:ExcF X.K C) (na:NoAttr X.K C f) (ry:RelV y u)
    (h:∀s',Inv X pins σ (upd H dx (.xd (putF f y fs))) s'→Q () s'):wpAny (model X.prog X.w) A (setAttr (.ref a) f u) Q E s:=by
  obtain⟨nm,q,N,bs,bm,sn,sub,ab,col,dd,k0,k1,k2,k3,k5,lk,hp,ho⟩:=c.obj;obtain⟨vs,he,hv,hn⟩:=ext_at I.hok e;obtain⟨mA,ns,r⟩:=(show ObjOk X.prog X.w H s.heap dx (.xd fs) from I.hok dx _ ed);have hC:=I.kIn _ _ lk;have I0:=I;obtain⟨hh,g,d,tk,os⟩:=s;refine exc_store (mA:=mA) (ns:=fs.map (·.1)) hp ho I.kIn c.sa na hC ⟨_,he,rfl,(fun c z=>by cases z),.inr ⟨dx,rfl,hne,ns⟩⟩ (fun h' tk' inst kk same=> ?_) (rel_within r) (by rw[List.length_map];omega);obtain⟨o1,e1,ec,edt,es,eold,_⟩:=same _ he;have ex:=eold dx rfl;obtain⟨o2,e2,_,_,hd2⟩:=inst;rw[e1] at e2;cases e2;rcases hd2 with⟨z,_⟩|⟨d',hd',ne',ns'⟩
  · rw[ex] at z;cases z
  rw[ex] at hd';cases hd'
  have eo:o1={cls:= .ref C,dict:=some dx,data:= .fields vs}:=by
    obtain⟨oc,od,odt,osl⟩:=o1;simp only at ec edt es ex;subst ec edt es ex;rfl
  rw[eo] at e1;have I2:=I0.two (t' :=tk') (o1:= .ext (excP a C (some dx) n)) (o2:= .xd (putF f y fs)) e ⟨(fun xs z=>by rw[ed] at z;cases z),(fun y z=>by rw[ed] at z;cases z),(fun o u z=>by rw[ed] at z;cases z),(fun ps z=>by rw[ed] at z;cases z)⟩ (fun z=>by rw[ed] at z;cases z) hne (fun b o hb hb2 q=>kk b o hb (fun o0 dx0 h0 h1=>by rw[he] at h0;cases h0;cases h1;exact hb2) q) ⟨_,e1⟩ (let⟨o,_,_,h1,_⟩:=ns';⟨o,h1⟩) (ext_ok ⟨vs,e1,hv,hn⟩) ⟨_,ns',rel_put r ry⟩;rw[upd_self e] at I2;exact h _ I2
end
section
variable{X:Cx}{o value:Expr}{f:Str}{pos pos' :Pos}{ta tv:TE}
noncomputable def sFldX (K:PySem.W.Frag) (ta tv:TE) (f:Str):TS:=fun D σ H=>tv σ H fun y H1=>ta σ H1 fun x H2=>∃a C n,x= .ref a∧ExcF K C∧NoAttr K C f∧
  ((H2 a=some (.ext (excP a C none n))∧∀dx,H2 dx=none→dx≠a→D.nx σ (upd (upd H2 a (.ext (excP a C (some dx) n))) dx (.xd [(f,y)])))∨
    ∃dx fs,H2 a=some (.ext (excP a C (some dx) n))∧H2 dx=some (.xd fs)∧dx≠a∧fs.length≤900∧D.nx σ (upd H2 dx (.xd (putF f y fs))))
theorem ps_fldX (ha:PE X o ta) (hv:PE X value tv) (hs:swapsWith value (some (.Attribute o f pos')) pos.line X.env=pure false):PS X (.Assign [.Attribute o f pos'] value pos) (sFldX X.K ta tv f):=by
  intro pins s σ H D I h;refine plainObj_wpAny_Assign_Attribute (thn (hv pins s σ H _ I h) fun u s1 ⟨y,H1,I1,ry,q⟩=>thn (ha pins s1 σ H1 _ I1 q) fun ov s2 ⟨x,H2,I2,rx,a,C,n,ex,c,na,q2⟩=> ?_) hs;subst ex;obtain rfl:ov=Value.ref a:=rx;rcases q2 with⟨e,q3⟩|⟨dx,fs,e,ed,ne,hl,q3⟩
  · exact setattr_x1 I2 e c na ry fun dx s3 hn ne I3=>⟨σ,_,I3,q3 dx hn ne⟩
  · exact setattr_x2 I2 e ed ne hl c na ry fun s3 I3=>⟨σ,_,I3,q3⟩
end
end L2
namespace L2
open PySem PySem.Spec PyProof.Rows PySem.Builtin.ObjectAttr
section
variable{prog:Program}{w:World}{A:Around}{E:Value→Shared→Prop}{s:Shared}{K:PySem.W.Frag}{x C:Addr}{ox:Obj}{od:Option Obj}{name:Str}{expr:Bool}{Q:Value→Shared→Prop}{v:Value}
theorem exc_getattr (X:K.In s.heap) (I:PySem.W.InstAt s.heap x ox C od) (hga:PySem.W.findIn K (.ref C) "__getattribute__"=some (some (.builtin "BaseException.__getattribute__"))) (hhk:PySem.W.findIn K (.ref C) "__getattr__"=some none)
    (hm:PySem.W.mroIn K C (.type "BaseException")=some true) (hf:PySem.W.findObj K C od name=some (.value v)) (hh:PySem.W.handedIn v=true) (h:Q v {s with toks:=s.toks+1}):
    wpAny (model prog w) A (getAttr (.ref x) name expr) Q E s:=by
  have ht:=I.type (M:=model prog w);refine wpAny_bind (wpAny_mkText (wpAny_holding (wpAny_bind (ht _ _ _ _ (fun _ _ e=>e) (wpAny_bind (PySem.W.looks_findIn X hga _ _ _ _ (fun _ _ e=>e) ?_))))));dsimp only;rw[show(onTheHeap (Value.ref C)&&Value.builtin "BaseException.__getattribute__" ==Value.builtin "object.__getattribute__")=false from by rw[show(Value.builtin "BaseException.__getattribute__" ==Value.builtin "object.__getattribute__")=false from by decide+kernel,Bool.and_false],if_neg (by decide)];have hb:PySem.W.Looks (model prog w) s.heap (hookBefore (.ref C)) none:=PySem.W.looks_hook X (by show(if onTheHeap (Value.ref C)=true then _ else _)=_;exact hhk);refine wpAny_bind (hb _ _ _ _ (fun _ _ e=>e) (wpAny_bind (wpAny_attempt (wpAny_holding ?_))));unfold callGetattribute;rw[show(expr&&onTheHeap (Value.builtin "BaseException.__getattribute__"))=false from Bool.and_false _,if_neg (by decide)];unfold boundAndCalled;rw[PySem.F.attr_ValueError.ga.bind];refine wpAny_bind (wpAny_pure ?_);show wpAny _ _ (call (.builtin "BaseException.__getattribute__") [.ref x,.str name s.toks]) _ _ _;refine wpAny_call ?_;refine codeAny_call_builtin PySem.F.attr_ValueError.ga.plain PySem.F.entry_bexc_ga ?_;refine @PySem.W.check_slot (model prog w) _ _ {s with toks:=s.toks+1} "BaseException.__getattribute__" "BaseException" "__getattribute__" (.ref x) [.str name s.toks] [] _ (by decide+kernel) (by decide+kernel) (ht.andThen (PySem.W.looks_mroIn X hm)) (PySem.F.args_bexc_ga (.ref x) (.str name s.toks)) ?_;unfold Builtin.«object.__getattribute__»;refine wpAny_bind (wpAny_pure ?_);refine wpAny_bind (wpAny_pure ?_);refine wpAny_bind (ht _ _ _ _ (fun _ _ e=>e) ?_);refine wpAny_bind (PySem.W.looks_find X I hf _ _ _ _ (fun _ _ e=>e) ?_);refine wpAny_pure ?_;show wpAny _ _ (handedOut v) _ _ _;rw[PySem.W.handedOut_of hh];exact wpAny_pure h
end
structure ExcG (K:PySem.W.Frag) (C:Addr):Prop where
  ga:PySem.W.findIn K (.ref C) "__getattribute__"=some (some (.builtin "BaseException.__getattribute__"))
  hk:PySem.W.findIn K (.ref C) "__getattr__"=some none
  mro:PySem.W.mroIn K C (.type "BaseException")=some true
  hd:PySem.W.hasDictIn K C=true
section
variable{X:Cx}{e:Expr}{f:Str}{pos:Pos}{ta:TE}
theorem getattr_x {pins:List (Addr×Obj)} {σ:St} {H:Hp} {s:Shared} {a C dx:Addr} {n b:Bool} {fs:List (Str×V)} {v:V} {A:Around} {E:Value→Shared→Prop} {Q:Value→Shared→Prop} (I:Inv X pins σ H s) (e:H a=some (.ext (excP a C (some dx) n))) (ed:H dx=some (.xd fs))
    (c:ExcG X.K C) (na:NoAttr X.K C f) (l:fs.lookup f=some v) (h:∀u s',Inv X pins σ H s'→RelV v u→Q u s'):wpAny (model X.prog X.w) A (getAttr (.ref a) f b) Q E s:=by
  obtain⟨vs,he,_,_⟩:=ext_at I.hok e;obtain⟨mA,ns,r⟩:=(show ObjOk X.prog X.w H s.heap dx (.xd fs) from I.hok dx _ ed);obtain⟨od,ho,hl⟩:=lookIn_ns ns;obtain⟨u,hu,ru⟩:=RelO.some_of (v:=v) (o:=mA f) (by rw[←l];exact r f);exact exc_getattr I.kIn ⟨he,rfl,rfl,ho⟩ c.ga c.hk c.mro (PySem.W.findObj_own c.hd na rfl (by rw[hl,hu])) (handed_of ru) (h u _ (I.tok _) ru)
noncomputable def tFldX(K:PySem.W.Frag)(ta:TE)(f:Str):TE:=fun σ H Q=>ta σ H fun x H1=>∃a C dx n fs v,x= .ref a∧H1 a=some (.ext (excP a C (some dx) n))∧H1 dx=some (.xd fs)∧ExcG K C∧NoAttr K C f∧fs.lookup f=some v∧Q v H1
theorem pe_fldX (he:PE X e ta) (hb:attributeBase e f X.env (eval e X.env)=eval e X.env):PE X (.Attribute e f pos) (tFldX X.K ta f):=by
  intro pins s σ H Q I h;refine attr_of hb (thn (he pins s σ H _ I h) fun u s1 ⟨x,H1,I1,rx,a,C,dx,n,fs,v,ex,ea,ed,c,na,l,q⟩=> ?_);subst ex;obtain rfl:u=Value.ref a:=rx;exact getattr_x I1 ea ed c na l fun u' s2 I2 ru=>⟨v,H1,I2,ru,q⟩
end
end L2
namespace L2
open PySem PySem.Spec PyProof.Rows
section
variable{X:Cx}{pins:List (Addr×Obj)}{σ:St}{H:Hp}{s:Shared}{a C:Addr}{dd:Option Addr}{n:Bool}{E:XK}
end
section
variable{M:Model}{A:Around}{E:Value→Shared→Prop}{env:Env}
variable{nm q:Str}{C N:Addr}{bs bm:List Value}{hdct:Bool}{sn:List Str}{sub:List Value}{ab:Bool}{col:Option Bool}{dd:Option Addr}{k0 k1 k2 k3 k5:Option Value}{newId:String}
end
section
variable{X:Cx}{e:Expr}{pos:Pos}{t:TE}{E:XK}
end
end L2
namespace L2
open PySem PySem.Spec PyProof.Rows
section
variable{M:Model}{A:Around}{E:Value→Shared→Prop}{s:Shared}
end
section
variable{X:Cx}{pins:List (Addr×Obj)}{σ:St}{H:Hp}{s:Shared}{a C:Addr}{dd:Option Addr}{n:Bool}
end
end L2
namespace L2
open PySem PySem.Spec PyProof.Rows
section
variable{X:Cx}{pins:List (Addr×Obj)}{σ:St}{H:Hp}{s:Shared}{a T:Addr}
noncomputable abbrev Cx.pinned(X:Cx)(pn:List (Addr×Obj))(E:Value→Shared→Prop):Cx:={X with pn:=X.pn++pn,xe:=E}
end
section
variable{M:Model}{A:Around}{E:Value→Shared→Prop}
end
section
variable{X:Cx}{body suite:List Stmt}{b0:Stmt}{rest:List ExceptHandler}{c nm:Str}{cp hpos pos:Pos}{tb:XK→TS}{th:TS}{i:Nat}{D:Addr}
end
end L2
namespace L2
open PySem PySem.Spec PyProof.Rows
section
variable{P:Program}{w:World}{K:PySem.W.Frag}{mg:Str→Option Value}{base:Heap}
end
end L2
namespace L2
open PySem PySem.Spec PyProof.Rows
section
variable{X:Cx}
theorem strs_vals:∀{xs:List Str} {us:List Value},Vals (xs.map V.str) us→∃l:List (Str×Tok),us=strValues l∧l.map (·.1)=xs
  |[],_,.nil=>⟨[],rfl,rfl⟩
  | x::xs,_,.cons ⟨t,e⟩ r=>by
    obtain⟨l,rfl,rfl⟩:=strs_vals r;subst e;exact⟨(x,t)::l,rfl,rfl⟩
theorem mt_join:MtM X "str.join" (fun x vs H Q=>∃a b xs,x= .str a∧vs=[.ref b]∧H b=some (.lst (xs.map V.str))∧JoinOk a xs=true∧Q (.str (Txt.join a xs)) H):=by
  intro pins s σ H x vs v us Q I rx rv h;obtain⟨a,b,xs,rfl,rfl,hb,hj,q⟩:=h;obtain⟨t,rfl⟩:=rx;obtain⟨u,rfl,ru⟩:=rv.one;cases ru;obtain⟨z,its,n,r,hl,e⟩:=I.lstM hb;obtain⟨l,rfl,rfl⟩:=strs_vals r;exact SC.join (x:=a) (D:=b) (l:=l) ⟨_,e,rfl,_,rfl⟩ rfl hj fun t' k=>⟨.str _,H,I.tok k,⟨t',rfl⟩,q⟩
noncomputable def CDivW(i j:Int):Prop:=0<j∧j.natAbs.log2<9000
theorem op_fdivW:OpR X (binaryOp .FloorDiv) (rI CDivW fun i j=> .int (i / j)):=opI fun i j _ _ _ _ _ hc q=>by
  have h1:(0:Int)<j:=hc.1;exact floordiv_int (by omega) (by rw[Int.fdiv_eq_ediv_of_nonneg i (by omega)];exact q) (.inl (PyProof.noPylong_of_log2 hc.2))
end
end L2
namespace My
open PySem PySem.NumText PyProof.Rows L2
end My
namespace L2
open PySem PySem.Spec PySem.SeqAt PyProof.Rows
section
variable{X:Cx}
theorem op_rep_str:OpR X (binaryOp .Mult) (fun x y H Q=>∃z n,x= .str z∧y= .int n∧MulOk z n∧Q (.str (Txt.mul z n)) H):=by
  intro pins s σ H x y v u Q I rx ry h;obtain⟨z,n,rfl,rfl,ok,q⟩:=h;obtain⟨t,rfl⟩:=rx;obtain⟨t',rfl⟩:=ry;exact SB.mul ok fun t' k=>⟨.str _,H,I.tok k,⟨t',rfl⟩,q⟩
end
section
variable{X:Cx}{e:Expr}{f:Str}{pos:Pos}{ta:TE}{K:PySem.W.Frag}
theorem pe_fldXK (hK:X.K=K) (he:PE X e ta) (hb:attributeBase e f X.env (eval e X.env)=eval e X.env):PE X (.Attribute e f pos) (tFldX K ta f):=by
  subst hK;exact pe_fldX he hb
end
section
variable{X:Cx}{e:Expr}{es:List Expr}{st:Stmt}{sts:List Stmt}{te:TE}{ta:TA}{t u:TS}
structure PAm (X:Cx) (es:List Expr) (t:TA):Prop where
  h:PA X es t
structure PEm (X:Cx) (e:Expr) (t:TE):Prop where
  h:PE X e t
structure PSm (X:Cx) (st:Stmt) (t:TS):Prop where
  h:PS X st t
structure PSsm (X:Cx) (sts:List Stmt) (t:TS):Prop where
  h:PSs X sts t
theorem pam_nil:PAm X [] tNil:=⟨pa_nil⟩
theorem pam_cons(hs:∀(es:List Expr) (env:Env),starEach (e::es) env=(false,eval e env)::starEach es env)(ha:PE X e te)(hr:PAm X es ta):PAm X (e::es) (tCons te ta):=⟨pa_cons ha hr.h (hs _ _)⟩
theorem pem_lst{pos:Pos}(h:PAm X es ta):PEm X (.List es pos) (tLst ta):=⟨pe_lst h.h⟩
theorem psm_set {i:Nat} {x:Str} {pos pos' :Pos} (hN:X.N.Nodup) (hi:X.N[i]? =some x) (hx:Loc X.env.scope x) (he:PEm X e te) (hs:swapsWith e (some (.Name x pos')) pos.line X.env=pure false) (hf:X.fn x=true∨X.env.scope.names.lookup x=some .local):
    PSm X (.Assign [.Name x pos'] e pos) (tAsg te (gName i)):=⟨ps_set hN hi hx he.h hs hf⟩
theorem pssm_cons(h1:PSm X st t)(h2:PSsm X sts u):PSsm X (st::sts) (tSeq t u):=⟨pss_cons h1.h h2.h⟩
theorem pssm_one(h1:PSm X st t):PSsm X [st] t:=⟨pss_one h1.h⟩
end
section
variable{P:Program}{w:World}{K:PySem.W.Frag}{mg:Str→Option Value}{base:Heap}
theorem Fun.okM {x qual:Str} {st:Stmt} {f:Addr} {fd:FuncData} {N ps:List Str} {k:Nat} {sp:Sp} (F:Fun K x qual st f fd) (S:FnScope N ps (defScope st)) (len:∀vs H Q E,sp vs H Q E→vs.length=ps.length)
    (hbody:∀(cdv:Value) (A:Around) (outer:List Env) (s:Shared) (H:Hp) (vs:List V) (Q:VK) (E:XK),Room k (A.deeper (envOfC qual (defScope st) s.heap.objs.size f cdv))→sp vs H Q E→
      ∃t,PSsm (cxOf CX0 P w K mg base N qual (defScope st) f cdv A outer s H E).nox (defBody st) t∧t {nx:=fun _ H' =>Q .non H',rt:=Q} (start N vs) H):FnOk P w K mg base CX0 (k+1) f fd ps sp:=
  F.ok S len fun cdv A outer s H vs Q E hr h=>by
    obtain⟨t,h,q⟩:=hbody cdv A outer s H vs Q E hr h;exact⟨t,h.h,q⟩
end
end L2
namespace L2
open PySem PySem.Spec PyProof.Rows PySem.Builtin.ObjectAttr
structure ExcK (K:PySem.W.Frag) (C:Addr):Prop extends ExcG K C where
  ca:PySem.W.findIn K (.ref C) "__class__"=some (some (.builtin "object.__class__"))
  gt:PySem.W.specialIn K (.builtin "object.__class__") "__get__"=some (some (.builtin "getset_descriptor.__get__"))
  tk:PySem.W.takesIn K (.builtin "object.__class__")=some true
  mo:PySem.W.mroIn K C (.type "object")=some true
section
variable{K:PySem.W.Frag}{C:Addr}
theorem find_class (c:ExcK K C) (od:Option Obj):PySem.W.findObj K C od "__class__"=some (.bind (.builtin "getset_descriptor.__get__") (.builtin "object.__class__")):=by
  obtain⟨cd,hc,_⟩:=PySem.W.any_some c.hd;unfold PySem.W.findObj;rw[hc,Option.bind_some,c.ca,Option.bind_some];simp[c.gt,c.tk]
variable{prog:Program}{w:World}{A:Around}{E:Value→Shared→Prop}{s:Shared}{x:Addr}{ox:Obj}{od:Option Obj}
theorem exc_class {Q:Option Value→Shared→Prop} (c:ExcK K C) (X:K.In s.heap) (I:PySem.W.InstAt s.heap x ox C od) (h:Q (some (.ref C)) {s with toks:=s.toks+1}):
    wpAny (model prog w) A (getAttr? (.ref x) "__class__") Q E s:=by
  have ht:=I.type (M:=model prog w);unfold getAttr? getAttrBy? getAttrBy;refine wpAny_bind (wpAny_mkText (wpAny_bind (wpAny_attempt (wpAny_holding (wpAny_bind (ht _ _ _ _ (fun _ _ e=>e) (wpAny_bind (PySem.W.looks_findIn X c.ga _ _ _ _ (fun _ _ e=>e) ?_))))))));dsimp only;rw[show(onTheHeap (Value.ref C)&&Value.builtin "BaseException.__getattribute__" ==Value.builtin "object.__getattribute__")=false from by rw[show(Value.builtin "BaseException.__getattribute__" ==Value.builtin "object.__getattribute__")=false from by decide+kernel,Bool.and_false],if_neg (by decide)];have hb:PySem.W.Looks (model prog w) s.heap (hookBefore (.ref C)) none:=PySem.W.looks_hook X (by show(if onTheHeap (Value.ref C)=true then _ else _)=_;exact c.hk);refine wpAny_bind (hb _ _ _ _ (fun _ _ e=>e) (wpAny_bind (wpAny_attempt (wpAny_holding ?_))));unfold callGetattribute;rw[show(false&&onTheHeap (Value.builtin "BaseException.__getattribute__"))=false from rfl,if_neg (by decide)];unfold boundAndCalled;rw[PySem.F.attr_ValueError.ga.bind];refine wpAny_bind (wpAny_pure ?_);show wpAny _ _ (call (.builtin "BaseException.__getattribute__") [.ref x,.str "__class__" s.toks]) _ _ _;refine wpAny_call ?_;refine codeAny_call_builtin PySem.F.attr_ValueError.ga.plain PySem.F.entry_bexc_ga ?_;refine @PySem.W.check_slot (model prog w) _ _ {s with toks:=s.toks+1} "BaseException.__getattribute__" "BaseException" "__getattribute__" (.ref x) [.str "__class__" s.toks] [] _ (by decide+kernel) (by decide+kernel) (ht.andThen (PySem.W.looks_mroIn X c.mro)) (PySem.F.args_bexc_ga (.ref x) (.str "__class__" s.toks)) ?_;unfold Builtin.«object.__getattribute__»;refine wpAny_bind (wpAny_pure ?_);refine wpAny_bind (wpAny_pure ?_);refine wpAny_bind (ht _ _ _ _ (fun _ _ e=>e) ?_);refine wpAny_bind (PySem.W.looks_find X I (find_class c od) _ _ _ _ (fun _ _ e=>e) ?_);show wpAny _ _ (holding [Value.builtin "object.__class__"] (call (.builtin "getset_descriptor.__get__") [.builtin "object.__class__",.ref x,.ref C])>>= ret) _ _ _;refine wpAny_bind (wpAny_holding (wpAny_call (PySem.W.class_get (s:={s with toks:=s.toks+1}) (ox:=ox) (od:=od) X I c.mo ?_)));refine wpAny_pure ?_;show wpAny _ _ (handedOut (.ref C)) _ _ _;rw[PySem.W.handedOut_of rfl];exact wpAny_pure (wpAny_pure h)
theorem kitx_exc (c:ExcK K C):PySem.W.KitX K (.ref x) (.ref C) (fun h=>PySem.W.InstAt h x ox C od) where
  ty:=fun _ _ _ I=>I.type
  it :=fun _ _ X _=>by
    obtain⟨cdD,hcD,_⟩:=PySem.W.any_some c.hd;unfold PySem.W.clsIn at hcD
    split at hcD
    · rename_i c' d' cd' sl' ho
      intro A' Q' E' s' k q;unfold isType loadHead;exact wpAny_bind (wpAny_loadPart (k _ _ (X _ _ ho)) (wpAny_pure q))
    · cases hcD
  ne :=fun h tp dd its n sl X htp=>by
    obtain⟨cdD,hcD,_⟩:=PySem.W.any_some c.hd;refine Bool.eq_false_iff.mpr fun q=> ?_;have e:C=tp:=Value.ref.inj (beq_iff_eq.mp q);subst e;unfold PySem.W.clsIn at hcD
    split at hcD
    · rename_i c' d' cd' sl' ho
      have z:=(X _ _ ho).symm.trans htp;cases z
    · cases hcD
  ca:=fun X I k=>exc_class c X I k
end
section
variable{X:Cx}{K:PySem.W.Frag}
theorem bools_vals:∀{bs:List Bool} {us:List Value},Vals (bs.map V.bl) us→us=bs.map Value.bool
  |[],_,.nil=>rfl
  | b::r,_,.cons e q=>by
    cases e;rw[bools_vals q];rfl
theorem bools_reads (h:Heap):∀bs:List Bool,ReadsAll h (bs.map Value.bool) (bs.map PyData.bool) []
  |[]=> .nil
  |b::r=> .cons (.bool b) (bools_reads h r)
theorem bools_shape:∀bs:List Bool,(bs.map PyData.bool).all Shape.bool.has=true
  |[]=>rfl
  | b::r=>by
    rw[List.map_cons,List.all_cons,bools_shape r];rfl
theorem mt_count:MtM X "list.count" (fun x vs H Q=>∃(l:Addr) (bs:List Bool) (b:Bool),x= .ref l∧vs=[.bl b]∧H l=some (.lst (bs.map V.bl))∧Q (.int (countIn (.bool b) (bs.map PyData.bool))) H):=by
  intro pins s σ H x vs v us Q I rx rv h;obtain⟨l,bs,b,rfl,rfl,hH,q⟩:=h;cases rx;obtain⟨u,rfl,ru⟩:=rv.one;cases ru;obtain⟨z,its,n,r,hl,e⟩:=I.lstM hH;have ei:=bools_vals r;subst ei;exact count_list_bools (xs:=bs.map PyData.bool) (as:=[]) (hp:=s.heap) ⟨_,e,rfl,n,rfl⟩ (bools_reads _ _) (bools_shape bs) ⟨.int _,H,I.tok _,⟨_,rfl⟩,q⟩
end
structure RoomH (k:Nat) (A:Around):Prop where
  dp:A.depth+3*k+5<recursionLimit
  un:A.units+16*k+200<cLine
  gd:A.guards=some []
structure FnOkH (P:Program) (w:World) (K:PySem.W.Frag) (mg:Str→Option Value) (base:Heap) (k:Nat) (f:Addr) (fd:FuncData) (ps:List Str) (sp:Sp):Prop where
  len:∀vs H Q E,sp vs H Q E→vs.length=ps.length
  run:∀(A:Around) (outer:List Env) (s:Shared) (H:Hp) (args:Args) (us:List Value) (vs:List V) (Q:VK) (E:XK),RoomH k A→Env0 P w K mg base A outer s H→BindsTo s fd args (ps.zip us)→Vals vs us→sp vs H Q E→
    codeAny (model P w) A (.call (.ref f) args) (CR CX0 outer P w H s Q E) s
theorem FnOkH.mono {P:Program} {w:World} {K:PySem.W.Frag} {mg:Str→Option Value} {base:Heap} {j k:Nat} {f:Addr} {fd:FuncData} {ps:List Str} {sp:Sp} (F:FnOkH P w K mg base j f fd ps sp) (h:j≤k):FnOkH P w K mg base k f fd ps sp:=
  ⟨F.len,fun A outer s H args us vs Q E hr=>F.run A outer s H args us vs Q E ⟨by have:=hr.dp;omega,by have:=hr.un;omega,hr.gd⟩⟩
section
variable{X:Cx}{k:Nat}{f:Addr}{fd:FuncData}{ps:List Str}{sp:Sp}{x:Str}{p pos:Pos}{e:Expr}{es:List Expr}{t:TA}{K:PySem.W.Frag}
end
section
variable{X:Cx}
end
end L2
namespace L2
open PySem PySem.Spec PyProof.Rows
section
variable{X:Cx}{CX:CXT}{k:Nat}{f C:Addr}{fd:FuncData}{ps:List Str}{sp:Sp}{dvs:List V}{ds:List Value}{E:St→XK}{x m:Str}{p pos apos:Pos}{e o:Expr}{es:List Expr}{ta:TE}{t:TA}
end
section
variable{X:Cx}{body suite:List Stmt}{b0:Stmt}{rest:List ExceptHandler}{c nm:Str}{cp hpos pos:Pos}{tb:(St→XK)→TS}{th:TS}{i:Nat}{D:Addr}
end
end L2
namespace L2
open PySem PySem.Spec PyProof.Rows
section
variable{prog:Program}{w:World}{A:Around}{E:Value→Shared→Prop}{s:Shared}
end
section
variable{prog:Program}{w:World}{A:Around}{R:Result→Shared→Prop}{I:Addr}{fp wr:List Addr}{G:Array GenState→Array GenState→Prop}{n:Nat}{P:Nat→Value→Prop}{St:Nat→Shared→Prop}{κ:Type}[DecidableEq κ]{knd:KeyKind prog w κ}
end
section
variable{prog:Program}{w:World}{A:Around}{E:Value→Shared→Prop}{s:Shared}{κ:Type}[DecidableEq κ]{knd:KeyKind prog w κ}
end
section
variable{X:Cx}
end
end L2
namespace L2
open PySem PySem.Spec PyProof.Rows
section
variable{X:Cx}{e:Expr}{te:TE}{elts:List Expr}{kt:Nat}{pt:Pos}
end
end L2
namespace L2
open PySem PySem.Spec PyProof.Rows
section
variable{prog:Program}{w:World}{A:Around}{E:Value→Shared→Prop}{s:Shared}
end
section
variable{X:Cx}{pos:Pos}
end
end L2
namespace L2
open PySem PySem.Spec PyProof.Rows
section
variable{X:Cx}{e hi stp:Expr}{te th ts:TE}{pos p2:Pos}
end
end L2
namespace L2
open PySem PySem.Spec PyProof.Rows
section
variable{X:Cx}
variable{o e:Expr}{es:List Expr}{to:TE}{t:TA}{name:Str}{apos cpos:Pos}{T id:String}{r:V→List V→Hp→VK→Prop}
end
end L2
namespace L2
open PySem PySem.Spec PySem.SeqAt PyProof.Rows
section
variable{X:Cx}
end
end L2
namespace L2
open PySem PySem.Spec PyProof.Rows
section
variable{prog:Program}{w:World}{A:Around}{E:Value→Shared→Prop}{s:Shared}
structure RawD (h:Heap) (d:Addr) (o:Obj) (es:Array DictEntry) (ep:Nat):Prop where
  at_:h.get? d=some o
  ex:o.ExactDict
  da:o.data= .dict es ep
end
end L2
namespace L2
open PySem PySem.Spec PyProof.Rows
section
variable{X:Cx}{pins:List (Addr×Obj)}{σ:St}{H:Hp}{s:Shared}{d:Addr}{kvs:List (List Key×V)}
end
section
variable{X:Cx}{e:Expr}{te:TE}{elts:List Expr}{kt:Nat}{pt:Pos}
end
section
variable{prog:Program}{w:World}{A:Around}{R:Result→Shared→Prop}{I:Addr}{fp wr:List Addr}{G:Array GenState→Array GenState→Prop}{n:Nat}{P:Nat→Value→Prop}{St:Nat→Shared→Prop}{κ:Type}[DecidableEq κ]{knd:HeapKind prog w κ}
noncomputable def mergedH(xs ps:List (κ×Addr×Value)):List (κ×Addr×Value):=ps.foldl (fun m p=>storedH m p.1 p.2.1 p.2.2) xs
end
section
variable{prog:Program}{w:World}{A:Around}{E:Value→Shared→Prop}{s:Shared}{κ:Type}[DecidableEq κ]{knd:HeapKind prog w κ}
end
section
variable{X:Cx}
noncomputable def mergeT(kvs more:List (List Key×V)):List (List Key×V):=more.foldl (fun acc kv=>putK acc kv.1 kv.2) kvs
theorem KT.merge {H:Hp} {more:List (List Key×V)} {rs:List (List Key×Addr×Value)} (r:KT H more rs):∀{kvs:List (List Key×V)} {xs:List (List Key×Addr×Value)},KT H kvs xs→KT H (mergeT kvs more) (mergedH xs rs):=by
  unfold KT at r
  induction r with
  |nil=>intro kvs xs q;exact q
  | @cons p q ps qs h t ih=>
    intro kvs xs z;obtain⟨h1,h2,h3⟩:=h;have:=KT.put z p.1 h2 h3;rw[show storedH xs p.1 q.2.1 q.2.2=storedH xs q.1 q.2.1 q.2.2 by rw[h1]] at this;exact ih this
end
structure ClsI (K:PySem.W.Frag) (C:Addr):Prop where
  ha:PySem.W.findIn K (.ref C) "__class__"=some (some (.builtin "object.__class__"))
  hn:PySem.W.specialIn K (.builtin "object.__class__") "__get__"=some (some (.builtin "getset_descriptor.__get__"))
  tk:PySem.W.takesIn K (.builtin "object.__class__")=some true
  hm:PySem.W.mroIn K C (.type "object")=some true
theorem ClsI.ty{K:PySem.W.Frag}{H:Hp}{a C dx:Addr}{fs:List (Str×V)}(c:ClsI K C)(k:Cls K C)(e:H a=some (.ins C dx fs)):TyOf K H (.ref a) (.ref C):= .ins e k c.ha c.hn c.tk c.hm
end L2
namespace L2
open PySem PySem.Spec PyProof.Rows
section
variable{X:Cx}
end
section
variable{X:Cx}{pos:Pos}
end
end L2
namespace L2
open PySem PySem.Spec PyProof.Rows
section
variable{prog:Program}{w:World}{A:Around}{E:Value→Shared→Prop}{s:Shared}
end
section
variable{X:Cx}
end
section
variable{X:Cx}{tg e:Expr}{te:TE}
end
end L2
namespace L2
open PySem PySem.Spec PyProof.Rows
section
variable{X:Cx}{pins:List (Addr×Obj)}{σ:List (Option V)}{H H' :Hp}{s:Shared}{h' :Heap}
theorem Inv.more {t' :Nat} (I:Inv X pins σ H s) (k:∀b u,s.heap.get? b=some u→h'.get? b=some u) (sm:∀a o,H a=some o→H' a=some o) (new:∀a o,H' a=some o→H a=some o∨(s.heap.objs.size≤a∧ObjOk X.prog X.w H' h' a o)):Inv X pins σ H' {s with heap:=h',toks:=t'}:=
  I.un ⟨fun b u q _ _ _=>k b u q,fun b u q _ _ _=>⟨u.slots,k b u q⟩,fun b u q n _=>by
    cases e:H' b with
    |none=>rfl
    | some o=>
      rcases new b o e with h|⟨h,_⟩
      · rw[n] at h
        cases h
      · exact absurd (Heap.lt_size q) (Nat.not_lt.mpr h),fun b u q _=>⟨u,k b u q⟩,fun b xs q=>sm _ _ q,fun b u xs q=>sm _ _ q,fun b ps q=>⟨#[],by rw[sm _ _ q];simp⟩⟩ fun a o e=>by
    rcases new a o e with h|⟨_,h⟩
    · exact(I.hok a o h).stay (fun c v _ q=>k c v q) (fun c q=>sm _ _ q) (fun c xs q=>sm _ _ q)
    · exact h
end
section
variable{X:Cx}
end
end L2
namespace L2
open PySem PySem.Spec PyProof.Rows
section
variable{prog:Program}{w:World}{A:Around}{E:Value→Shared→Prop}{s:Shared}
end
section
variable{X:Cx}{tg e:Expr}{te:TE}
end
section
variable{prog:Program}{w:World}{A:Around}{E:Value→Shared→Prop}{s:Shared}
theorem RawD.keep{h h' :Heap}{d:Addr}{o:Obj}{es:Array DictEntry}{ep:Nat}(x:RawD h d o es ep)(e:∀o,h.get? d=some o→h'.get? d=some o):RawD h' d o es ep:=⟨e _ x.at_,x.ex,x.da⟩
end
section
variable{X:Cx}{o e f:Expr}{apos cpos:Pos}{td ty tx:TE}
end
section
variable{prog:Program}{w:World}{A:Around}{E:Value→Shared→Prop}{s:Shared}
end
section
variable{X:Cx}
end
section
variable{X:Cx}
end
section
variable{X:Cx}
end
end L2
namespace L2
open PySem PySem.Spec PyProof.Rows
section
variable{prog:Program}{w:World}{A:Around}{E:Value→Shared→Prop}{s:Shared}
end
structure RxG (es:Array DictEntry) (lo:Addr) (h:Heap) (as:List Addr):Prop where
  rise:as.Pairwise (· < ·)
  above:∀a∈as,lo<a
  pairs:∀(j:Nat) (a:Addr),as[j]? =some a→∃en,es[j]? =some en∧h.get? a=some {cls:= .type "tuple",data:= .seq #[en.key,en.val]}
section
variable{prog:Program}{w:World}{A:Around}{E:Value→Shared→Prop}{s:Shared}{es:Array DictEntry}{ep:Nat}{od:Obj}
theorem RxG.low{lo lo' :Addr}{h:Heap}{as:List Addr}(g:RxG es lo h as)(hl:lo'≤lo):RxG es lo' h as:=⟨g.rise,fun a ha=>Nat.lt_of_le_of_lt hl (g.above a ha),g.pairs⟩
end
section
variable{X:Cx}
end
end L2
namespace L2
open PySem PySem.Spec PyProof.Rows
structure FI (K:PySem.W.Frag) (mg:Str→Option Value) (x:Str) (st:Stmt) (ps:List Str) (f:Addr) (fd:FuncData):Prop where
  m:mg x=some (.ref f)
  F:Fun K x x st f fd
  b:Binds K fd ps []
structure MI (K:PySem.W.Frag) (C:Addr) (x q:Str) (st:Stmt) (ps:List Str) (f:Addr) (fd:FuncData):Prop where
  t:Meth K C x f
  F:Fun K x q st f fd
  b:Binds K fd ps []
theorem FnScope.of {N P:List Str} {sc:Scope} (h1:sc.kind= .function:=by rfl) (h2:sc.isCoroutine=false:=by rfl) (h3:sc.isGenerator=false:=by rfl) (h4:N.Nodup:=by decide+kernel) (h5:N.take P.length=P:=by rfl)
    (h6:∀x∈P,sc.names.lookup x=some .local∨sc.names.lookup x=some .cell:=by decide+kernel) (h7:∀y∈sc.names,y.2≠.free:=by decide+kernel):FnScope N P sc:=⟨h1,h2,h3,h4,h5,h6,h7⟩
section
variable{P:Program}{w:World}{K:PySem.W.Frag}{mg:Str→Option Value}{base:Heap}{x qual:Str}{st:Stmt}{f:Addr}{fd:FuncData}{N ps:List Str}{k:Nat}{sp:Sp}
theorem Fun.okI (F:Fun K x qual st f fd) (S:FnScope N ps (defScope st))
    (hb:∀(cdv:Value) (A:Around) (outer:List Env) (s:Shared) (H:Hp) (vs:List V) (Q:VK) (E:XK),Room k (A.deeper (envOfC qual (defScope st) s.heap.objs.size f cdv))→sp vs H Q E→
      ∃t,PSs (cxOf CX0 P w K mg base N qual (defScope st) f cdv A outer s H E).nox (defBody st) t∧t {nx:=fun _ H' =>Q .non H',rt:=Q} (start N vs) H)
    (len:∀vs H Q E,sp vs H Q E→vs.length=ps.length:=by intro _ _ _ _ h;repeat (first|(obtain⟨rfl,_⟩:=h;rfl)|obtain⟨_,h⟩:=h)):FnOk P w K mg base CX0 (k+1) f fd ps sp:=F.ok S len hb
theorem Fun.okN (F:Fun K x qual st f fd) (S:FnScope N ps (defScope st))
    (hb:∀(cdv:Value) (A:Around) (outer:List Env) (s:Shared) (H:Hp) (vs:List V) (Q:VK) (E:XK),Room k (A.deeper (envOfC qual (defScope st) s.heap.objs.size f cdv))→sp vs H Q E→
      ∃t,PSsm (cxOf CX0 P w K mg base N qual (defScope st) f cdv A outer s H E).nox (defBody st) t∧t {nx:=fun _ H' =>Q .non H',rt:=Q} (start N vs) H)
    (len:∀vs H Q E,sp vs H Q E→vs.length=ps.length:=by intro _ _ _ _ h;repeat (first|(obtain⟨rfl,_⟩:=h;rfl)|obtain⟨_,h⟩:=h)):FnOk P w K mg base CX0 (k+1) f fd ps sp:=F.okM S len hb
end
section
variable{X:Cx}{CX:CXT}{j k:Nat}{f C:Addr}{fd:FuncData}{ps:List Str}{sp:Sp}{E:XK}{x m q:Str}{st:Stmt}{p pos apos:Pos}{e o:Expr}{es:List Expr}{ta:TE}{t:TA}
theorem pcf (F:FnOk X.prog X.w X.K X.mg X.base CX j f fd ps sp) (hr:Room k X.A) (I:FI X.K X.mg x st ps f fd) (hx:Passes CX X E) (ha:PA X (e::es) t) (hj:j≤k:=by decide) (hg:Gl X x:=by rfl)
    (hdb:(x==("__debug__" :Str))=false:=by decide) (he:starEach (e::es) X.env=(false,eval e X.env)::starEach es X.env:=by rfl) (hpl:(backTo pos (starEach es X.env)).any (·.1)=false:=by rfl):
    PE X (.Call (.Name x p) (e::es) [] pos) (tCall sp [] E t):=pe_call (F.mono hj) hr hg I.m I.F.kp I.b .nil hx ha hdb he hpl
end
section
variable{X:Cx}{pos:Pos}{e a b:Expr}{te ta tb:TE}
theorem pgn(i:Nat){x:Str}(hN:X.N.Nodup)(hi:X.N[i]? =some x:=by rfl)(hx:Loc X.env.scope x:=by first|exact .inl rfl|exact .inr rfl)(hf:X.fn x=true∨X.env.scope.names.lookup x=some .local:=by first|exact .inl rfl|exact .inr rfl|assumption):PG X (.Name x pos) (gName i):=pg_name hN hi hx hf
theorem pst (i:Nat) {x:Str} {pos' :Pos} (hN:X.N.Nodup) (he:PE X e te) (hi:X.N[i]? =some x:=by rfl) (hx:Loc X.env.scope x:=by first|exact .inl rfl|exact .inr rfl) (hs:swapsWith e (some (.Name x pos')) pos.line X.env=pure false:=by rfl)
    (hf:X.fn x=true∨X.env.scope.names.lookup x=some .local:=by first|exact .inl rfl|exact .inr rfl|assumption):PS X (.Assign [.Name x pos'] e pos) (tAsg te (gName i)):=ps_set hN hi hx he hs hf
theorem pix{r:R2}(hr:IxR X r)(ha:PE X a ta)(hb:PE X b tb)(hs:PlainIx b:=by exact fun _ _=>rfl):PE X (.Subscript a b pos) (tOp r ta tb):=pe_ix hr ha hb hs
theorem pcr{op:CmpOp}{r:R2}(ho:OpR X (compareOp op) r)(ha:PE X a ta)(hb:PE X b tb)(hm:behindInMarks op b=false:=by first|exact nomark _|with_unfolding_all rfl):PE X (.Compare a [op] [b] pos) (tOp r ta tb):=pe_cmpR ho ha hb hm
theorem ptr{op:CmpOp}{r:R2}(ho:OpR X (compareOp op) r)(ha:PE X a ta)(hb:PE X b tb)(hm:behindInMarks op b=false:=by first|exact nomark _|with_unfolding_all rfl):PT X (.Compare a [op] [b] pos) (tTest (tOp r ta tb)):=pt_cmpR ho ha hb hm
theorem pa1(ha:PE X e te)(hs:starEach [e] X.env=(false,eval e X.env)::starEach [] X.env:=by rfl):PA X [e] (tCons te tNil):=pa_cons ha pa_nil hs
end
section
variable{X:Cx}{tg iter elt:Expr}{ifs:List Expr}{scope:Scope}{pos:Pos}{wi:TI}{g:TG}{tt:TT}{te:TE}
theorem pcm (N:List Str) (k:Nat) (js:List Nat) (hi:PI X tg iter wi)
    (hb:∀(cl:List (Str×Addr)) (C:Addr) (s:Shared) (H:Hp) (fp:List Addr),PG (cxComp X N scope cl C s H fp) tg g∧PIfs (cxComp X N scope cl C s H fp) ifs tt∧PE (cxComp X N scope cl C s H fp) elt te)
    (hc:X.calm=true:=by rfl) (S:CScope X N scope k js:=by exact cscope_of (by kernel_rfl)) (hs:∀x,foldedSetIterable iter X.env x=pure x:=by intro _;rfl):PE X (.ListComp elt [⟨tg,iter,ifs,0⟩] scope pos) (tComp wi k js g tt te):=pe_comp hc S hi hb hs
theorem pstC (i:Nat) {x:Str} {pos' cpos:Pos} (hN:X.N.Nodup) (N:List Str) (k:Nat) (js:List Nat) (hi:PI X tg iter wi)
    (hb:∀(cl:List (Str×Addr)) (C:Addr) (s:Shared) (H:Hp) (fp:List Addr),PG (cxComp X N scope cl C s H fp) tg g∧PIfs (cxComp X N scope cl C s H fp) ifs tt∧PE (cxComp X N scope cl C s H fp) elt te)
    (hi' :X.N[i]? =some x:=by rfl) (hx:Loc X.env.scope x:=by first|exact .inl rfl|exact .inr rfl) (hc:X.calm=true:=by rfl) (S:CScope X N scope k js:=by exact cscope_of (by kernel_rfl))
    (hsw:swapsWith (.ListComp elt [⟨tg,iter,ifs,0⟩] scope cpos) (some (.Name x pos')) pos.line X.env=pure true:=by rfl)
    (hs:∀x,foldedSetIterable iter X.env x=pure x:=by intro _;rfl) (hf:X.fn x=true∨X.env.scope.names.lookup x=some .local:=by first|exact .inl rfl|exact .inr rfl|assumption):
    PS X (.Assign [.Name x pos'] (.ListComp elt [⟨tg,iter,ifs,0⟩] scope cpos) pos) (tAsg (tComp wi k js g tt te) (gName i)):=ps_setC hN hi' hx hc S hi hb hsw hs hf
theorem pfr {body:List Stmt} {tb:TS} (hi:PI X tg iter wi) (hg:PG X tg g) (hb:PSs X body tb) (hp:PassesOwn (model X.prog X.w) X.A X.env X.xe:=by exact PassesOwn.never) (hc:X.calm=true:=by rfl)
    (hs:∀x,foldedSetIterable iter X.env x=pure x:=by intro _;rfl):PS X (.For tg iter body [] pos) (tFor wi g tb):=ps_for hp hc hi hg hb hs
theorem pcB {id:String} {x:Str} {r:List V→Hp→VK→Prop} {e:Expr} {es:List Expr} {t:TA} {p:Pos} (hc:CallR X (.builtin id) r) (hm:X.mg x=none) (hv:bootBuiltins x=some (.builtin id)) (ha:PA X (e::es) t) (hg:Gl X x:=by rfl) (hn:x≠ "__name__":=by decide) (hdb:(x==("__debug__" :Str))=false:=by decide)
    (he:starEach (e::es) X.env=(false,eval e X.env)::starEach es X.env:=by rfl) (hpl:(backTo pos (starEach es X.env)).any (·.1)=false:=by rfl):PE X (.Call (.Name x p) (e::es) [] pos) (tCB r t):=pe_callB hc hg hm hv ha hn hdb he hpl
theorem pcT {T:String} {x:Str} {r:List V→Hp→VK→Prop} {e:Expr} {es:List Expr} {t:TA} {p:Pos} (hc:CallR X (.type T) r) (hm:X.mg x=none) (hv:bootBuiltins x=some (.type T)) (ha:PA X (e::es) t) (hg:Gl X x:=by rfl) (hn:x≠ "__name__":=by decide) (hdb:(x==("__debug__" :Str))=false:=by decide)
    (he:starEach (e::es) X.env=(false,eval e X.env)::starEach es X.env:=by rfl) (hpl:(backTo pos (starEach es X.env)).any (·.1)=false:=by rfl):PE X (.Call (.Name x p) (e::es) [] pos) (tCB r t):=pe_callTy hc hg hm hv ha hn hdb he hpl
end
end L2
namespace L2
open PySem PySem.Spec PyProof.Rows
structure XI (K:PySem.W.Frag) (mg:Str→Option Value) (x:Str) (C f R:Addr):Prop where
  m:mg x=some (.ref C)
  X:ExcMk K C f
  e:ExcF K C
  g:ExcK K C
  tt:PySem.W.typeIn K (.ref C)=some (.type "type")
  mi:∀D:Addr,PySem.W.mroIn K C (.ref D)=some (decide (D=C)||decide (D=R))
  ve:PySem.W.mroIn K C (.type "ValueError")=some true
theorem XI.kit {K:PySem.W.Frag} {mg mg' :Str→Option Value} {x y:Str} {C f R D g' R' :Addr} (E:XI K mg x C f R) (F:XI K mg' y D g' R'):PySem.W.kitOne K (.ref C) (.ref D)=some (decide (D=C)||decide (D=R)):=by
  unfold PySem.W.kitOne;by_cases h:D=C
  · subst h
    rw[if_pos (beq_self_eq_true _),decide_eq_true rfl];rfl
  · rw[if_neg (fun z=>h (Value.ref.inj (beq_iff_eq.mp z)).symm)]
    obtain⟨cd,hc,_⟩:=PySem.W.any_some F.g.hd;show(if((PySem.W.clsIn K D).isSome&&PySem.W.typeIn K (.ref D)==some (.type "type"))=true then PySem.W.subIn K (.ref C) (.ref D) else none)=_;rw[hc,F.tt,if_pos (by rw[Option.isSome_some,Bool.true_and];exact beq_self_eq_true _)];exact E.mi D
theorem XI.kitV {K:PySem.W.Frag} {mg:Str→Option Value} {x:Str} {C f R:Addr} (E:XI K mg x C f R):PySem.W.kitOne K (.ref C) (.type "ValueError")=some true:=by
  unfold PySem.W.kitOne;rw[if_neg (by intro h;cases beq_iff_eq.mp h)];show(if PySem.W.kitMeta "ValueError"=true then PySem.W.subIn K (.ref C) (.type "ValueError") else none)=_;rw[if_pos (by kernel_rfl)];exact E.ve
noncomputable def Exc(H:Hp)(a C:Addr):Prop:=∃φ dd n,H a=some (.ext φ)∧(∀h,φ h→excP a C dd n h)∧∀dx,dd=some dx→∃fs,H dx=some (.xd fs)
theorem Exc.same {H H' :Hp} {a C:Addr} (s:Same H H') (e:Exc H a C):Exc H' a C:=by
  obtain⟨φ,dd,n,h1,h2,h3⟩:=e;exact⟨φ,dd,n,s _ _ h1,h2,fun dx hx=>let⟨fs,q⟩:=h3 dx hx;⟨fs,s _ _ q⟩⟩
section
variable{X:Cx}{K:PySem.W.Frag}
theorem ext_any {P:Program} {w:World} {H:Hp} {h:Heap} {a:Addr} {φ:Heap→Prop} (ok:HOk P w H h) (e:H a=some (.ext φ)):φ h:=
  (show ObjOk P w H h a (.ext φ) from ok a _ e).1
theorem call_isinstE (hK:X.K=K):CallR X (.builtin "isinstance") (fun xs H Q=>∃a C d D b,xs=[.ref a,d]∧Exc H a C∧ExcK K C∧(∀u,RelV d u→u=D)∧PySem.W.kitOne K (.ref C) D=some b∧Q (.bl b) H):=by
  subst hK;intro pins s σ H xs us Q I r h;obtain⟨a,C,d,D,b,rfl,⟨φ,dd,n,ea,hφ,hd⟩,c,hD,e,q⟩:=h;obtain⟨u,v,rfl,ru,rv⟩:=vals2 r;cases ru;cases hD v rv;obtain⟨vs,he,_,_⟩:=hφ _ (ext_any I.hok ea);have fin:∀tk,EP X pins σ Q (.bool b) {s with toks:=tk}:=fun tk=>⟨.bl b,H,I.tok tk,rfl,q⟩
  cases dd with
  |none=>exact PySem.W.kia_one (kitx_exc (ox:={cls:= .ref C,dict:=none,data:= .fields vs}) (od:=none) c) I.kIn ⟨he,rfl,rfl,trivial⟩ e (fun z=>nomatch z) fin
  | some dx=>
    obtain⟨fs,ed⟩:=hd dx rfl;obtain⟨mA,ns,r⟩:=(show ObjOk X.prog X.w H s.heap dx (.xd fs) from I.hok dx _ ed);obtain⟨od,ho,hl⟩:=lookIn_ns ns;exact PySem.W.kia_one (kitx_exc (ox:={cls:= .ref C,dict:=some dx,data:= .fields vs}) (od:=some od) c) I.kIn ⟨he,rfl,rfl,ho⟩ e (fun z=>nomatch z) fin
end
section
variable{X:Cx}{CX:CXT}{j k:Nat}{f C R:Addr}{fd:FuncData}{ps:List Str}{sp:Sp}{E:XK}{x q:Str}{st:Stmt}{p pos:Pos}{e:Expr}{es:List Expr}{t:TA}
theorem pxm (M:XI X.K X.mg x C f R) (I:MI X.K C "__init__" q st ps f fd) (F:FnOk X.prog X.w X.K X.mg X.base CX0 j f fd ps sp) (hr:Room (k+1) X.A) (ha:PA X (e::es) t) (hj:j≤k:=by decide) (hl:ps.length≤100:=by decide) (hg:Gl X x:=by rfl)
    (hdb:(x==("__debug__" :Str))=false:=by decide) (he:starEach (e::es) X.env=(false,eval e X.env)::starEach es X.env:=by rfl) (hpl:(backTo pos (starEach es X.env)).any (·.1)=false:=by rfl):
    PE X (.Call (.Name x p) (e::es) [] pos) (tMakeX C sp E0 t):=pe_makeX M.X (F.mono hj) hr hg M.m I.b pass0 ha (fun _ _ _ _ h=>by rw[F.len _ _ _ _ h];exact hl) hdb he hpl
theorem pxm0 (M:XI X.K X.mg x C f R) (I:MI X.K C "__init__" q st ps f fd) (F:FnOk X.prog X.w X.K X.mg X.base CX0 j f fd ps sp) (hr:Room (k+1) X.A) (hj:j≤k:=by decide) (hg:Gl X x:=by rfl)
    (hdb:(x==("__debug__" :Str))=false:=by decide):PE X (.Call (.Name x p) [] [] pos) (tMakeX C sp E0 tNil):=pe_makeX0 M.X (F.mono hj) hr hg M.m I.b pass0 hdb
end
section
variable{K:PySem.W.Frag}{nm q:Str}{C N R:Addr}{bs:List Value}{h:Bool}{sn:List Str}{sub:List Value}{ab:Bool}{col:Option Bool}{dd:Option Addr}{k0 k1 k2 k3 k5:Option Value}{id:String}
theorem mi_of (l:K.lookup C=some (excClassObj nm q C N bs [.ref R,.type "ValueError",.type "Exception",.type "BaseException",.type "object"] h sn sub ab col dd k0 k1 k2 k3 k5 id)) (D:Addr):PySem.W.mroIn K C (.ref D)=some (decide (D=C)||decide (D=R)):=by
  unfold PySem.W.mroIn PySem.W.clsIn;rw[l];show some (List.contains [Value.ref C,Value.ref R,.type "ValueError",.type "Exception",.type "BaseException",.type "object"] (.ref D))=_
  congr 1
  by_cases h1:D=C
  · subst h1
    simp
  · by_cases h2:D=R
    · subst h2
      simp
    · simp[h1,h2]
theorem mi_of0 (l:K.lookup C=some (excClassObj nm q C N bs [.type "ValueError",.type "Exception",.type "BaseException",.type "object"] h sn sub ab col dd k0 k1 k2 k3 k5 id)) (D:Addr):PySem.W.mroIn K C (.ref D)=some (decide (D=C)||decide (D=C)):=by
  unfold PySem.W.mroIn PySem.W.clsIn;rw[l];show some (List.contains [Value.ref C,.type "ValueError",.type "Exception",.type "BaseException",.type "object"] (.ref D))=_
  congr 1
  by_cases h1:D=C
  · subst h1
    simp
  · simp[h1]
end
section
variable{X:Cx}
theorem mt_index:MtM X "list.index" (fun x vs H Q=>∃(l:Addr) (bs:List Bool) (j:Nat),x= .ref l∧vs=[.bl true]∧H l=some (.lst (bs.map V.bl))∧bs[j]? =some true∧(∀i,i<j→bs[i]? =some false)∧Q (.int j) H):=by
  intro pins s σ H x vs v us Q I rx rv h;obtain⟨l,bs,j,rfl,rfl,hH,hj,hno,q⟩:=h;cases rx;obtain⟨u,rfl,ru⟩:=rv.one;cases ru;obtain⟨z,its,n,r,hl,e⟩:=I.lstM hH;have ei:=bools_vals r;subst ei;have hlt:j<bs.length:=(List.getElem?_eq_some_iff.mp hj).1;have hz:bs.length≤sizeLine:=by rw[List.length_map] at z;exact z
  rw[sizeLine_eq] at hz
  refine call_meets PySem.F.slot_list_index ⟨_,e,rfl⟩ PySem.F.entry_list_index (PySem.F.args_list_index_2 _ _)
    (SeqAt.list_indexAt l (bs.map Value.bool).toArray n none #[] (.bool true) (fun y=>y== .bool true) j (by simpa using hlt) (by omega) ?_ ?_) ⟨e,fun y hy=> ?_,⟨.int j,H,I.tok _,⟨_,rfl⟩,q⟩⟩
  · obtain⟨h1,h2⟩:=List.getElem?_eq_some_iff.mp hj
    simp[h2]
  · intro m hm hmj
    obtain⟨h1,h2⟩:=List.getElem?_eq_some_iff.mp (hno m hmj);simp[h2]
  · have hy:y∈bs.map Value.bool:=by simpa using hy
    obtain⟨b,_,rfl⟩:=List.mem_map.mp hy;have:=SeqAt.EqAt.bool_bool (A:=X.A.in1) (s:=s) b true;have e2:(b==true)=(Value.bool b==Value.bool true):=by cases b<;>rfl
    rw[e2] at this;exact this
end
end L2
namespace L2
open PySem PySem.Spec PyProof.Rows
noncomputable def excA(a C:Addr)(dd:Option Addr)(T:Addr)(h:Heap):Prop:=∃vs:Array Value,h.get? a=some {cls:= .ref C,dict:=dd,data:= .fields vs}∧vs.size=6∧vs[0]? =some (.ref T)
theorem exa_ok {P:Program} {w:World} {H:Hp} {h:Heap} {a C T:Addr} {dd:Option Addr} (p:excA a C dd T h):ObjOk P w H h a (.ext (excA a C dd T)):=by
  obtain⟨vs,e,r⟩:=p;exact⟨⟨vs,e,r⟩,⟨_,e⟩,fun h1 h2 ⟨ws,e1,r1⟩ k=>⟨ws,k _ e1,r1⟩⟩
theorem Exc.ofA{H:Hp}{a C T:Addr}(h:H a=some (.ext (excA a C none T))):Exc H a C:=⟨_,none,false,h,fun h ⟨vs,e,r,_⟩=>⟨vs,e,r,fun z=>nomatch z⟩,fun _ z=>nomatch z⟩
section
variable{prog:Program}{w:World}{A:Around}{E:Value→Shared→Prop}{h:Heap}{g:Array GenState}{d:Drawn}{t:Nat}{os:OsState}
variable{nm q:Str}{C N:Addr}{bs bm:List Value}{hdct:Bool}{sn:List Str}{sub:List Value}{ab:Bool}{col:Option Bool}{dd:Option Addr}{k0 k1 k2 k3 k5:Option Value}
theorem exc_vinitT (T:TailHas bm) {e:Addr} {vs:Array Value} {de:Option Addr} {x:Value} {Q:Value→Shared→Prop}
    (hC:h.get? C=some (excClassObj nm q C N bs bm hdct sn sub ab col dd k0 k1 k2 k3 k5 "ValueError.__new__")) (he:h.get? e=some {cls:= .ref C,dict:=de,data:= .fields vs}) (hv:vs.size=6)
    (hq:∀h',(∀b o,b≠e→h.get? b=some o→h'.get? b=some o)→h'.get? e=some {cls:= .ref C,dict:=de,data:= .fields (vs.setIfInBounds 0 (.ref h.objs.size))}→h'.get? h.objs.size=some {cls:= .type "tuple",data:= .seq #[x]}→Q .none ⟨h',g,d,t,os⟩):
    wpAny (model prog w) A (call (.builtin "ValueError.__init__") [.ref e,x]) Q E ⟨h,g,d,t,os⟩:=by
  have F:=PySem.F.excBase_ValueError;have hsz:0<vs.size:=by omega
  refine wpAny_call (codeAny_call_builtin F.init.plain F.initEntry (exc_check_init T hC he rfl ?_));unfold Builtin.«BaseException.__init__»
  wp_walk
  have h0:vs[0]? =some vs[0]:=Array.getElem?_eq_getElem hsz;rw[h0];have he2:=Heap.get?_push_of_some {cls:= .type "tuple",data:= .seq #[x]} he
  have fin:Q .none ⟨(h.push {cls:= .type "tuple",data:= .seq #[x]}).update e (Obj.mapFields (·.setIfInBounds 0 (.ref h.objs.size))),g,d,t,os⟩:=by
    refine hq _ (fun b o hb e' => ?_) ?_ ?_
    · rw[Heap.get?_update_other _ _ (Ne.symm hb)]
      exact Heap.get?_push_of_some _ e'
    · exact Heap.get?_update_self _ he2 rfl
    · rw[Heap.get?_update_other _ _ (Nat.ne_of_lt (Heap.lt_size he))]
      exact Heap.get?_push_size _ rfl
  generalize vs[0]=v0;refine wpAny_pure ?_;refine wpAny_bind (wpAny_setField he2 rfl hsz ?_)
  cases v0 with
  |ref a=>exact wpAny_letGo (wpAny_pure fin)
  |_=>exact wpAny_pure (wpAny_pure fin)
end
section
variable{X:Cx}{p pos apos:Pos}{e1 e2:Expr}{t:TA}
noncomputable def tVInitT(K:PySem.W.Frag)(t:TA):TE:=fun σ H Q=>t σ H fun vs H1=>∃a C dd n x,vs=[.ref a,x]∧H1 a=some (.ext (excP a C dd n))∧ExcC K C∧∀T,H1 T=none→T≠a→Q .non (upd (upd H1 a (.ext (excA a C dd T))) T (.tup [x]))
theorem pe_vinitT {pl:Sem Bool} (hg:Gl X "ValueError") (hm:X.mg "ValueError"=none) (ha:PA X [e1,e2] t)
    (hst:starEach [e1,e2] X.env=(false,eval e1 X.env)::starEach [e2] X.env:=by rfl) (hpl:(backTo pos (starEach [e2] X.env)).any (·.1)=false:=by rfl)
    (ht:eval (.Call (.Attribute (.Name "ValueError" p) "__init__" apos) [e1,e2] [] pos) X.env=(do
      let ov←eval (.Name "ValueError" p) X.env
      standAt apos.atName
      let(f,first)←holding [ov] (getMethod ov "__init__" pl)
      callWith pos f first (backTo pos (starEach [e1,e2] X.env)) (backToKw pos (keywordEach [] X.env))):=by rfl):
    PE X (.Call (.Attribute (.Name "ValueError" p) "__init__" apos) [e1,e2] [] pos) (tVInitT X.K t):=by
  intro pins s σ H Q I h;refine PySem.W.methodCall_KW (pl:=pl) (ld_blt I hg hm Boot.«ValueError» ?_) ht;obtain⟨m,F⟩:=I.fr;refine PySem.W.method_type F I.mod.kin (by kernel_rfl) (by decide+kernel) (find_vinit X.K) (by decide+kernel) ?_;refine PyProof.Rows.callWith_builtin1 (thn (ha pos pins _ σ H _ (I.tok _) h) fun us s1 ⟨vs,H1,I1,r1,q1⟩=> ?_) hst hpl;obtain⟨a,C,dd,n,x,rfl,hx,hc,q⟩:=q1
  cases r1 with
  | cons r rr=>
    cases rr with
    | cons r' rr=>
      cases rr;cases r;obtain⟨nm,q',N,bs,bm,hdct,sn,sub,ab,col,dd',k0,k1,k2,k3,k5,lk,T⟩:=hc.obj;obtain⟨ws,he,hw,hn⟩:=ext_at I1.hok hx;have hT:H1 s1.heap.objs.size=none:=I1.hok.fresh (Nat.le_refl _);have hTa:s1.heap.objs.size≠a:=fun z=>by rw[z,hx] at hT;cases hT
      have q:=q _ hT hTa;obtain⟨hp,g,d,tk,os⟩:=s1;refine exc_vinitT T (I1.kIn _ _ lk) he hw fun h' k he' ht' =>⟨.non,_,?_,rfl,q⟩;refine I1.two (h' :=h') (t' :=tk) hx ⟨(fun xs z=>by rw[hT] at z;cases z),(fun y z=>by rw[hT] at z;cases z),(fun o u z=>by rw[hT] at z;cases z),(fun ps z=>by rw[hT] at z;cases z)⟩ (fun _=>Nat.le_refl _) hTa (fun b o hb _ e=>k b o hb e) ⟨_,he'⟩ ⟨_,ht'⟩ (exa_ok ⟨_,he',by simp[hw],by simp[hw]⟩) ?_;exact⟨(show 1≤sizeLine by decide),[_],.cons r' .nil,_,ht',rfl,_,rfl⟩
end
section
open Builtin Builtin.Str Builtin.BaseException
variable{prog:Program}{w:World}{A:Around}{E:Value→Shared→Prop}{s:Shared}{K:PySem.W.Frag}{x C t0:Addr}{ox ot:Obj}{od:Option Obj}{vs:Array Value}{m:Str}{tk:Tok}{n:Nat}
theorem bexc_str_own {Q:Fin→Shared→Prop} (ho:s.heap.get? x=some ox) (hd:ox.data= .fields vs) (h0:vs[0]? =some (.ref t0)) (ht:s.heap.get? t0=some ot) (hdt:ot.data= .seq #[.str m tk] n) (hq:Q (.done (.ret (.str m tk))) s):
    wpAny (model prog w) A (Builtin.«BaseException.__str__» ⟨[.ref x],[]⟩) Q E s:=by
  have key:∀{R:Value×List Value→Shared→Prop},R (.ref t0,[.str m tk]) s→wpAny (model prog w) A (bexcArgs (.ref x)) R E s:=fun{R} hr=>by
    unfold bexcArgs;exact wpAny_bind (wpAny_field ho hd h0 (wpAny_bind (wpAny_seqItems ht hdt (wpAny_pure hr))))
  unfold Builtin.«BaseException.__str__»
  repeat (first|with_reducible refine key ?_|wp_step)
  exact hq
theorem str_own {Q:Value→Shared→Prop} (hu:A.in1.in1.units<cLine) (X:K.In s.heap) (I:PySem.W.InstAt s.heap x ox C od) (hs:PySem.W.findIn K (.ref C) "__str__"=some (some (.builtin "BaseException.__str__"))) (hm:PySem.W.mroIn K C (.type "BaseException")=some true)
    (hd:ox.data= .fields vs) (h0:vs[0]? =some (.ref t0)) (ht:s.heap.get? t0=some ot) (hdt:ot.data= .seq #[.str m tk] n) (hq:Q (.str m tk) s):wpAny (model prog w) A (call (.type "str") [.ref x]) Q E s:=by
  have hb:∀self,bindSpecial (.builtin "BaseException.__str__") self=pure (.builtin "BaseException.__str__",[self]):=fun self=>by kernel_rfl
  refine callType_codes (T:="str") (Bi:=Builtin.«object.__init__») (Q₁:=fun r s₁=>∃y u,r= .str y u∧Q r s₁) PySem.F.called_str (PySem.F.typeCall_str_1 _) PySem.F.entry_object_init ?_ ?_
  · refine codeAny_of_tree ?_
    show wpAny _ A.in1.in1 (do checkBuiltinCall "str.__new__" ⟨[.type "str",.ref x],[]⟩;again (.builtin "str.__new__" ⟨[.type "str",.ref x],[]⟩)) _ _ s;refine wpAny_bind (wpAny_of_eq (PySem.F.newCall_str_1 _) (wpAny_pure ⟨plainId_quiet (by decide+kernel) _,codeAny_builtin PySem.F.entry_str_new ?_⟩));rw[Around.under_plainId (by decide+kernel) _];rw[str_new_tree];refine wpAny_bind (wpAny_pure ?_);refine wpAny_bind (wpAny_of_eq isSubtype_str_str ?_)
    have key:wpAny (model prog w) A.in1.in1 (PySem.Builtin.Str.strOf (.ref x)) (fun r s₁=>∃y u,r= .str y u∧Q r s₁) E s:=by
      unfold PySem.Builtin.Str.strOf;rw[show isExactStr (.ref x)=false from rfl];refine wpAny_bind (m:=cRoomFor _ _) (wpAny_cRoomFor hu ?_);refine wpAny_bind (m:=callSpecial? (.ref x) (Str.ofString "__str__")) (PySem.W.kfo_special X I hs hb ?_);refine wpAny_call (codeAny_call_builtin (by decide+kernel) PySem.F.entry_bexc_str (PySem.W.check_slot (i:="BaseException.__str__") (owner:="BaseException") (n:="__str__") (by decide+kernel) (by decide+kernel) (I.type.andThen (PySem.W.looks_mroIn X hm)) (PySem.F.args_bexc_str _) ?_));exact bexc_str_own I.at_ hd h0 ht hdt (wpAny_pure ⟨_,_,rfl,hq⟩)
    exact wpAny_bind (wpAny_mono key (fun r s₁ hr=>wpAny_pure hr) fun _ _ y=>y)
  · rintro obj s₁ ⟨y,u,rfl,hq⟩
    exact⟨typeIs_str _ _ _,PySem.F.args_object_init_2 _ _,object_init_meets PySem.F.called_str.init.lookup PySem.F.called_str.made (by decide) prog w A.in1 _ s₁ ⟨typeIs_str _ _ _,rfl,hq⟩⟩
end
section
variable{X:Cx}{K:PySem.W.Frag}
theorem call_strX (hK:X.K=K) (hu:X.A.units+100<cLine):CallR X (.type "str") (fun xs H Q=>∃a C T x,xs=[.ref a]∧H a=some (.ext (excA a C none T))∧H T=some (.tup [.str x])∧PySem.W.findIn K (.ref C) "__str__"=some (some (.builtin "BaseException.__str__"))∧PySem.W.mroIn K C (.type "BaseException")=some true∧Q (.str x) H):=by
  subst hK;intro pins s σ H xs us Q I r h;obtain⟨a,C,T,x,rfl,ea,eT,hs,hm,q⟩:=h;obtain⟨u,rfl,ru⟩:=vals1 r;cases ru;obtain⟨vs,he,hv,h0⟩:=(ext_any I.hok ea:excA a C none T s.heap);obtain⟨z,its,rv,o,ho,hc,n,hdt⟩:=(show ObjOk X.prog X.w H s.heap T (.tup _) from I.hok _ _ eT);obtain⟨u1,rfl,r1⟩:=vals1 rv;obtain⟨tk,rfl⟩:=r1;exact str_own (by show X.A.units+1+1<cLine;omega) I.kIn (ox:={cls:= .ref C,dict:=none,data:= .fields vs}) (od:=none) ⟨he,rfl,rfl,trivial⟩ hs hm rfl h0 ho hdt ⟨.str x,H,I,⟨_,rfl⟩,q⟩
end
noncomputable def kD:Key→PyData
  | .inl i=> .int i
  | .inr x=> .str x
mutual
inductive DatE (H:Hp):V→PyData→Prop
  |non:DatE H .non .none
  |bl (b:Bool):DatE H (.bl b) (.bool b)
  |int (i:Int):DatE H (.int i) (.int i)
  |str (x:Str):DatE H (.str x) (.str x)
  |lst {a:Addr} {xs:List V} {ds:List PyData} (e:H a=some (.lst xs)) (h:DatEs H xs ds):DatE H (.ref a) (.list ds)
  |tup {a:Addr} {xs:List V} {ds:List PyData} (e:H a=some (.tup xs)) (h:DatEs H xs ds):DatE H (.ref a) (.tuple ds)
  |dct {a:Addr} {kvs:List (Key×V)} {D:List (PyData×PyData)} (e:H a=some (.dK kvs)) (hk:D.map (·.1)=kvs.map fun p=>kD p.1) (h:DatEs H (kvs.map (·.2)) (D.map (·.2))):DatE H (.ref a) (.dict D)
inductive DatEs (H:Hp):List V→List PyData→Prop
  |nil:DatEs H [] []
  |cons {x:V} {xs:List V} {d:PyData} {ds:List PyData} (h:DatE H x d) (t:DatEs H xs ds):DatEs H (x::xs) (d::ds)
end
mutual
theorem DatE.same {H H' :Hp} (s:Same H H'):∀{v:V} {d:PyData},DatE H v d→DatE H' v d
  |_,_,.non=> .non
  |_,_,.bl b=> .bl b
  |_,_,.int i=> .int i
  |_,_,.str x=> .str x
  |_,_,.lst e h=> .lst (s _ _ e) (DatEs.same s h)
  |_,_,.tup e h=> .tup (s _ _ e) (DatEs.same s h)
  |_,_,.dct e hk h=> .dct (s _ _ e) hk (DatEs.same s h)
theorem DatEs.same {H H' :Hp} (s:Same H H'):∀{xs:List V} {ds:List PyData},DatEs H xs ds→DatEs H' xs ds
  |_,_,.nil=> .nil
  |_,_,.cons h t=> .cons (DatE.same s h) (DatEs.same s t)
end
theorem keys_read {P:Program} {w:World} (h:Heap) {es:List DictEntry} {vs:List (Key×Value)} (a:Pairs (mixKind P w) es vs):∀{kvs:List (Key×V)},KV kvs vs→ReadsAll h (es.map (·.key)) (kvs.map fun p=>kD p.1) []:=by
  induction a with
  | nil=>
    intro kvs u;cases u;exact .nil
  | @cons e q es vs hi hv t ih=>
    intro kvs u
    cases u with
    | @cons p _ _ _ r u=>
      have hi:keyIs q.1 e.key=true:=hi;rw[←r.1] at hi;show ReadsAll h (e.key::_) (kD p.1::_) ([]++[]);refine .cons ?_ (ih u);rcases keyIs_shape hi with⟨i,t,e1,e2⟩|⟨x,t,e1,e2⟩
      · rw[e1,e2];exact .int i t
      · rw[e1,e2];exact .str x t
theorem vals_read {P:Program} {w:World}:∀{es:List DictEntry} {vs:List (Key×Value)} {kvs:List (Key×V)},Pairs (mixKind P w) es vs→KV kvs vs→Vals (kvs.map (·.2)) (es.map (·.val))
  |_,_,_,.nil,.nil=> .nil
  |_,_,_,.cons _ hv t,.cons r u=> .cons (by show RelV _ (DictEntry.val _);rw[hv];exact r.2) (vals_read t u)
mutual
theorem DatE.reads {P:Program} {w:World} {H:Hp} {h:Heap} (ok:HOk P w H h) (sm:∀a o,h.get? a=some o→o.cls= .type "list" →sysModules≠a):∀{v:V} {d:PyData} {u:Value},DatE H v d→RelV v u→∃as,Reads h u d as∧sysModules∉as
  |_,_,_,.non,r=>by cases r;exact⟨_,.none,by simp⟩
  |_,_,_,.bl b,r=>by cases r;exact⟨_,.bool b,by simp⟩
  |_,_,_,.int i,r=>by obtain⟨t,rfl⟩:=r;exact⟨_,.int i t,by simp⟩
  |_,_,_,.str x,r=>by obtain⟨t,rfl⟩:=r;exact⟨_,.str x t,by simp⟩
  | _,_,_,.lst e hd,r=>by
    cases r;obtain⟨z,its,n,rv,ho⟩:=(show ObjOk P w H h _ (.lst _) from ok _ _ e);obtain⟨as,q,na⟩:=DatEs.reads ok sm hd rv
    exact⟨_,.list ho rfl rfl (by simpa using q),fun hm=>by
      rcases List.mem_cons.mp hm with hm|hm
      · exact sm _ _ ho rfl hm
      · exact na hm⟩
  | _,_,_,.tup e hd,r=>by
    cases r;obtain⟨z,its,rv,o,ho,hc,n,hdt⟩:=(show ObjOk P w H h _ (.tup _) from ok _ _ e);obtain⟨as,q,na⟩:=DatEs.reads ok sm hd rv;exact⟨_,.tuple ho hc hdt (by simpa using q),na⟩
  | _,_,_,.dct (a:=a) e hk hd,r=>by
    cases r;obtain⟨z',ym,vs,kv,od,es,ep,hod,ex,hde,ko,pr,nd⟩:=dk_of ok e;obtain⟨as,q,na⟩:=DatEs.reads ok sm hd (vals_read pr kv);refine⟨_,.dict hod ex.1 hde (by rw[hk];exact keys_read h pr kv) q,fun hm=> ?_⟩;have hm:sysModules=a∨sysModules∈as:=by simpa using hm
    rcases hm with hm|hm
    · rw[←hm] at ym;simp at ym
    · exact na hm
theorem DatEs.reads {P:Program} {w:World} {H:Hp} {h:Heap} (ok:HOk P w H h) (sm:∀a o,h.get? a=some o→o.cls= .type "list" →sysModules≠a):∀{xs:List V} {ds:List PyData} {us:List Value},DatEs H xs ds→Vals xs us→∃as,ReadsAll h us ds as∧sysModules∉as
  |_,_,_,.nil,.nil=>⟨_,.nil,by simp⟩
  | _,_,_,.cons hd t,.cons r rr=>by
    obtain⟨as,q,n1⟩:=DatE.reads ok sm hd r;obtain⟨bs,q',n2⟩:=DatEs.reads ok sm t rr
    exact⟨_,.cons q q',fun hm=>by
      rcases List.mem_append.mp hm with hm|hm
      · exact n1 hm
      · exact n2 hm⟩
end
section
variable{X:Cx}
theorem call_reprE (hg:X.A.guards=some []) (hu:X.A.units+100<cLine) (sm:∃o,X.K.lookup sysModules=some o∧o.cls= .type "dict"):CallR X (.builtin "repr") (fun xs H Q=>∃v d,xs=[v]∧DatE H v d∧d.showable=true∧d.depth≤90∧d.shown.length≤sizeLine∧Q (.str d.shown) H):=by
  intro pins s σ H xs us Q I r h;obtain⟨v,d,rfl,hd,hs,hdp,hz,q⟩:=h;obtain⟨u,rfl,ru⟩:=vals1 r;obtain⟨om,lm,cm⟩:=sm
  have sm:∀a o,s.heap.get? a=some o→o.cls= .type "list" →sysModules≠a:=fun a o e c z=>by
    rw[←z,I.kIn _ _ lm] at e;cases e;rw[cm] at c;exact absurd c (by decide)
  have flat:∀{h' :Heap} {tk:Nat} (t:Tok),(∀b o,s.heap.get? b=some o→h'.get? b=some o)→EP X pins σ Q (.str d.shown t) {s with heap:=h',toks:=tk}:=fun{h' tk} t k=>⟨.str d.shown,H,I.kept k,⟨t,rfl⟩,q⟩;obtain⟨as,rd,na⟩:=hd.reads I.hok sm ru
  cases hd with
  |non=>cases ru;exact PySem.P.repr_of_none (flat _ fun _ _ e=>e)
  |bl b=>cases ru;exact PySem.P.repr_of_bool (by have:=flat (h' :=s.heap) (tk:=s.toks+1) s.toks fun _ _ e=>e;simpa only[PyData.shown] using this)
  | int i=>
    obtain⟨t,rfl⟩:=ru;have hs' :i.natAbs.log2<1920:=by simpa[PyData.showable] using hs
    exact PySem.P.repr_of_int hs' (by have:=flat (h' :=s.heap) (tk:=s.toks+1) s.toks fun _ _ e=>e;simpa only[PyData.shown] using this)
  | str x=>
    obtain⟨t,rfl⟩:=ru;refine PySem.P.repr_of_str (by have:=flat (h' :=s.heap) (tk:=s.toks+1) s.toks fun _ _ e=>e;simpa only[PyData.shown] using this) (by simpa only[PyData.shown] using hz)
  |lst e hx=>cases ru;exact repr_of_reads' rd hs (fun _=>na) hg (by omega) (fun _ _ e=>e) (fun h' t tk k=>flat t k) hz
  |tup e hx=>cases ru;exact repr_of_reads' rd hs (fun _=>na) hg (by omega) (fun _ _ e=>e) (fun h' t tk k=>flat t k) hz
  |dct e hk hx=>cases ru;exact repr_of_reads' rd hs (fun _=>na) hg (by omega) (fun _ _ e=>e) (fun h' t tk k=>flat t k) hz
theorem ints_are:∀{ns:List Int} {us:List Value},Vals (ns.map V.int) us→IntsAre us ns
  |[],_,.nil=> .nil
  | n::r,_,.cons e q=>by
    obtain⟨t,rfl⟩:=e;exact .cons n t (ints_are q)
theorem call_set1 (hc:X.calm=true):CallR X (.type "set") (fun xs H Q=>∃(p:Addr) (ns:List Int),xs=[.ref p]∧H p=some (.lst (ns.map V.int))∧ns.length<4000∧∀q S,H q=none→Q (.ref q) (upd H q (.set S (firstMet (fun i=>ns.getD i 0) ns.length).length))):=by
  intro pins s σ H xs us Q I r h;obtain⟨p,ns,rfl,hp,hl,q⟩:=h;obtain⟨u,rfl,ru⟩:=vals1 r;cases ru;obtain⟨z,its,n,rv,hn,e⟩:=I.lstM hp;have hlen:its.length=ns.length:=by rw[←hn,List.length_map]
  refine call_set_list (l:=p) (items:=its.toArray) (ns:=ns) (I.ok.hd hc) ⟨_,e,rfl,n,rfl⟩ (by simpa using ints_are rv) (by rw[List.size_toArray,hlen];unfold scanBound;omega) fun h' tk hS k=> ?_;have es:its.toArray.size=ns.length:=by rw[List.size_toArray,hlen]
  rw[es] at hS;exact⟨.ref _,_,I.laid (o:= .set _ _) (fun b u e=>k b u (Heap.lt_size e) e) (Nat.le_refl _) hS,rfl,q _ _ (I.hok.fresh (Nat.le_refl _))⟩
theorem call_len_set1:CallR X (.builtin "len") (fun xs H Q=>∃p S n,xs=[.ref p]∧H p=some (.set S n)∧Q (.int (n:Nat)) H):=by
  intro pins s σ H xs us Q I r h;obtain⟨p,S,n,rfl,hp,q⟩:=h;obtain⟨u,rfl,ru⟩:=vals1 r;cases ru;obtain⟨o,es,ep,t,ho,hex,hd,_,_,hb,hf,rfl⟩:=(show ObjOk X.prog X.w H s.heap p (.set S n) from I.hok _ _ hp);have hb:es.size<4096:=hb;exact call_len_set ho hex hd hf (by omega) ⟨.int _,H,I.tok _,⟨_,rfl⟩,q⟩
end
end L2
namespace My
open PySem L2 PyProof.Rows
theorem sc_RoomError___init__:FnScope ["self","text"] ["self","text"] (defScope s_RoomError___init__):= .of
theorem sc_NoNumber___init__:FnScope ["self","found"] ["self","found"] (defScope s_NoNumber___init__):= .of
theorem sc_NoName___init__:FnScope ["self","found"] ["self","found"] (defScope s_NoName___init__):= .of
theorem sc_NoValue___init__:FnScope ["self","found"] ["self","found"] (defScope s_NoValue___init__):= .of
theorem sc_NoFrame___init__:FnScope ["self","found"] ["self","found"] (defScope s_NoFrame___init__):= .of
theorem sc_Gone___init__:FnScope ["self","found","by"] ["self","found","by"] (defScope s_Gone___init__):= .of
theorem sc_Ground___init__:FnScope ["self"] ["self"] (defScope s_Ground___init__):= .of
theorem sc_TooMany___init__:FnScope ["self","many"] ["self","many"] (defScope s_TooMany___init__):= .of
theorem sc_Full___init__:FnScope ["self","need","spare"] ["self","need","spare"] (defScope s_Full___init__):= .of
theorem sc_NoWay___init__:FnScope ["self","found"] ["self","found"] (defScope s_NoWay___init__):= .of
theorem sc_NoCell___init__:FnScope ["self","found"] ["self","found"] (defScope s_NoCell___init__):= .of
theorem sc_NoHands___init__:FnScope ["self","found"] ["self","found"] (defScope s_NoHands___init__):= .of
theorem sc_Kept___init__:FnScope ["self","ways"] ["self","ways"] (defScope s_Kept___init__):= .of
theorem sc_NoDeed___init__:FnScope ["self","found"] ["self","found"] (defScope s_NoDeed___init__):= .of
theorem sc_TooDeep___init__:FnScope ["self","depth"] ["self","depth"] (defScope s_TooDeep___init__):= .of
theorem sc_TooWide___init__:FnScope ["self","many"] ["self","many"] (defScope s_TooWide___init__):= .of
theorem sc_TooLong___init__:FnScope ["self","many"] ["self","many"] (defScope s_TooLong___init__):= .of
theorem sc_Twice___init__:FnScope ["self","label"] ["self","label"] (defScope s_Twice___init__):= .of
theorem sc_NoLabel___init__:FnScope ["self","label"] ["self","label"] (defScope s_NoLabel___init__):= .of
theorem sc_NoChoices___init__:FnScope ["self","found"] ["self","found"] (defScope s_NoChoices___init__):= .of
theorem sc_NoMaking___init__:FnScope ["self","found"] ["self","found"] (defScope s_NoMaking___init__):= .of
theorem sc_NotStraight___init__:FnScope ["self","number"] ["self","number"] (defScope s_NotStraight___init__):= .of
theorem sc_NoText___init__:FnScope ["self","line"] ["self","line"] (defScope s_NoText___init__):= .of
theorem sc_NoManner___init__:FnScope ["self","found"] ["self","found"] (defScope s_NoManner___init__):= .of
theorem sc_NoNames___init__:FnScope ["self","found"] ["self","found"] (defScope s_NoNames___init__):= .of
theorem sc_NoLine___init__:FnScope ["self","found"] ["self","found"] (defScope s_NoLine___init__):= .of
theorem sc_NoHouse___init__:FnScope ["self"] ["self"] (defScope s_NoHouse___init__):= .of
theorem sc_NoProgram___init__:FnScope ["self"] ["self"] (defScope s_NoProgram___init__):= .of
theorem sc__law_cell:FnScope ["_law_script","_law_k"] ["_law_script","_law_k"] (defScope s__law_cell):= .of
theorem sc__law_box:FnScope ["_law_cell_here"] ["_law_cell_here"] (defScope s__law_box):= .of
theorem sc__law_take:FnScope ["_law_box_here","_law_many","_law_digit","_law_one","_law_other"] ["_law_box_here","_law_many"] (defScope s__law_take):= .of
theorem sc__law_thing:FnScope ["_law_box_here","_law_some"] ["_law_box_here"] (defScope s__law_thing):= .of
theorem sc__law_made:FnScope ["_law_thing_here","_law_more","_law_made_here","_law_found","_law_gone","_law_full"] ["_law_thing_here","_law_more"] (defScope s__law_made):= .of
theorem sc__law_field:FnScope ["_law_e","_law_name"] ["_law_e","_law_name"] (defScope s__law_field):= .of
theorem sc__law_kinds:FnScope ["_law_e","_law_kinds_here"] ["_law_e"] (defScope s__law_kinds):= .of
theorem sc__law_apart:FnScope ["_law_e","_law_at"] ["_law_e","_law_at"] (defScope s__law_apart):= .of
theorem sc__law_number:FnScope ["_law_e","_law_kinds_here"] ["_law_e"] (defScope s__law_number):= .of
theorem sc__law_text:FnScope ["_law_box_here","_law_signs"] ["_law_box_here"] (defScope s__law_text):= .of
theorem sc__law_plain_right:FnScope ["_law_box_here","_law_texts","_law_plain","_law_e","_law_text_here"] ["_law_box_here"] (defScope s__law_plain_right):= .of
theorem sc__law_bare_right:FnScope ["_law_box_here","_law_far","_law_some","_law_thing_here","_law_made_here","_law_name","_law_own"] ["_law_box_here"] (defScope s__law_bare_right):= .of
theorem sc_law:FnScope ["_law_script","_law_k","_law_box_here","_law_thing_here","_law_more","_law_seen","_law_made_here","_law_name","_law_own"] ["_law_script"] (defScope s_law):= .of
set_option genInjectivity false in
set_option genSizeOf false in
structure Adr where
  (a_RoomError___init__ a_NoNumber___init__ a_NoName___init__ a_NoValue___init__ a_NoFrame___init__ a_Gone___init__ a_Ground___init__ a_TooMany___init__ a_Full___init__ a_NoWay___init__ a_NoCell___init__ a_NoHands___init__ a_Kept___init__ a_NoDeed___init__ a_TooDeep___init__ a_TooWide___init__ a_TooLong___init__ a_Twice___init__ a_NoLabel___init__ a_NoChoices___init__ a_NoMaking___init__ a_NotStraight___init__ a_NoText___init__ a_NoManner___init__ a_NoNames___init__ a_NoLine___init__ a_NoHouse___init__ a_NoProgram___init__ a__law_cell a__law_box a__law_take a__law_thing a__law_made a__law_field a__law_kinds a__law_apart a__law_number a__law_text a__law_plain_right a__law_bare_right a_law a_RoomError a_NoNumber a_NoName a_NoValue a_NoFrame a_Gone a_Ground a_TooMany a_Full a_NoWay a_NoCell a_NoHands a_Kept a_NoDeed a_TooDeep a_TooWide a_TooLong a_Twice a_NoLabel a_NoChoices a_NoMaking a_NotStraight a_NoText a_NoManner a_NoNames a_NoLine a_NoHouse a_NoProgram:Addr)
  (d_RoomError___init__ d_NoNumber___init__ d_NoName___init__ d_NoValue___init__ d_NoFrame___init__ d_Gone___init__ d_Ground___init__ d_TooMany___init__ d_Full___init__ d_NoWay___init__ d_NoCell___init__ d_NoHands___init__ d_Kept___init__ d_NoDeed___init__ d_TooDeep___init__ d_TooWide___init__ d_TooLong___init__ d_Twice___init__ d_NoLabel___init__ d_NoChoices___init__ d_NoMaking___init__ d_NotStraight___init__ d_NoText___init__ d_NoManner___init__ d_NoNames___init__ d_NoLine___init__ d_NoHouse___init__ d_NoProgram___init__ d__law_cell d__law_box d__law_take d__law_thing d__law_made d__law_field d__law_kinds d__law_apart d__law_number d__law_text d__law_plain_right d__law_bare_right d_law:FuncData)
structure Txt (K:PySem.W.Frag) (mg:Str→Option Value) (A:Adr):Prop where
  E_RoomError:XI K mg "RoomError" A.a_RoomError A.a_RoomError___init__ A.a_RoomError
  E_NoNumber:XI K mg "NoNumber" A.a_NoNumber A.a_NoNumber___init__ A.a_RoomError
  E_NoName:XI K mg "NoName" A.a_NoName A.a_NoName___init__ A.a_RoomError
  E_NoValue:XI K mg "NoValue" A.a_NoValue A.a_NoValue___init__ A.a_RoomError
  E_NoFrame:XI K mg "NoFrame" A.a_NoFrame A.a_NoFrame___init__ A.a_RoomError
  E_Gone:XI K mg "Gone" A.a_Gone A.a_Gone___init__ A.a_RoomError
  E_Ground:XI K mg "Ground" A.a_Ground A.a_Ground___init__ A.a_RoomError
  E_TooMany:XI K mg "TooMany" A.a_TooMany A.a_TooMany___init__ A.a_RoomError
  E_Full:XI K mg "Full" A.a_Full A.a_Full___init__ A.a_RoomError
  E_NoWay:XI K mg "NoWay" A.a_NoWay A.a_NoWay___init__ A.a_RoomError
  E_NoCell:XI K mg "NoCell" A.a_NoCell A.a_NoCell___init__ A.a_RoomError
  E_NoHands:XI K mg "NoHands" A.a_NoHands A.a_NoHands___init__ A.a_RoomError
  E_Kept:XI K mg "Kept" A.a_Kept A.a_Kept___init__ A.a_RoomError
  E_NoDeed:XI K mg "NoDeed" A.a_NoDeed A.a_NoDeed___init__ A.a_RoomError
  E_TooDeep:XI K mg "TooDeep" A.a_TooDeep A.a_TooDeep___init__ A.a_RoomError
  E_TooWide:XI K mg "TooWide" A.a_TooWide A.a_TooWide___init__ A.a_RoomError
  E_TooLong:XI K mg "TooLong" A.a_TooLong A.a_TooLong___init__ A.a_RoomError
  E_Twice:XI K mg "Twice" A.a_Twice A.a_Twice___init__ A.a_RoomError
  E_NoLabel:XI K mg "NoLabel" A.a_NoLabel A.a_NoLabel___init__ A.a_RoomError
  E_NoChoices:XI K mg "NoChoices" A.a_NoChoices A.a_NoChoices___init__ A.a_RoomError
  E_NoMaking:XI K mg "NoMaking" A.a_NoMaking A.a_NoMaking___init__ A.a_RoomError
  E_NotStraight:XI K mg "NotStraight" A.a_NotStraight A.a_NotStraight___init__ A.a_RoomError
  E_NoText:XI K mg "NoText" A.a_NoText A.a_NoText___init__ A.a_RoomError
  E_NoManner:XI K mg "NoManner" A.a_NoManner A.a_NoManner___init__ A.a_RoomError
  E_NoNames:XI K mg "NoNames" A.a_NoNames A.a_NoNames___init__ A.a_RoomError
  E_NoLine:XI K mg "NoLine" A.a_NoLine A.a_NoLine___init__ A.a_RoomError
  E_NoHouse:XI K mg "NoHouse" A.a_NoHouse A.a_NoHouse___init__ A.a_RoomError
  E_NoProgram:XI K mg "NoProgram" A.a_NoProgram A.a_NoProgram___init__ A.a_RoomError
  c_RoomError___init__:ClsFn K A.a_RoomError "__init__" A.a_RoomError___init__
  n_NoNumber_found:NoAttr K A.a_NoNumber "found"
  n_NoName_found:NoAttr K A.a_NoName "found"
  n_NoValue_found:NoAttr K A.a_NoValue "found"
  n_NoFrame_found:NoAttr K A.a_NoFrame "found"
  n_Gone_by:NoAttr K A.a_Gone "by"
  n_Gone_found:NoAttr K A.a_Gone "found"
  n_TooMany_many:NoAttr K A.a_TooMany "many"
  n_Full_need:NoAttr K A.a_Full "need"
  n_Full_spare:NoAttr K A.a_Full "spare"
  n_NoWay_found:NoAttr K A.a_NoWay "found"
  n_NoCell_found:NoAttr K A.a_NoCell "found"
  n_NoHands_found:NoAttr K A.a_NoHands "found"
  n_Kept_ways:NoAttr K A.a_Kept "ways"
  n_NoDeed_found:NoAttr K A.a_NoDeed "found"
  n_TooDeep_depth:NoAttr K A.a_TooDeep "depth"
  n_TooWide_many:NoAttr K A.a_TooWide "many"
  n_TooLong_many:NoAttr K A.a_TooLong "many"
  n_Twice_label:NoAttr K A.a_Twice "label"
  n_NoLabel_label:NoAttr K A.a_NoLabel "label"
  n_NoChoices_found:NoAttr K A.a_NoChoices "found"
  n_NoMaking_found:NoAttr K A.a_NoMaking "found"
  n_NotStraight_number:NoAttr K A.a_NotStraight "number"
  n_NoText_line:NoAttr K A.a_NoText "line"
  n_NoManner_found:NoAttr K A.a_NoManner "found"
  n_NoNames_found:NoAttr K A.a_NoNames "found"
  n_NoLine_found:NoAttr K A.a_NoLine "found"
  I_RoomError___init__:MI K A.a_RoomError "__init__" "RoomError.__init__" s_RoomError___init__ ["self","text"] A.a_RoomError___init__ A.d_RoomError___init__
  I_NoNumber___init__:MI K A.a_NoNumber "__init__" "NoNumber.__init__" s_NoNumber___init__ ["self","found"] A.a_NoNumber___init__ A.d_NoNumber___init__
  I_NoName___init__:MI K A.a_NoName "__init__" "NoName.__init__" s_NoName___init__ ["self","found"] A.a_NoName___init__ A.d_NoName___init__
  I_NoValue___init__:MI K A.a_NoValue "__init__" "NoValue.__init__" s_NoValue___init__ ["self","found"] A.a_NoValue___init__ A.d_NoValue___init__
  I_NoFrame___init__:MI K A.a_NoFrame "__init__" "NoFrame.__init__" s_NoFrame___init__ ["self","found"] A.a_NoFrame___init__ A.d_NoFrame___init__
  I_Gone___init__:MI K A.a_Gone "__init__" "Gone.__init__" s_Gone___init__ ["self","found","by"] A.a_Gone___init__ A.d_Gone___init__
  I_Ground___init__:MI K A.a_Ground "__init__" "Ground.__init__" s_Ground___init__ ["self"] A.a_Ground___init__ A.d_Ground___init__
  I_TooMany___init__:MI K A.a_TooMany "__init__" "TooMany.__init__" s_TooMany___init__ ["self","many"] A.a_TooMany___init__ A.d_TooMany___init__
  I_Full___init__:MI K A.a_Full "__init__" "Full.__init__" s_Full___init__ ["self","need","spare"] A.a_Full___init__ A.d_Full___init__
  I_NoWay___init__:MI K A.a_NoWay "__init__" "NoWay.__init__" s_NoWay___init__ ["self","found"] A.a_NoWay___init__ A.d_NoWay___init__
  I_NoCell___init__:MI K A.a_NoCell "__init__" "NoCell.__init__" s_NoCell___init__ ["self","found"] A.a_NoCell___init__ A.d_NoCell___init__
  I_NoHands___init__:MI K A.a_NoHands "__init__" "NoHands.__init__" s_NoHands___init__ ["self","found"] A.a_NoHands___init__ A.d_NoHands___init__
  I_Kept___init__:MI K A.a_Kept "__init__" "Kept.__init__" s_Kept___init__ ["self","ways"] A.a_Kept___init__ A.d_Kept___init__
  I_NoDeed___init__:MI K A.a_NoDeed "__init__" "NoDeed.__init__" s_NoDeed___init__ ["self","found"] A.a_NoDeed___init__ A.d_NoDeed___init__
  I_TooDeep___init__:MI K A.a_TooDeep "__init__" "TooDeep.__init__" s_TooDeep___init__ ["self","depth"] A.a_TooDeep___init__ A.d_TooDeep___init__
  I_TooWide___init__:MI K A.a_TooWide "__init__" "TooWide.__init__" s_TooWide___init__ ["self","many"] A.a_TooWide___init__ A.d_TooWide___init__
  I_TooLong___init__:MI K A.a_TooLong "__init__" "TooLong.__init__" s_TooLong___init__ ["self","many"] A.a_TooLong___init__ A.d_TooLong___init__
  I_Twice___init__:MI K A.a_Twice "__init__" "Twice.__init__" s_Twice___init__ ["self","label"] A.a_Twice___init__ A.d_Twice___init__
  I_NoLabel___init__:MI K A.a_NoLabel "__init__" "NoLabel.__init__" s_NoLabel___init__ ["self","label"] A.a_NoLabel___init__ A.d_NoLabel___init__
  I_NoChoices___init__:MI K A.a_NoChoices "__init__" "NoChoices.__init__" s_NoChoices___init__ ["self","found"] A.a_NoChoices___init__ A.d_NoChoices___init__
  I_NoMaking___init__:MI K A.a_NoMaking "__init__" "NoMaking.__init__" s_NoMaking___init__ ["self","found"] A.a_NoMaking___init__ A.d_NoMaking___init__
  I_NotStraight___init__:MI K A.a_NotStraight "__init__" "NotStraight.__init__" s_NotStraight___init__ ["self","number"] A.a_NotStraight___init__ A.d_NotStraight___init__
  I_NoText___init__:MI K A.a_NoText "__init__" "NoText.__init__" s_NoText___init__ ["self","line"] A.a_NoText___init__ A.d_NoText___init__
  I_NoManner___init__:MI K A.a_NoManner "__init__" "NoManner.__init__" s_NoManner___init__ ["self","found"] A.a_NoManner___init__ A.d_NoManner___init__
  I_NoNames___init__:MI K A.a_NoNames "__init__" "NoNames.__init__" s_NoNames___init__ ["self","found"] A.a_NoNames___init__ A.d_NoNames___init__
  I_NoLine___init__:MI K A.a_NoLine "__init__" "NoLine.__init__" s_NoLine___init__ ["self","found"] A.a_NoLine___init__ A.d_NoLine___init__
  I_NoHouse___init__:MI K A.a_NoHouse "__init__" "NoHouse.__init__" s_NoHouse___init__ ["self"] A.a_NoHouse___init__ A.d_NoHouse___init__
  I_NoProgram___init__:MI K A.a_NoProgram "__init__" "NoProgram.__init__" s_NoProgram___init__ ["self"] A.a_NoProgram___init__ A.d_NoProgram___init__
  I__law_cell:FI K mg "_law_cell" s__law_cell ["_law_script","_law_k"] A.a__law_cell A.d__law_cell
  I__law_box:FI K mg "_law_box" s__law_box ["_law_cell_here"] A.a__law_box A.d__law_box
  I__law_take:FI K mg "_law_take" s__law_take ["_law_box_here","_law_many"] A.a__law_take A.d__law_take
  I__law_thing:FI K mg "_law_thing" s__law_thing ["_law_box_here"] A.a__law_thing A.d__law_thing
  I__law_made:FI K mg "_law_made" s__law_made ["_law_thing_here","_law_more"] A.a__law_made A.d__law_made
  I__law_field:FI K mg "_law_field" s__law_field ["_law_e","_law_name"] A.a__law_field A.d__law_field
  I__law_kinds:FI K mg "_law_kinds" s__law_kinds ["_law_e"] A.a__law_kinds A.d__law_kinds
  I__law_apart:FI K mg "_law_apart" s__law_apart ["_law_e","_law_at"] A.a__law_apart A.d__law_apart
  I__law_number:FI K mg "_law_number" s__law_number ["_law_e"] A.a__law_number A.d__law_number
  I__law_text:FI K mg "_law_text" s__law_text ["_law_box_here"] A.a__law_text A.d__law_text
  I__law_plain_right:FI K mg "_law_plain_right" s__law_plain_right ["_law_box_here"] A.a__law_plain_right A.d__law_plain_right
  I__law_bare_right:FI K mg "_law_bare_right" s__law_bare_right ["_law_box_here"] A.a__law_bare_right A.d__law_bare_right
  I_law:FI K mg "law" s_law ["_law_script"] A.a_law A.d_law
  nd_exc:[A.a_RoomError,A.a_NoNumber,A.a_NoName,A.a_NoValue,A.a_NoFrame,A.a_Gone,A.a_Ground,A.a_TooMany,A.a_Full,A.a_NoWay,A.a_NoCell,A.a_NoHands,A.a_Kept,A.a_NoDeed,A.a_TooDeep,A.a_TooWide,A.a_TooLong,A.a_Twice,A.a_NoLabel,A.a_NoChoices,A.a_NoMaking,A.a_NotStraight,A.a_NoText,A.a_NoManner,A.a_NoNames,A.a_NoLine,A.a_NoHouse,A.a_NoProgram].Nodup
  sm:∃o,K.lookup sysModules=some o∧o.cls= .type "dict"
  st_RoomError:PySem.W.findIn K (.ref A.a_RoomError) "__str__"=some (some (.builtin "BaseException.__str__"))
  B_law:∀(s:Shared) (u:Value),BindsTo s A.d_law ⟨[u],[]⟩ [("_law_script",u)]
  z_ValueError:mg "ValueError"=none
  z_isinstance:mg "isinstance"=none
  z_len:mg "len"=none
  z_max:mg "max"=none
  z_min:mg "min"=none
  z_range:mg "range"=none
  z_repr:mg "repr"=none
  z_set:mg "set"=none
  z_str:mg "str"=none
  z_zip:mg "zip"=none
noncomputable def Kept(b:Addr)(H H' :Hp):Prop:=∀c o,c≠b→H c=some o→H' c=some o
theorem log_small {n:Int} (h0:0<n) (h:n<1152921504606846976):n.natAbs.log2<9000:=by
  have h1:n.natAbs<2 ^ 60:=by
    have:(2:Nat) ^ 60=1152921504606846976:=by decide
    omega
  have:=(Nat.log2_lt (by omega)).mpr h1;omega
section
variable{P:Program}{w:World}{K:PySem.W.Frag}{mg:Str→Option Value}{base:Heap}{A:Adr}
noncomputable def spCell(K:PySem.W.Frag):Sp:=fun vs H Q _=>∃(a:Addr) (ns:List Int) (k:Int),vs=[.ref a,.int k]∧SqL K H a (ns.map V.int)∧0≤k∧k<1000∧∀c,Q (.int c) H
theorem ok__law_cell (T:Txt K mg A):FnOk P w K mg base CX0 1 A.a__law_cell A.d__law_cell ["_law_script","_law_k"] (spCell K):=by
  refine T.I__law_cell.F.okI sc__law_cell ?_
  rintro cdv Ar outer s H vs Q E hr ⟨a,ns,k,rfl,hS,h0,h1,q⟩
  refine⟨_,(pss_cons (ps_if (ptr op_lt (pv 1) (pcB call_len_seq T.z_len Boot.«len» (pa1 (pv 0)))) (pss_one (ps_ret (pix ix_list (pv 0) (pv 1)))) pss_nil) (pss_one (ps_ret (pe_op op_add (pe_op op_mul pe_int (pv 1)) pe_int)))),?_⟩;refine⟨_,rfl,_,rfl,a,_,rfl,.inl hS,k,_,rfl,rfl,_,rfl,?_⟩;refine ite2 (fun hk=> ?_) (fun hk=> ?_)
  · have hk:=of_decide_eq_true hk
    rw[List.length_map] at hk;obtain⟨j,rfl⟩:∃j:Nat,k=j:=⟨k.toNat,by omega⟩;have hj:j<ns.length:=by omega
    exact⟨_,rfl,_,rfl,a,_,_,_,rfl,rfl,hS,atI_nat (v:= .int ns[j]) (by simp[hj]),q _⟩
  · exact⟨_,rfl,7919,k,rfl,rfl,.inl ⟨by decide,by decide⟩,_,_,rfl,rfl,q _⟩
noncomputable def BoxAt(H:Hp)(b:Addr)(k:Nat):Prop:=∃(x y z:Int),H b=some (.lst [.int x,.int y,.int z])∧0≤x∧0≤y∧y<2147483629∧0≤z∧z≤(k:Int)
noncomputable def Only(b:Addr)(H H' :Hp):Prop:=∀c,c≠b→H' c=H c
theorem Only.upd{b:Addr}{H:Hp}{o:HO}:Only b H (upd H b o):=fun c hc=>upd_ne hc
theorem Only.kept{b:Addr}{H H' :Hp}(h:Only b H H'):Kept b H H' :=fun c o hc e=>(h c hc).trans e
theorem Kept.refl(b:Addr)(H:Hp):Kept b H H:=fun _ _ _ e=>e
theorem Kept.trans{b:Addr}{H H1 H2:Hp}(h:Kept b H H1)(h' :Kept b H1 H2):Kept b H H2:=fun c o hc e=>h' c o hc (h c o hc e)
theorem _root_.L2.Same.kept{b:Addr}{H H' :Hp}(h:Same H H'):Kept b H H' :=fun c o _ e=>h c o e
theorem BoxAt.same {b:Addr} {k:Nat} {H H' :Hp} (B:BoxAt H b k) (h:Same H H'):BoxAt H' b k:=by
  obtain⟨x,y,z,hb,r⟩:=B;exact⟨x,y,z,h _ _ hb,r⟩
theorem BoxAt.mono {b:Addr} {k j:Nat} {H:Hp} (B:BoxAt H b k) (h:k≤j):BoxAt H b j:=by
  obtain⟨x,y,z,hb,h1,h2,h3,h4,h5⟩:=B;exact⟨x,y,z,hb,h1,h2,h3,h4,by omega⟩
theorem BoxAt.ne {b p:Addr} {k:Nat} {H:Hp} (B:BoxAt H b k) (h:H p=none):p≠b:=by
  obtain⟨x,y,z,hb,_⟩:=B;exact(ne_of_none hb h).symm
theorem BoxAt.ne' {b t:Addr} {k:Nat} {H:Hp} {xs:List V} (B:BoxAt H b k) {H0:Hp} (_:H0 t=none) (h:H t=some (.tup xs)):t≠b:=by
  obtain⟨x,y,z,hb,_⟩:=B;exact(ne_of hb h (by intro q;cases q)).symm
theorem ix_any {K:PySem.W.Frag} {H:Hp} {p:Addr} {xs:List V} {i:Int} {Q:VK} (Pv:V→Prop) (h:H p=some (.lst xs)) (h0:0≤i) (h1:i<xs.length) (hP:∀x∈xs,Pv x) (q:∀v,Pv v→Q v H):rIxL K (.ref p) (.int i) H Q:=by
  obtain⟨j,rfl⟩:∃j:Nat,i=j:=⟨i.toNat,by omega⟩;have hj:j<xs.length:=by omega
  exact⟨p,xs,j,xs[j],rfl,rfl,SqL.of h,atI_nat (by simp[hj]),q _ (hP _ (List.getElem_mem hj))⟩
noncomputable def spBox:Sp:=fun vs H Q _=>∃c,vs=[.int c]∧∀b H',H b=none→BoxAt H' b 0→Same H H'→Q (.ref b) H'
theorem ok__law_box (T:Txt K mg A):FnOk P w K mg base CX0 1 A.a__law_box A.d__law_box ["_law_cell_here"] spBox:=by
  refine T.I__law_box.F.okI sc__law_box ?_
  rintro cdv Ar outer s H vs Q E hr ⟨c,rfl,q⟩
  refine⟨_,(pss_one (ps_ret (pe_lst (pa_cons (pcB (call_max2 rfl) T.z_max Boot.«max» (pa_cons pe_int (pa1 (pe_op op_sub (pv 0) (pe_op op_pow pe_int pe_int))))) (pa_cons (pe_op op_mod (pv 0) pe_int) (pa1 pe_int)))))),?_⟩;refine⟨_,rfl,10,18,rfl,rfl,⟨by decide,by decide,by decide⟩,c,_,rfl,rfl,0,_,rfl,?_⟩;refine⟨_,rfl,c,2147483629,rfl,rfl,(show(0:Int)<2147483629 by decide),(show 3≤sizeLine by decide),fun p hp=> ?_⟩;refine q p _ hp ⟨_,_,0,upd_same,?_,?_,?_,by decide,by decide⟩ (Same.upd hp)
  · split<;>omega
  · omega
  · omega
noncomputable def spTake:Sp:=fun vs H Q _=>∃(b:Addr) (n:Int) (k:Nat),vs=[.ref b,.int n]∧BoxAt H b k∧k≤100000∧0<n∧n<1152921504606846976∧
  ∀(r:Int) (H' :Hp),0≤r→r<n→BoxAt H' b (k+1)→Only b H H'→Q (.int r) H'
theorem ok__law_take (T:Txt K mg A):FnOk P w K mg base CX0 1 A.a__law_take A.d__law_take ["_law_box_here","_law_many"] spTake:=by
  refine T.I__law_take.F.okI sc__law_take ?_
  rintro cdv Ar outer s H vs Q E hr ⟨b,n,k,rfl,⟨x,y,z,hb,hx,hy,hy2,hz,hz2⟩,hk,hn,hn2,q⟩
  refine⟨_,(pss_cons (ps_if (ptr op_gt (pix ix_list (pv 0) pe_int) pe_int) (pss_cons (pst 2 sc__law_take.nd (pe_op op_mod (pix ix_list (pv 0) pe_int) (pv 1))) (pss_cons (ps_asg (pe_op op_fdivW (pix ix_list (pv 0) pe_int) (pv 1)) (pg_sub (pv 0) pe_int set_list)) (pss_one (ps_ret (pv 2))))) pss_nil) (pss_cons (ps_asg (pe_op op_add (pix ix_list (pv 0) pe_int) pe_int) (pg_sub (pv 0) pe_int set_list)) (pss_cons (pst 3 sc__law_take.nd (pe_op op_mod (pe_op op_pow (pe_op op_add (pe_op op_add (pix ix_list (pv 0) pe_int) (pe_op op_mul pe_int (pix ix_list (pv 0) pe_int))) pe_int) pe_int) pe_int)) (pss_cons (pst 4 sc__law_take.nd (pe_op op_mod (pe_op op_pow (pe_op op_add (pe_op op_add (pe_op op_fdivW (pv 3) pe_int) (pe_op op_mul pe_int (pix ix_list (pv 0) pe_int))) pe_int) pe_int) pe_int)) (pss_one (ps_ret (pe_op op_mod (pe_op op_add (pe_op op_fdivW (pv 3) pe_int) (pe_op op_mul pe_int (pe_op op_fdivW (pv 4) pe_int))) (pv 1)))))))),?_⟩;refine⟨_,rfl,b,_,_,_,rfl,rfl,SqL.of hb,rfl,_,_,rfl,rfl,_,rfl,?_⟩;refine ite2 (fun h0=> ?_) (fun h0=> ?_)
  · refine⟨_,rfl,b,_,_,_,rfl,rfl,SqL.of hb,rfl,_,rfl,x,n,rfl,rfl,hn,?_⟩
    refine⟨_,rfl,b,_,_,_,rfl,rfl,SqL.of hb,rfl,_,rfl,x,n,rfl,rfl,⟨hn,log_small hn hn2⟩,?_⟩;refine⟨_,rfl,b,_,0,0,rfl,rfl,hb,rfl,?_⟩;refine⟨_,rfl,q _ _ (Int.emod_nonneg _ (by omega)) (Int.emod_lt_of_pos _ hn) ⟨_,y,z,upd_same,Int.ediv_nonneg hx (by omega),hy,hy2,hz,by omega⟩ Only.upd⟩
  · refine⟨_,rfl,b,_,_,_,rfl,rfl,SqL.of hb,rfl,z,1,rfl,rfl,?_⟩
    refine⟨_,rfl,b,_,2,2,rfl,rfl,hb,rfl,?_⟩;have hb' :upd H b (.lst [.int x,.int y,.int (z+1)]) b=some (.lst [.int x,.int y,.int (z+1)]):=upd_same;refine⟨_,rfl,b,_,_,_,rfl,rfl,SqL.of hb',rfl,_,rfl,b,_,_,_,rfl,rfl,SqL.of hb',rfl,7919,z+1,rfl,rfl,.inl ⟨by decide,by decide⟩,y,_,rfl,rfl,_,29,rfl,rfl,_,5,rfl,rfl,⟨by decide,by decide,?_⟩,_,2147483647,rfl,rfl,(show(0:Int)<2147483647 by decide),?_⟩
    · omega
    dsimp only;generalize e1:(y+7919*(z+1)+29) ^ (5:Int).toNat % 2147483647=one;have b1:0≤one:=by rw[←e1];exact Int.emod_nonneg _ (by decide)
    have b2:one<2147483647:=by rw[←e1];exact Int.emod_lt_of_pos _ (by decide)
    refine⟨_,rfl,one,8,rfl,rfl,⟨by decide,by decide⟩,_,rfl,b,_,_,_,rfl,rfl,SqL.of hb',rfl,104729,z+1,rfl,rfl,.inl ⟨by decide,by decide⟩,_,_,rfl,rfl,_,3,rfl,rfl,_,3,rfl,rfl,⟨by decide,by decide,?_⟩,_,2147483629,rfl,rfl,(show(0:Int)<2147483629 by decide),?_⟩
    · omega
    dsimp only;generalize e2:(one / 8+104729*(z+1)+3) ^ (3:Int).toNat % 2147483629=other;have b3:0≤other:=by rw[←e2];exact Int.emod_nonneg _ (by decide)
    have b4:other<2147483629:=by rw[←e2];exact Int.emod_lt_of_pos _ (by decide)
    refine⟨_,rfl,one,4,rfl,rfl,⟨by decide,by decide⟩,_,rfl,other,4,rfl,rfl,⟨by decide,by decide⟩,536870909,_,rfl,rfl,.inl ⟨by decide,by decide⟩,_,_,rfl,rfl,_,rfl,_,n,rfl,rfl,hn,?_⟩;exact q _ _ (Int.emod_nonneg _ (by omega)) (Int.emod_lt_of_pos _ hn) ⟨x,y,z+1,upd_same,hx,hy,hy2,by omega,by omega⟩ Only.upd
end
end My
namespace My
open PySem L2 PyProof.Rows
section
variable{P:Program}{w:World}{K:PySem.W.Frag}{mg:Str→Option Value}{base:Heap}{A:Adr}
noncomputable def spRI(K:PySem.W.Frag):Sp:=fun vs H Q _=>∃a C dd n x,vs=[.ref a,x]∧H a=some (.ext (excP a C dd n))∧ExcC K C∧Q .non H
theorem ok_RoomError___init__ (T:Txt K mg A):FnOk P w K mg base CX0 1 A.a_RoomError___init__ A.d_RoomError___init__ ["self","text"] (spRI K):=by
  refine T.I_RoomError___init__.F.okI sc_RoomError___init__ ?_
  rintro cdv Ar outer s H vs Q E hr ⟨a,C,dd,n,x,rfl,ea,hc,k⟩
  refine⟨_,(pss_one (ps_expr (pe_vinit rfl T.z_ValueError (pa_cons (pv 0) (pa1 (pv 1)))))),?_⟩;exact⟨_,rfl,_,rfl,a,C,dd,n,x,rfl,ea,hc,k⟩
noncomputable def spX1(C:Addr)(fd:Str):Sp:=fun vs H Q _=>∃a x,vs=[.ref a,x]∧H a=some (.ext (excP a C none true))∧∀dx,H dx=none→dx≠a→Q .non (upd (upd H a (.ext (excP a C (some dx) true))) dx (.xd [(fd,x)]))
noncomputable def spX0(C:Addr):Sp:=fun vs H Q _=>∃a,vs=[.ref a]∧H a=some (.ext (excP a C none true))∧Q .non H
noncomputable def spX2(C:Addr)(f g:Str):Sp:=fun vs H Q _=>∃a x y,vs=[.ref a,x,y]∧H a=some (.ext (excP a C none true))∧∀dx,H dx=none→dx≠a→Q .non (upd (upd (upd H a (.ext (excP a C (some dx) true))) dx (.xd [(f,x)])) dx (.xd (putF g y [(f,x)])))
theorem ok_NoNumber___init__ (T:Txt K mg A):FnOk P w K mg base CX0 2 A.a_NoNumber___init__ A.d_NoNumber___init__ ["self","found"] (spX1 A.a_NoNumber "found"):=by
  refine T.I_NoNumber___init__.F.okI sc_NoNumber___init__ ?_
  rintro cdv Ar outer s H vs Q E hr ⟨a,x,rfl,ea,k⟩
  refine⟨_,(pss_cons (ps_expr (pe_ccall T.c_RoomError___init__ rfl T.E_RoomError.m ((ok_RoomError___init__ T).mono (by decide)) hr T.I_RoomError___init__.b .nil pass0 (pa_cons (pv 0) (pa1 pe_str)))) (pss_one (ps_fldX (pv 0) (pv 1) rfl))),?_⟩;refine⟨_,rfl,a,A.a_NoNumber,none,true,_,rfl,ea,T.E_NoNumber.X.toExcC,?_⟩;exact⟨_,rfl,_,rfl,a,A.a_NoNumber,true,rfl,T.E_NoNumber.e,T.n_NoNumber_found,.inl ⟨ea,fun dx hn ne=>k dx hn ne⟩⟩
theorem ok_NoName___init__ (T:Txt K mg A):FnOk P w K mg base CX0 2 A.a_NoName___init__ A.d_NoName___init__ ["self","found"] (spX1 A.a_NoName "found"):=by
  refine T.I_NoName___init__.F.okI sc_NoName___init__ ?_
  rintro cdv Ar outer s H vs Q E hr ⟨a,x,rfl,ea,k⟩
  refine⟨_,(pss_cons (ps_expr (pe_ccall T.c_RoomError___init__ rfl T.E_RoomError.m ((ok_RoomError___init__ T).mono (by decide)) hr T.I_RoomError___init__.b .nil pass0 (pa_cons (pv 0) (pa1 pe_str)))) (pss_one (ps_fldX (pv 0) (pv 1) rfl))),?_⟩;refine⟨_,rfl,a,A.a_NoName,none,true,_,rfl,ea,T.E_NoName.X.toExcC,?_⟩;exact⟨_,rfl,_,rfl,a,A.a_NoName,true,rfl,T.E_NoName.e,T.n_NoName_found,.inl ⟨ea,fun dx hn ne=>k dx hn ne⟩⟩
theorem ok_NoValue___init__ (T:Txt K mg A):FnOk P w K mg base CX0 2 A.a_NoValue___init__ A.d_NoValue___init__ ["self","found"] (spX1 A.a_NoValue "found"):=by
  refine T.I_NoValue___init__.F.okI sc_NoValue___init__ ?_
  rintro cdv Ar outer s H vs Q E hr ⟨a,x,rfl,ea,k⟩
  refine⟨_,(pss_cons (ps_expr (pe_ccall T.c_RoomError___init__ rfl T.E_RoomError.m ((ok_RoomError___init__ T).mono (by decide)) hr T.I_RoomError___init__.b .nil pass0 (pa_cons (pv 0) (pa1 pe_str)))) (pss_one (ps_fldX (pv 0) (pv 1) rfl))),?_⟩;refine⟨_,rfl,a,A.a_NoValue,none,true,_,rfl,ea,T.E_NoValue.X.toExcC,?_⟩;exact⟨_,rfl,_,rfl,a,A.a_NoValue,true,rfl,T.E_NoValue.e,T.n_NoValue_found,.inl ⟨ea,fun dx hn ne=>k dx hn ne⟩⟩
theorem ok_NoFrame___init__ (T:Txt K mg A):FnOk P w K mg base CX0 2 A.a_NoFrame___init__ A.d_NoFrame___init__ ["self","found"] (spX1 A.a_NoFrame "found"):=by
  refine T.I_NoFrame___init__.F.okI sc_NoFrame___init__ ?_
  rintro cdv Ar outer s H vs Q E hr ⟨a,x,rfl,ea,k⟩
  refine⟨_,(pss_cons (ps_expr (pe_ccall T.c_RoomError___init__ rfl T.E_RoomError.m ((ok_RoomError___init__ T).mono (by decide)) hr T.I_RoomError___init__.b .nil pass0 (pa_cons (pv 0) (pa1 pe_str)))) (pss_one (ps_fldX (pv 0) (pv 1) rfl))),?_⟩;refine⟨_,rfl,a,A.a_NoFrame,none,true,_,rfl,ea,T.E_NoFrame.X.toExcC,?_⟩;exact⟨_,rfl,_,rfl,a,A.a_NoFrame,true,rfl,T.E_NoFrame.e,T.n_NoFrame_found,.inl ⟨ea,fun dx hn ne=>k dx hn ne⟩⟩
theorem ok_Gone___init__ (T:Txt K mg A):FnOk P w K mg base CX0 2 A.a_Gone___init__ A.d_Gone___init__ ["self","found","by"] (spX2 A.a_Gone "found" "by"):=by
  refine T.I_Gone___init__.F.okI sc_Gone___init__ ?_
  rintro cdv Ar outer s H vs Q E hr ⟨a,x,y,rfl,ea,k⟩
  refine⟨_,(pss_cons (ps_expr (pe_ccall T.c_RoomError___init__ rfl T.E_RoomError.m ((ok_RoomError___init__ T).mono (by decide)) hr T.I_RoomError___init__.b .nil pass0 (pa_cons (pv 0) (pa1 pe_str)))) (pss_cons (ps_fldX (pv 0) (pv 1) rfl) (pss_one (ps_fldX (pv 0) (pv 2) rfl)))),?_⟩;refine⟨_,rfl,a,A.a_Gone,none,true,_,rfl,ea,T.E_Gone.X.toExcC,?_⟩;refine⟨_,rfl,_,rfl,a,A.a_Gone,true,rfl,T.E_Gone.e,T.n_Gone_found,.inl ⟨ea,fun dx hn ne=> ?_⟩⟩;exact⟨_,rfl,_,rfl,a,A.a_Gone,true,rfl,T.E_Gone.e,T.n_Gone_by,.inr ⟨dx,_,(by rw[upd_ne ne.symm,upd_same]),upd_same,ne,(show 1≤900 by decide),k dx hn ne⟩⟩
theorem ok_Ground___init__ (T:Txt K mg A):FnOk P w K mg base CX0 2 A.a_Ground___init__ A.d_Ground___init__ ["self"] (spX0 A.a_Ground):=by
  refine T.I_Ground___init__.F.okI sc_Ground___init__ ?_
  rintro cdv Ar outer s H vs Q E hr ⟨a,rfl,ea,k⟩
  refine⟨_,(pss_one (ps_expr (pe_ccall T.c_RoomError___init__ rfl T.E_RoomError.m ((ok_RoomError___init__ T).mono (by decide)) hr T.I_RoomError___init__.b .nil pass0 (pa_cons (pv 0) (pa1 pe_str))))),?_⟩;exact⟨_,rfl,a,A.a_Ground,none,true,_,rfl,ea,T.E_Ground.X.toExcC,k⟩
theorem ok_TooMany___init__ (T:Txt K mg A):FnOk P w K mg base CX0 2 A.a_TooMany___init__ A.d_TooMany___init__ ["self","many"] (spX1 A.a_TooMany "many"):=by
  refine T.I_TooMany___init__.F.okI sc_TooMany___init__ ?_
  rintro cdv Ar outer s H vs Q E hr ⟨a,x,rfl,ea,k⟩
  refine⟨_,(pss_cons (ps_expr (pe_ccall T.c_RoomError___init__ rfl T.E_RoomError.m ((ok_RoomError___init__ T).mono (by decide)) hr T.I_RoomError___init__.b .nil pass0 (pa_cons (pv 0) (pa1 pe_str)))) (pss_one (ps_fldX (pv 0) (pv 1) rfl))),?_⟩;refine⟨_,rfl,a,A.a_TooMany,none,true,_,rfl,ea,T.E_TooMany.X.toExcC,?_⟩;exact⟨_,rfl,_,rfl,a,A.a_TooMany,true,rfl,T.E_TooMany.e,T.n_TooMany_many,.inl ⟨ea,fun dx hn ne=>k dx hn ne⟩⟩
theorem ok_Full___init__ (T:Txt K mg A):FnOk P w K mg base CX0 2 A.a_Full___init__ A.d_Full___init__ ["self","need","spare"] (spX2 A.a_Full "need" "spare"):=by
  refine T.I_Full___init__.F.okI sc_Full___init__ ?_
  rintro cdv Ar outer s H vs Q E hr ⟨a,x,y,rfl,ea,k⟩
  refine⟨_,(pss_cons (ps_expr (pe_ccall T.c_RoomError___init__ rfl T.E_RoomError.m ((ok_RoomError___init__ T).mono (by decide)) hr T.I_RoomError___init__.b .nil pass0 (pa_cons (pv 0) (pa1 pe_str)))) (pss_cons (ps_fldX (pv 0) (pv 1) rfl) (pss_one (ps_fldX (pv 0) (pv 2) rfl)))),?_⟩;refine⟨_,rfl,a,A.a_Full,none,true,_,rfl,ea,T.E_Full.X.toExcC,?_⟩;refine⟨_,rfl,_,rfl,a,A.a_Full,true,rfl,T.E_Full.e,T.n_Full_need,.inl ⟨ea,fun dx hn ne=> ?_⟩⟩;exact⟨_,rfl,_,rfl,a,A.a_Full,true,rfl,T.E_Full.e,T.n_Full_spare,.inr ⟨dx,_,(by rw[upd_ne ne.symm,upd_same]),upd_same,ne,(show 1≤900 by decide),k dx hn ne⟩⟩
theorem ok_NoWay___init__ (T:Txt K mg A):FnOk P w K mg base CX0 2 A.a_NoWay___init__ A.d_NoWay___init__ ["self","found"] (spX1 A.a_NoWay "found"):=by
  refine T.I_NoWay___init__.F.okI sc_NoWay___init__ ?_
  rintro cdv Ar outer s H vs Q E hr ⟨a,x,rfl,ea,k⟩
  refine⟨_,(pss_cons (ps_expr (pe_ccall T.c_RoomError___init__ rfl T.E_RoomError.m ((ok_RoomError___init__ T).mono (by decide)) hr T.I_RoomError___init__.b .nil pass0 (pa_cons (pv 0) (pa1 pe_str)))) (pss_one (ps_fldX (pv 0) (pv 1) rfl))),?_⟩;refine⟨_,rfl,a,A.a_NoWay,none,true,_,rfl,ea,T.E_NoWay.X.toExcC,?_⟩;exact⟨_,rfl,_,rfl,a,A.a_NoWay,true,rfl,T.E_NoWay.e,T.n_NoWay_found,.inl ⟨ea,fun dx hn ne=>k dx hn ne⟩⟩
theorem ok_NoCell___init__ (T:Txt K mg A):FnOk P w K mg base CX0 2 A.a_NoCell___init__ A.d_NoCell___init__ ["self","found"] (spX1 A.a_NoCell "found"):=by
  refine T.I_NoCell___init__.F.okI sc_NoCell___init__ ?_
  rintro cdv Ar outer s H vs Q E hr ⟨a,x,rfl,ea,k⟩
  refine⟨_,(pss_cons (ps_expr (pe_ccall T.c_RoomError___init__ rfl T.E_RoomError.m ((ok_RoomError___init__ T).mono (by decide)) hr T.I_RoomError___init__.b .nil pass0 (pa_cons (pv 0) (pa1 pe_str)))) (pss_one (ps_fldX (pv 0) (pv 1) rfl))),?_⟩;refine⟨_,rfl,a,A.a_NoCell,none,true,_,rfl,ea,T.E_NoCell.X.toExcC,?_⟩;exact⟨_,rfl,_,rfl,a,A.a_NoCell,true,rfl,T.E_NoCell.e,T.n_NoCell_found,.inl ⟨ea,fun dx hn ne=>k dx hn ne⟩⟩
theorem ok_NoHands___init__ (T:Txt K mg A):FnOk P w K mg base CX0 2 A.a_NoHands___init__ A.d_NoHands___init__ ["self","found"] (spX1 A.a_NoHands "found"):=by
  refine T.I_NoHands___init__.F.okI sc_NoHands___init__ ?_
  rintro cdv Ar outer s H vs Q E hr ⟨a,x,rfl,ea,k⟩
  refine⟨_,(pss_cons (ps_expr (pe_ccall T.c_RoomError___init__ rfl T.E_RoomError.m ((ok_RoomError___init__ T).mono (by decide)) hr T.I_RoomError___init__.b .nil pass0 (pa_cons (pv 0) (pa1 pe_str)))) (pss_one (ps_fldX (pv 0) (pv 1) rfl))),?_⟩;refine⟨_,rfl,a,A.a_NoHands,none,true,_,rfl,ea,T.E_NoHands.X.toExcC,?_⟩;exact⟨_,rfl,_,rfl,a,A.a_NoHands,true,rfl,T.E_NoHands.e,T.n_NoHands_found,.inl ⟨ea,fun dx hn ne=>k dx hn ne⟩⟩
theorem ok_Kept___init__ (T:Txt K mg A):FnOk P w K mg base CX0 2 A.a_Kept___init__ A.d_Kept___init__ ["self","ways"] (spX1 A.a_Kept "ways"):=by
  refine T.I_Kept___init__.F.okI sc_Kept___init__ ?_
  rintro cdv Ar outer s H vs Q E hr ⟨a,x,rfl,ea,k⟩
  refine⟨_,(pss_cons (ps_expr (pe_ccall T.c_RoomError___init__ rfl T.E_RoomError.m ((ok_RoomError___init__ T).mono (by decide)) hr T.I_RoomError___init__.b .nil pass0 (pa_cons (pv 0) (pa1 pe_str)))) (pss_one (ps_fldX (pv 0) (pv 1) rfl))),?_⟩;refine⟨_,rfl,a,A.a_Kept,none,true,_,rfl,ea,T.E_Kept.X.toExcC,?_⟩;exact⟨_,rfl,_,rfl,a,A.a_Kept,true,rfl,T.E_Kept.e,T.n_Kept_ways,.inl ⟨ea,fun dx hn ne=>k dx hn ne⟩⟩
theorem ok_NoDeed___init__ (T:Txt K mg A):FnOk P w K mg base CX0 2 A.a_NoDeed___init__ A.d_NoDeed___init__ ["self","found"] (spX1 A.a_NoDeed "found"):=by
  refine T.I_NoDeed___init__.F.okI sc_NoDeed___init__ ?_
  rintro cdv Ar outer s H vs Q E hr ⟨a,x,rfl,ea,k⟩
  refine⟨_,(pss_cons (ps_expr (pe_ccall T.c_RoomError___init__ rfl T.E_RoomError.m ((ok_RoomError___init__ T).mono (by decide)) hr T.I_RoomError___init__.b .nil pass0 (pa_cons (pv 0) (pa1 pe_str)))) (pss_one (ps_fldX (pv 0) (pv 1) rfl))),?_⟩;refine⟨_,rfl,a,A.a_NoDeed,none,true,_,rfl,ea,T.E_NoDeed.X.toExcC,?_⟩;exact⟨_,rfl,_,rfl,a,A.a_NoDeed,true,rfl,T.E_NoDeed.e,T.n_NoDeed_found,.inl ⟨ea,fun dx hn ne=>k dx hn ne⟩⟩
theorem ok_TooDeep___init__ (T:Txt K mg A):FnOk P w K mg base CX0 2 A.a_TooDeep___init__ A.d_TooDeep___init__ ["self","depth"] (spX1 A.a_TooDeep "depth"):=by
  refine T.I_TooDeep___init__.F.okI sc_TooDeep___init__ ?_
  rintro cdv Ar outer s H vs Q E hr ⟨a,x,rfl,ea,k⟩
  refine⟨_,(pss_cons (ps_expr (pe_ccall T.c_RoomError___init__ rfl T.E_RoomError.m ((ok_RoomError___init__ T).mono (by decide)) hr T.I_RoomError___init__.b .nil pass0 (pa_cons (pv 0) (pa1 pe_str)))) (pss_one (ps_fldX (pv 0) (pv 1) rfl))),?_⟩;refine⟨_,rfl,a,A.a_TooDeep,none,true,_,rfl,ea,T.E_TooDeep.X.toExcC,?_⟩;exact⟨_,rfl,_,rfl,a,A.a_TooDeep,true,rfl,T.E_TooDeep.e,T.n_TooDeep_depth,.inl ⟨ea,fun dx hn ne=>k dx hn ne⟩⟩
theorem ok_TooWide___init__ (T:Txt K mg A):FnOk P w K mg base CX0 2 A.a_TooWide___init__ A.d_TooWide___init__ ["self","many"] (spX1 A.a_TooWide "many"):=by
  refine T.I_TooWide___init__.F.okI sc_TooWide___init__ ?_
  rintro cdv Ar outer s H vs Q E hr ⟨a,x,rfl,ea,k⟩
  refine⟨_,(pss_cons (ps_expr (pe_ccall T.c_RoomError___init__ rfl T.E_RoomError.m ((ok_RoomError___init__ T).mono (by decide)) hr T.I_RoomError___init__.b .nil pass0 (pa_cons (pv 0) (pa1 pe_str)))) (pss_one (ps_fldX (pv 0) (pv 1) rfl))),?_⟩;refine⟨_,rfl,a,A.a_TooWide,none,true,_,rfl,ea,T.E_TooWide.X.toExcC,?_⟩;exact⟨_,rfl,_,rfl,a,A.a_TooWide,true,rfl,T.E_TooWide.e,T.n_TooWide_many,.inl ⟨ea,fun dx hn ne=>k dx hn ne⟩⟩
theorem ok_TooLong___init__ (T:Txt K mg A):FnOk P w K mg base CX0 2 A.a_TooLong___init__ A.d_TooLong___init__ ["self","many"] (spX1 A.a_TooLong "many"):=by
  refine T.I_TooLong___init__.F.okI sc_TooLong___init__ ?_
  rintro cdv Ar outer s H vs Q E hr ⟨a,x,rfl,ea,k⟩
  refine⟨_,(pss_cons (ps_expr (pe_ccall T.c_RoomError___init__ rfl T.E_RoomError.m ((ok_RoomError___init__ T).mono (by decide)) hr T.I_RoomError___init__.b .nil pass0 (pa_cons (pv 0) (pa1 pe_str)))) (pss_one (ps_fldX (pv 0) (pv 1) rfl))),?_⟩;refine⟨_,rfl,a,A.a_TooLong,none,true,_,rfl,ea,T.E_TooLong.X.toExcC,?_⟩;exact⟨_,rfl,_,rfl,a,A.a_TooLong,true,rfl,T.E_TooLong.e,T.n_TooLong_many,.inl ⟨ea,fun dx hn ne=>k dx hn ne⟩⟩
theorem ok_Twice___init__ (T:Txt K mg A):FnOk P w K mg base CX0 2 A.a_Twice___init__ A.d_Twice___init__ ["self","label"] (spX1 A.a_Twice "label"):=by
  refine T.I_Twice___init__.F.okI sc_Twice___init__ ?_
  rintro cdv Ar outer s H vs Q E hr ⟨a,x,rfl,ea,k⟩
  refine⟨_,(pss_cons (ps_expr (pe_ccall T.c_RoomError___init__ rfl T.E_RoomError.m ((ok_RoomError___init__ T).mono (by decide)) hr T.I_RoomError___init__.b .nil pass0 (pa_cons (pv 0) (pa1 pe_str)))) (pss_one (ps_fldX (pv 0) (pv 1) rfl))),?_⟩;refine⟨_,rfl,a,A.a_Twice,none,true,_,rfl,ea,T.E_Twice.X.toExcC,?_⟩;exact⟨_,rfl,_,rfl,a,A.a_Twice,true,rfl,T.E_Twice.e,T.n_Twice_label,.inl ⟨ea,fun dx hn ne=>k dx hn ne⟩⟩
theorem ok_NoLabel___init__ (T:Txt K mg A):FnOk P w K mg base CX0 2 A.a_NoLabel___init__ A.d_NoLabel___init__ ["self","label"] (spX1 A.a_NoLabel "label"):=by
  refine T.I_NoLabel___init__.F.okI sc_NoLabel___init__ ?_
  rintro cdv Ar outer s H vs Q E hr ⟨a,x,rfl,ea,k⟩
  refine⟨_,(pss_cons (ps_expr (pe_ccall T.c_RoomError___init__ rfl T.E_RoomError.m ((ok_RoomError___init__ T).mono (by decide)) hr T.I_RoomError___init__.b .nil pass0 (pa_cons (pv 0) (pa1 pe_str)))) (pss_one (ps_fldX (pv 0) (pv 1) rfl))),?_⟩;refine⟨_,rfl,a,A.a_NoLabel,none,true,_,rfl,ea,T.E_NoLabel.X.toExcC,?_⟩;exact⟨_,rfl,_,rfl,a,A.a_NoLabel,true,rfl,T.E_NoLabel.e,T.n_NoLabel_label,.inl ⟨ea,fun dx hn ne=>k dx hn ne⟩⟩
theorem ok_NoChoices___init__ (T:Txt K mg A):FnOk P w K mg base CX0 2 A.a_NoChoices___init__ A.d_NoChoices___init__ ["self","found"] (spX1 A.a_NoChoices "found"):=by
  refine T.I_NoChoices___init__.F.okI sc_NoChoices___init__ ?_
  rintro cdv Ar outer s H vs Q E hr ⟨a,x,rfl,ea,k⟩
  refine⟨_,(pss_cons (ps_expr (pe_ccall T.c_RoomError___init__ rfl T.E_RoomError.m ((ok_RoomError___init__ T).mono (by decide)) hr T.I_RoomError___init__.b .nil pass0 (pa_cons (pv 0) (pa1 pe_str)))) (pss_one (ps_fldX (pv 0) (pv 1) rfl))),?_⟩;refine⟨_,rfl,a,A.a_NoChoices,none,true,_,rfl,ea,T.E_NoChoices.X.toExcC,?_⟩;exact⟨_,rfl,_,rfl,a,A.a_NoChoices,true,rfl,T.E_NoChoices.e,T.n_NoChoices_found,.inl ⟨ea,fun dx hn ne=>k dx hn ne⟩⟩
theorem ok_NoMaking___init__ (T:Txt K mg A):FnOk P w K mg base CX0 2 A.a_NoMaking___init__ A.d_NoMaking___init__ ["self","found"] (spX1 A.a_NoMaking "found"):=by
  refine T.I_NoMaking___init__.F.okI sc_NoMaking___init__ ?_
  rintro cdv Ar outer s H vs Q E hr ⟨a,x,rfl,ea,k⟩
  refine⟨_,(pss_cons (ps_expr (pe_ccall T.c_RoomError___init__ rfl T.E_RoomError.m ((ok_RoomError___init__ T).mono (by decide)) hr T.I_RoomError___init__.b .nil pass0 (pa_cons (pv 0) (pa1 pe_str)))) (pss_one (ps_fldX (pv 0) (pv 1) rfl))),?_⟩;refine⟨_,rfl,a,A.a_NoMaking,none,true,_,rfl,ea,T.E_NoMaking.X.toExcC,?_⟩;exact⟨_,rfl,_,rfl,a,A.a_NoMaking,true,rfl,T.E_NoMaking.e,T.n_NoMaking_found,.inl ⟨ea,fun dx hn ne=>k dx hn ne⟩⟩
theorem ok_NotStraight___init__ (T:Txt K mg A):FnOk P w K mg base CX0 2 A.a_NotStraight___init__ A.d_NotStraight___init__ ["self","number"] (spX1 A.a_NotStraight "number"):=by
  refine T.I_NotStraight___init__.F.okI sc_NotStraight___init__ ?_
  rintro cdv Ar outer s H vs Q E hr ⟨a,x,rfl,ea,k⟩
  refine⟨_,(pss_cons (ps_expr (pe_ccall T.c_RoomError___init__ rfl T.E_RoomError.m ((ok_RoomError___init__ T).mono (by decide)) hr T.I_RoomError___init__.b .nil pass0 (pa_cons (pv 0) (pa1 pe_str)))) (pss_one (ps_fldX (pv 0) (pv 1) rfl))),?_⟩;refine⟨_,rfl,a,A.a_NotStraight,none,true,_,rfl,ea,T.E_NotStraight.X.toExcC,?_⟩;exact⟨_,rfl,_,rfl,a,A.a_NotStraight,true,rfl,T.E_NotStraight.e,T.n_NotStraight_number,.inl ⟨ea,fun dx hn ne=>k dx hn ne⟩⟩
theorem ok_NoText___init__ (T:Txt K mg A):FnOk P w K mg base CX0 2 A.a_NoText___init__ A.d_NoText___init__ ["self","line"] (spX1 A.a_NoText "line"):=by
  refine T.I_NoText___init__.F.okI sc_NoText___init__ ?_
  rintro cdv Ar outer s H vs Q E hr ⟨a,x,rfl,ea,k⟩
  refine⟨_,(pss_cons (ps_expr (pe_ccall T.c_RoomError___init__ rfl T.E_RoomError.m ((ok_RoomError___init__ T).mono (by decide)) hr T.I_RoomError___init__.b .nil pass0 (pa_cons (pv 0) (pa1 pe_str)))) (pss_one (ps_fldX (pv 0) (pv 1) rfl))),?_⟩;refine⟨_,rfl,a,A.a_NoText,none,true,_,rfl,ea,T.E_NoText.X.toExcC,?_⟩;exact⟨_,rfl,_,rfl,a,A.a_NoText,true,rfl,T.E_NoText.e,T.n_NoText_line,.inl ⟨ea,fun dx hn ne=>k dx hn ne⟩⟩
theorem ok_NoManner___init__ (T:Txt K mg A):FnOk P w K mg base CX0 2 A.a_NoManner___init__ A.d_NoManner___init__ ["self","found"] (spX1 A.a_NoManner "found"):=by
  refine T.I_NoManner___init__.F.okI sc_NoManner___init__ ?_
  rintro cdv Ar outer s H vs Q E hr ⟨a,x,rfl,ea,k⟩
  refine⟨_,(pss_cons (ps_expr (pe_ccall T.c_RoomError___init__ rfl T.E_RoomError.m ((ok_RoomError___init__ T).mono (by decide)) hr T.I_RoomError___init__.b .nil pass0 (pa_cons (pv 0) (pa1 pe_str)))) (pss_one (ps_fldX (pv 0) (pv 1) rfl))),?_⟩;refine⟨_,rfl,a,A.a_NoManner,none,true,_,rfl,ea,T.E_NoManner.X.toExcC,?_⟩;exact⟨_,rfl,_,rfl,a,A.a_NoManner,true,rfl,T.E_NoManner.e,T.n_NoManner_found,.inl ⟨ea,fun dx hn ne=>k dx hn ne⟩⟩
theorem ok_NoNames___init__ (T:Txt K mg A):FnOk P w K mg base CX0 2 A.a_NoNames___init__ A.d_NoNames___init__ ["self","found"] (spX1 A.a_NoNames "found"):=by
  refine T.I_NoNames___init__.F.okI sc_NoNames___init__ ?_
  rintro cdv Ar outer s H vs Q E hr ⟨a,x,rfl,ea,k⟩
  refine⟨_,(pss_cons (ps_expr (pe_ccall T.c_RoomError___init__ rfl T.E_RoomError.m ((ok_RoomError___init__ T).mono (by decide)) hr T.I_RoomError___init__.b .nil pass0 (pa_cons (pv 0) (pa1 pe_str)))) (pss_one (ps_fldX (pv 0) (pv 1) rfl))),?_⟩;refine⟨_,rfl,a,A.a_NoNames,none,true,_,rfl,ea,T.E_NoNames.X.toExcC,?_⟩;exact⟨_,rfl,_,rfl,a,A.a_NoNames,true,rfl,T.E_NoNames.e,T.n_NoNames_found,.inl ⟨ea,fun dx hn ne=>k dx hn ne⟩⟩
theorem ok_NoLine___init__ (T:Txt K mg A):FnOk P w K mg base CX0 2 A.a_NoLine___init__ A.d_NoLine___init__ ["self","found"] (spX1 A.a_NoLine "found"):=by
  refine T.I_NoLine___init__.F.okI sc_NoLine___init__ ?_
  rintro cdv Ar outer s H vs Q E hr ⟨a,x,rfl,ea,k⟩
  refine⟨_,(pss_cons (ps_expr (pe_ccall T.c_RoomError___init__ rfl T.E_RoomError.m ((ok_RoomError___init__ T).mono (by decide)) hr T.I_RoomError___init__.b .nil pass0 (pa_cons (pv 0) (pa1 pe_str)))) (pss_one (ps_fldX (pv 0) (pv 1) rfl))),?_⟩;refine⟨_,rfl,a,A.a_NoLine,none,true,_,rfl,ea,T.E_NoLine.X.toExcC,?_⟩;exact⟨_,rfl,_,rfl,a,A.a_NoLine,true,rfl,T.E_NoLine.e,T.n_NoLine_found,.inl ⟨ea,fun dx hn ne=>k dx hn ne⟩⟩
theorem ok_NoHouse___init__ (T:Txt K mg A):FnOk P w K mg base CX0 2 A.a_NoHouse___init__ A.d_NoHouse___init__ ["self"] (spX0 A.a_NoHouse):=by
  refine T.I_NoHouse___init__.F.okI sc_NoHouse___init__ ?_
  rintro cdv Ar outer s H vs Q E hr ⟨a,rfl,ea,k⟩
  refine⟨_,(pss_one (ps_expr (pe_ccall T.c_RoomError___init__ rfl T.E_RoomError.m ((ok_RoomError___init__ T).mono (by decide)) hr T.I_RoomError___init__.b .nil pass0 (pa_cons (pv 0) (pa1 pe_str))))),?_⟩;exact⟨_,rfl,a,A.a_NoHouse,none,true,_,rfl,ea,T.E_NoHouse.X.toExcC,k⟩
theorem ok_NoProgram___init__ (T:Txt K mg A):FnOk P w K mg base CX0 2 A.a_NoProgram___init__ A.d_NoProgram___init__ ["self"] (spX0 A.a_NoProgram):=by
  refine T.I_NoProgram___init__.F.okI sc_NoProgram___init__ ?_
  rintro cdv Ar outer s H vs Q E hr ⟨a,rfl,ea,k⟩
  refine⟨_,(pss_one (ps_expr (pe_ccall T.c_RoomError___init__ rfl T.E_RoomError.m ((ok_RoomError___init__ T).mono (by decide)) hr T.I_RoomError___init__.b .nil pass0 (pa_cons (pv 0) (pa1 pe_str))))),?_⟩;exact⟨_,rfl,a,A.a_NoProgram,none,true,_,rfl,ea,T.E_NoProgram.X.toExcC,k⟩
end
end My
namespace My
open PySem L2 PyProof.Rows
noncomputable def clsL(A:Adr):List Addr:=[A.a_NoNumber,A.a_NoName,A.a_NoValue,A.a_NoFrame,A.a_Gone,A.a_Ground,A.a_TooMany,A.a_Full,A.a_NoWay,A.a_NoCell,A.a_NoHands,A.a_Kept,A.a_NoDeed,A.a_TooDeep,A.a_TooWide,A.a_TooLong,A.a_Twice,A.a_NoLabel,A.a_NoChoices,A.a_NoMaking,A.a_NotStraight,A.a_NoText,A.a_NoManner,A.a_NoNames,A.a_NoLine,A.a_NoHouse,A.a_NoProgram]
noncomputable def IsX(K:PySem.W.Frag)(mg:Str→Option Value)(A:Adr)(C:Addr):Prop:=∃x f,XI K mg x C f A.a_RoomError
noncomputable def kB(A:Adr)(C D:Addr):V:= .bl (decide (D=C)||decide (D=A.a_RoomError))
section
variable{P:Program}{w:World}{K:PySem.W.Frag}{mg:Str→Option Value}{base:Heap}{A:Adr}
noncomputable abbrev tIs(K:PySem.W.Frag)(D:Addr):TE:=tCB (fun xs H Q=>∃a C d D b,xs=[V.ref a,d]∧Exc H a C∧ExcK K C∧(∀u,RelV d u→u=D)∧PySem.W.kitOne K (.ref C) D=some b∧Q (.bl b) H) (tCons (tVar 0) (tCons (tC (V.ref D)) tNil))
theorem kind_step {rest:TS} {k:Ends} {a C l D1 D2 D3 f1 f2 f3:Addr} {x1 x2 x3:Str} {xs:List V} {H:Hp} (he:Exc H a C) (hc:IsX K mg A C) (F1:XI K mg x1 D1 f1 A.a_RoomError) (F2:XI K mg x2 D2 f2 A.a_RoomError) (F3:XI K mg x3 D3 f3 A.a_RoomError)
    (hl:H l=some (.lst xs)) (hn:xs.length≤100) (q:∀l' H',H l' =none→Same H H'→H' l' =some (.lst (xs++[kB A C D1,kB A C D2,kB A C D3]))→rest k [some (.ref a),some (.ref l')] H'):
    tSeq (tAsg (tOp rCat (tVar 1) (tLst (tCons (tIs K D1) (tCons (tIs K D2) (tCons (tIs K D3) tNil))))) (gName 1)) rest k [some (.ref a),some (.ref l)] H:=by
  obtain⟨y,g,E⟩:=id hc;refine⟨_,rfl,_,rfl,a,C,_,.ref D1,_,rfl,he,E.g,fun u h=>h,E.kit F1,_,rfl,a,C,_,.ref D2,_,rfl,he,E.g,fun u h=>h,E.kit F2,_,rfl,a,C,_,.ref D3,_,rfl,he,E.g,fun u h=>h,E.kit F3,(show 3≤sizeLine by decide),fun p hp=> ?_⟩;refine⟨l,p,xs,_,rfl,rfl,(by rw[upd_ne (ne_of_none hl hp)];exact hl),upd_same,(by show xs.length+3≤sizeLine;rw[sizeLine_eq];omega),fun p' hp' => ?_⟩;have hpp:p'≠p:=fun z=>by rw[z,upd_same] at hp';cases hp'
  rw[upd_ne hpp] at hp';exact q p' _ hp' (fun c o e=>by rw[upd_ne (ne_of_none e hp'),upd_ne (ne_of_none e hp)];exact e) upd_same
noncomputable def spKinds(K:PySem.W.Frag)(mg:Str→Option Value)(A:Adr):Sp:=fun vs H Q _=>∃a C,vs=[.ref a]∧Exc H a C∧IsX K mg A C∧∀l H',H l=none→Same H H'→H' l=some (.lst ((clsL A).map (kB A C)))→Q (.ref l) H'
theorem ok__law_kinds (T:Txt K mg A):FnOk P w K mg base CX0 1 A.a__law_kinds A.d__law_kinds ["_law_e"] (spKinds K mg A):=by
  refine T.I__law_kinds.F.okI sc__law_kinds ?_
  rintro cdv Ar outer s H vs Q E hr ⟨a,C,rfl,he,hc,q⟩
  refine⟨_,(pss_cons (pst 1 sc__law_kinds.nd (pe_lst pa_nil)) (pss_cons (pst 1 sc__law_kinds.nd (pe_op op_cat (pv 1) (pe_lst (pa_cons (pcB (call_isinstE (K:=K) rfl) T.z_isinstance Boot.«isinstance» (pa_cons (pv 0) (pa1 (pe_glob (v:= .ref A.a_NoNumber) rfl T.E_NoNumber.m rfl)))) (pa_cons (pcB (call_isinstE (K:=K) rfl) T.z_isinstance Boot.«isinstance» (pa_cons (pv 0) (pa1 (pe_glob (v:= .ref A.a_NoName) rfl T.E_NoName.m rfl)))) (pa1 (pcB (call_isinstE (K:=K) rfl) T.z_isinstance Boot.«isinstance» (pa_cons (pv 0) (pa1 (pe_glob (v:= .ref A.a_NoValue) rfl T.E_NoValue.m rfl)))))))))) (pss_cons (pst 1 sc__law_kinds.nd (pe_op op_cat (pv 1) (pe_lst (pa_cons (pcB (call_isinstE (K:=K) rfl) T.z_isinstance Boot.«isinstance» (pa_cons (pv 0) (pa1 (pe_glob (v:= .ref A.a_NoFrame) rfl T.E_NoFrame.m rfl)))) (pa_cons (pcB (call_isinstE (K:=K) rfl) T.z_isinstance Boot.«isinstance» (pa_cons (pv 0) (pa1 (pe_glob (v:= .ref A.a_Gone) rfl T.E_Gone.m rfl)))) (pa1 (pcB (call_isinstE (K:=K) rfl) T.z_isinstance Boot.«isinstance» (pa_cons (pv 0) (pa1 (pe_glob (v:= .ref A.a_Ground) rfl T.E_Ground.m rfl)))))))))) (pss_cons (pst 1 sc__law_kinds.nd (pe_op op_cat (pv 1) (pe_lst (pa_cons (pcB (call_isinstE (K:=K) rfl) T.z_isinstance Boot.«isinstance» (pa_cons (pv 0) (pa1 (pe_glob (v:= .ref A.a_TooMany) rfl T.E_TooMany.m rfl)))) (pa_cons (pcB (call_isinstE (K:=K) rfl) T.z_isinstance Boot.«isinstance» (pa_cons (pv 0) (pa1 (pe_glob (v:= .ref A.a_Full) rfl T.E_Full.m rfl)))) (pa1 (pcB (call_isinstE (K:=K) rfl) T.z_isinstance Boot.«isinstance» (pa_cons (pv 0) (pa1 (pe_glob (v:= .ref A.a_NoWay) rfl T.E_NoWay.m rfl)))))))))) (pss_cons (pst 1 sc__law_kinds.nd (pe_op op_cat (pv 1) (pe_lst (pa_cons (pcB (call_isinstE (K:=K) rfl) T.z_isinstance Boot.«isinstance» (pa_cons (pv 0) (pa1 (pe_glob (v:= .ref A.a_NoCell) rfl T.E_NoCell.m rfl)))) (pa_cons (pcB (call_isinstE (K:=K) rfl) T.z_isinstance Boot.«isinstance» (pa_cons (pv 0) (pa1 (pe_glob (v:= .ref A.a_NoHands) rfl T.E_NoHands.m rfl)))) (pa1 (pcB (call_isinstE (K:=K) rfl) T.z_isinstance Boot.«isinstance» (pa_cons (pv 0) (pa1 (pe_glob (v:= .ref A.a_Kept) rfl T.E_Kept.m rfl)))))))))) (pss_cons (pst 1 sc__law_kinds.nd (pe_op op_cat (pv 1) (pe_lst (pa_cons (pcB (call_isinstE (K:=K) rfl) T.z_isinstance Boot.«isinstance» (pa_cons (pv 0) (pa1 (pe_glob (v:= .ref A.a_NoDeed) rfl T.E_NoDeed.m rfl)))) (pa_cons (pcB (call_isinstE (K:=K) rfl) T.z_isinstance Boot.«isinstance» (pa_cons (pv 0) (pa1 (pe_glob (v:= .ref A.a_TooDeep) rfl T.E_TooDeep.m rfl)))) (pa1 (pcB (call_isinstE (K:=K) rfl) T.z_isinstance Boot.«isinstance» (pa_cons (pv 0) (pa1 (pe_glob (v:= .ref A.a_TooWide) rfl T.E_TooWide.m rfl)))))))))) (pss_cons (pst 1 sc__law_kinds.nd (pe_op op_cat (pv 1) (pe_lst (pa_cons (pcB (call_isinstE (K:=K) rfl) T.z_isinstance Boot.«isinstance» (pa_cons (pv 0) (pa1 (pe_glob (v:= .ref A.a_TooLong) rfl T.E_TooLong.m rfl)))) (pa_cons (pcB (call_isinstE (K:=K) rfl) T.z_isinstance Boot.«isinstance» (pa_cons (pv 0) (pa1 (pe_glob (v:= .ref A.a_Twice) rfl T.E_Twice.m rfl)))) (pa1 (pcB (call_isinstE (K:=K) rfl) T.z_isinstance Boot.«isinstance» (pa_cons (pv 0) (pa1 (pe_glob (v:= .ref A.a_NoLabel) rfl T.E_NoLabel.m rfl)))))))))) (pss_cons (pst 1 sc__law_kinds.nd (pe_op op_cat (pv 1) (pe_lst (pa_cons (pcB (call_isinstE (K:=K) rfl) T.z_isinstance Boot.«isinstance» (pa_cons (pv 0) (pa1 (pe_glob (v:= .ref A.a_NoChoices) rfl T.E_NoChoices.m rfl)))) (pa_cons (pcB (call_isinstE (K:=K) rfl) T.z_isinstance Boot.«isinstance» (pa_cons (pv 0) (pa1 (pe_glob (v:= .ref A.a_NoMaking) rfl T.E_NoMaking.m rfl)))) (pa1 (pcB (call_isinstE (K:=K) rfl) T.z_isinstance Boot.«isinstance» (pa_cons (pv 0) (pa1 (pe_glob (v:= .ref A.a_NotStraight) rfl T.E_NotStraight.m rfl)))))))))) (pss_cons (pst 1 sc__law_kinds.nd (pe_op op_cat (pv 1) (pe_lst (pa_cons (pcB (call_isinstE (K:=K) rfl) T.z_isinstance Boot.«isinstance» (pa_cons (pv 0) (pa1 (pe_glob (v:= .ref A.a_NoText) rfl T.E_NoText.m rfl)))) (pa_cons (pcB (call_isinstE (K:=K) rfl) T.z_isinstance Boot.«isinstance» (pa_cons (pv 0) (pa1 (pe_glob (v:= .ref A.a_NoManner) rfl T.E_NoManner.m rfl)))) (pa1 (pcB (call_isinstE (K:=K) rfl) T.z_isinstance Boot.«isinstance» (pa_cons (pv 0) (pa1 (pe_glob (v:= .ref A.a_NoNames) rfl T.E_NoNames.m rfl)))))))))) (pss_cons (pst 1 sc__law_kinds.nd (pe_op op_cat (pv 1) (pe_lst (pa_cons (pcB (call_isinstE (K:=K) rfl) T.z_isinstance Boot.«isinstance» (pa_cons (pv 0) (pa1 (pe_glob (v:= .ref A.a_NoLine) rfl T.E_NoLine.m rfl)))) (pa_cons (pcB (call_isinstE (K:=K) rfl) T.z_isinstance Boot.«isinstance» (pa_cons (pv 0) (pa1 (pe_glob (v:= .ref A.a_NoHouse) rfl T.E_NoHouse.m rfl)))) (pa1 (pcB (call_isinstE (K:=K) rfl) T.z_isinstance Boot.«isinstance» (pa_cons (pv 0) (pa1 (pe_glob (v:= .ref A.a_NoProgram) rfl T.E_NoProgram.m rfl)))))))))) (pss_one (ps_ret (pv 1))))))))))))),?_⟩;refine⟨(show 0≤sizeLine by decide),fun p hp=> ?_⟩;have s0:Same H (upd H p (.lst [])):=Same.upd hp;refine kind_step (he.same s0) hc T.E_NoNumber T.E_NoName T.E_NoValue upd_same (by decide) fun l1 H1 n1 s1 e1=> ?_;have s1:=s0.trans s1;refine kind_step (he.same s1) hc T.E_NoFrame T.E_Gone T.E_Ground e1 (show 3≤100 by decide) fun l2 H2 n2 s2 e2=> ?_;have s2:=s1.trans s2;refine kind_step (he.same s2) hc T.E_TooMany T.E_Full T.E_NoWay e2 (show 6≤100 by decide) fun l3 H3 n3 s3 e3=> ?_;have s3:=s2.trans s3;refine kind_step (he.same s3) hc T.E_NoCell T.E_NoHands T.E_Kept e3 (show 9≤100 by decide) fun l4 H4 n4 s4 e4=> ?_;have s4:=s3.trans s4;refine kind_step (he.same s4) hc T.E_NoDeed T.E_TooDeep T.E_TooWide e4 (show 12≤100 by decide) fun l5 H5 n5 s5 e5=> ?_;have s5:=s4.trans s5;refine kind_step (he.same s5) hc T.E_TooLong T.E_Twice T.E_NoLabel e5 (show 15≤100 by decide) fun l6 H6 n6 s6 e6=> ?_;have s6:=s5.trans s6;refine kind_step (he.same s6) hc T.E_NoChoices T.E_NoMaking T.E_NotStraight e6 (show 18≤100 by decide) fun l7 H7 n7 s7 e7=> ?_;have s7:=s6.trans s7;refine kind_step (he.same s7) hc T.E_NoText T.E_NoManner T.E_NoNames e7 (show 21≤100 by decide) fun l8 H8 n8 s8 e8=> ?_;have s8:=s7.trans s8;refine kind_step (he.same s8) hc T.E_NoLine T.E_NoHouse T.E_NoProgram e8 (show 24≤100 by decide) fun l9 H9 n9 s9 e9=> ?_
  have hn:H l9=none:=by
    cases h:H l9 with
    |none=>rfl
    |some o=>rw[s8 _ _ h] at n9;cases n9
  exact⟨_,rfl,q l9 H9 hn (s8.trans s9) e9⟩
end
end My
namespace My
open PySem L2 PyProof.Rows
section
variable{P:Program}{w:World}{K:PySem.W.Frag}{mg:Str→Option Value}{base:Heap}{A:Adr}
noncomputable def MadeAt(K:PySem.W.Frag)(H:Hp)(e C:Addr)(f:Str)(v:V):Prop:=∃dx fs,H e=some (.ext (excP e C (some dx) true))∧H dx=some (.xd fs)∧fs.lookup f=some v∧ExcG K C∧NoAttr K C f
theorem MadeAt.exc {H:Hp} {e C:Addr} {f:Str} {v:V} (m:MadeAt K H e C f v):Exc H e C:=by
  obtain⟨dx,fs,he,hd,_⟩:=m;exact⟨_,some dx,true,he,fun h p=>p,fun dx' q=>by cases q;exact⟨fs,hd⟩⟩
theorem MadeAt.same {H H' :Hp} {e C:Addr} {f:Str} {v:V} (s:Same H H') (m:MadeAt K H e C f v):MadeAt K H' e C f v:=by
  obtain⟨dx,fs,he,hd,r⟩:=m;exact⟨dx,fs,s _ _ he,s _ _ hd,r⟩
theorem fld_ok {σ:L2.St} {Q:VK} {e C:Addr} {f:Str} {v:V} {H:Hp} (m:MadeAt K H e C f v) (hσ:σ[0]? =some (some (.ref e))) (q:Q v H):tFldX K (tVar 0) f σ H Q:=by
  obtain⟨dx,fs,he,hd,hl,hg,hn⟩:=m;exact⟨_,hσ,e,C,dx,true,fs,v,rfl,he,hd,hg,hn,hl,q⟩
theorem fld_step {rest:TS} {k:Ends} {e:Addr} {f g:Str} {H:Hp} (h:f=g→tFldX K (tVar 0) g [some (.ref e),some (.str f)] H k.rt) (h' :f≠g→rest k [some (.ref e),some (.str f)] H):
    tSeq (tIfS (tTest (tOp rEq (tVar 1) (tC (V.str g)))) (tRet (tFldX K (tVar 0) g)) tNext) rest k [some (.ref e),some (.str f)] H:=by
  refine⟨_,rfl,rfl,_,rfl,?_⟩;by_cases e:f=g
  · rw[decide_eq_true (by rw[e])]
    exact iteT (h e)
  · rw[decide_eq_false (fun z=>e (V.str.inj z))]
    exact iteF (h' e)
noncomputable def flds:List Str:=["found","many","ways","depth","label","number","line","by","need","spare"]
noncomputable def spField(K:PySem.W.Frag):Sp:=fun vs H Q _=>∃e C f v,vs=[.ref e,.str f]∧f∈flds∧MadeAt K H e C f v∧Q v H
theorem ok__law_field (T:Txt K mg A):FnOk P w K mg base CX0 1 A.a__law_field A.d__law_field ["_law_e","_law_name"] (spField K):=by
  refine T.I__law_field.F.okI sc__law_field ?_
  rintro cdv Ar outer s H vs Q E hr ⟨e,C,f,v,rfl,hf,m,q⟩
  refine⟨_,(pss_cons (ps_if (ptr op_eq (pv 1) pe_str) (pss_one (ps_ret (pe_fldXK (K:=K) rfl (pv 0) rfl))) pss_nil) (pss_cons (ps_if (ptr op_eq (pv 1) pe_str) (pss_one (ps_ret (pe_fldXK (K:=K) rfl (pv 0) rfl))) pss_nil) (pss_cons (ps_if (ptr op_eq (pv 1) pe_str) (pss_one (ps_ret (pe_fldXK (K:=K) rfl (pv 0) rfl))) pss_nil) (pss_cons (ps_if (ptr op_eq (pv 1) pe_str) (pss_one (ps_ret (pe_fldXK (K:=K) rfl (pv 0) rfl))) pss_nil) (pss_cons (ps_if (ptr op_eq (pv 1) pe_str) (pss_one (ps_ret (pe_fldXK (K:=K) rfl (pv 0) rfl))) pss_nil) (pss_cons (ps_if (ptr op_eq (pv 1) pe_str) (pss_one (ps_ret (pe_fldXK (K:=K) rfl (pv 0) rfl))) pss_nil) (pss_cons (ps_if (ptr op_eq (pv 1) pe_str) (pss_one (ps_ret (pe_fldXK (K:=K) rfl (pv 0) rfl))) pss_nil) (pss_cons (ps_if (ptr op_eq (pv 1) pe_str) (pss_one (ps_ret (pe_fldXK (K:=K) rfl (pv 0) rfl))) pss_nil) (pss_cons (ps_if (ptr op_eq (pv 1) pe_str) (pss_one (ps_ret (pe_fldXK (K:=K) rfl (pv 0) rfl))) pss_nil) (pss_one (ps_ret (pe_fldXK (K:=K) rfl (pv 0) rfl)))))))))))),?_⟩;refine fld_step (fun z=>by subst z;exact fld_ok m rfl q) fun h1=> ?_;refine fld_step (fun z=>by subst z;exact fld_ok m rfl q) fun h2=> ?_;refine fld_step (fun z=>by subst z;exact fld_ok m rfl q) fun h3=> ?_;refine fld_step (fun z=>by subst z;exact fld_ok m rfl q) fun h4=> ?_;refine fld_step (fun z=>by subst z;exact fld_ok m rfl q) fun h5=> ?_;refine fld_step (fun z=>by subst z;exact fld_ok m rfl q) fun h6=> ?_;refine fld_step (fun z=>by subst z;exact fld_ok m rfl q) fun h7=> ?_;refine fld_step (fun z=>by subst z;exact fld_ok m rfl q) fun h8=> ?_;refine fld_step (fun z=>by subst z;exact fld_ok m rfl q) fun h9=> ?_
  have e:f="spare":=by
    simp only[flds,List.mem_cons,List.not_mem_nil,or_false,h1,h2,h3,h4,h5,h6,h7,h8,h9,false_or] at hf;exact hf
  subst e;exact fld_ok m rfl q
noncomputable def bAt(j:Option Nat):List Bool:=(List.range 27).map fun k=>decide (some k=j)
theorem nd_of(T:Txt K mg A):(A.a_RoomError::clsL A).Nodup:=T.nd_exc
theorem map_range {α β:Type} (f:α→β) (d:α):∀l:List α,l.map f=(List.range l.length).map fun k=>f (l.getD k d):=fun l=>by
  refine List.ext_getElem (by simp) fun i h1 h2=> ?_;have h1:i<l.length:=by simpa using h1
  simp[List.getD_eq_getElem?_getD,h1]
theorem kinds_at (T:Txt K mg A) {C:Addr} {j:Nat} (hj:(clsL A)[j]? =some C):(clsL A).map (kB A C)=(bAt (some j)).map V.bl:=by
  have nd:=nd_of T;obtain⟨hR,nd⟩:=List.nodup_cons.mp nd;rw[map_range _ 0];unfold bAt;rw[List.map_map];refine List.map_congr_left fun k hk=> ?_;have hk:k<(clsL A).length:=List.mem_range.mp hk;have ek:(clsL A)[k]? =some (clsL A)[k]:=by simp[hk]
  rw[List.getD_eq_getElem?_getD,ek,Option.getD_some];show V.bl (decide ((clsL A)[k]=C)||decide ((clsL A)[k]=A.a_RoomError))=V.bl (decide (some k=some j));rw[decide_eq_false (fun z:(clsL A)[k]=A.a_RoomError=>hR (z▸List.getElem_mem hk)),Bool.or_false]
  congr 1
  by_cases h:k=j
  · subst h
    rw[ek] at hj;rw[decide_eq_true (Option.some.inj hj),decide_eq_true rfl]
  · rw[decide_eq_false (fun z:some k=some j=>h (Option.some.inj z)),decide_eq_false fun z=> ?_]
    obtain⟨hj1,hj2⟩:=List.getElem?_eq_some_iff.mp hj;exact h ((List.getElem_inj nd).mp (z.trans hj2.symm))
theorem kinds_no (T:Txt K mg A):(clsL A).map (kB A A.a_RoomError)=(bAt none).map V.bl:=by
  obtain⟨hR,nd⟩:=List.nodup_cons.mp (nd_of T);rw[map_range _ 0];unfold bAt;rw[List.map_map];refine List.map_congr_left fun k hk=> ?_;have hk:k<(clsL A).length:=List.mem_range.mp hk;have ek:(clsL A)[k]? =some (clsL A)[k]:=by simp[hk]
  rw[List.getD_eq_getElem?_getD,ek,Option.getD_some];show V.bl (decide ((clsL A)[k]=A.a_RoomError)||decide ((clsL A)[k]=A.a_RoomError))=V.bl (decide (some k=none));rw[decide_eq_false (fun z:(clsL A)[k]=A.a_RoomError=>hR (z▸List.getElem_mem hk))];rfl
theorem flat_bls(bs:List Bool):(bs.map V.bl).all flatV=true:=by simp[flatV]
theorem eqVs_bls:∀bs:List Bool,eqVs (bs.map V.bl) (bs.map V.bl)=true
  |[]=>rfl
  | b::r=>by
    show(eqV (.bl b) (.bl b)&&eqVs (r.map V.bl) (r.map V.bl))=true;rw[eqVs_bls r];cases b<;>rfl
theorem bAt_facts:∀j,j<27→(bAt (some j))[j]? =some true∧∀i,i<j→(bAt (some j))[i]? =some false:=by decide+kernel
theorem bAt_count:∀bs:List Bool,PySem.Spec.countIn (.bool true) (bs.map PyData.bool)=(bs.countP (· ==true):Nat)
  |[]=>rfl
  | b ::r=>by
    rw[List.map_cons,List.countP_cons];have ih:=bAt_count r;cases b
    · simp only[PySem.Spec.countIn,ih]
      simp[PySem.Spec.same]
    · simp only[PySem.Spec.countIn,ih]
      simp[PySem.Spec.same];omega
theorem bAt_one:∀j,j<27→(bAt (some j)).countP (· ==true)=1:=by decide+kernel
theorem bAt_none:(bAt none).countP (· ==true)=0:=by decide+kernel
noncomputable def spApart(K:PySem.W.Frag)(mg:Str→Option Value)(A:Adr):Sp:=fun vs H Q _=>∃(a C:Addr) (j:Nat),vs=[.ref a,.int j]∧(clsL A)[j]? =some C∧Exc H a C∧IsX K mg A C∧∀H',Same H H'→Q (.bl true) H'
theorem ok__law_apart (T:Txt K mg A):FnOk P w K mg base CX0 3 A.a__law_apart A.d__law_apart ["_law_e","_law_at"] (spApart K mg A):=by
  refine T.I__law_apart.F.okI sc__law_apart ?_
  rintro cdv Ar outer s H vs Q E hr ⟨a,C,j,rfl,hj,he,hc,q⟩
  have hu:=hu_of hr;have hu0:_<cLine:=Nat.lt_of_le_of_lt (Nat.le_add_right _ _) hu;obtain⟨y,g,EC⟩:=id hc;refine⟨_,(pss_cons (ps_if (PW.pt (pw_or (pt_not (pt_val (pcB (call_isinstE (K:=K) rfl) T.z_isinstance Boot.«isinstance» (pa_cons (pv 0) (pa1 (pe_glob (v:= .ref A.a_RoomError) rfl T.E_RoomError.m rfl)))))) (pw_or1 (pt_not (pt_val (pcB (call_isinstE (K:=K) rfl) T.z_isinstance Boot.«isinstance» (pa_cons (pv 0) (pa1 (pe_bltn (v:= .ty "ValueError") rfl T.z_ValueError Boot.«ValueError» rfl))))))))) (pss_one (ps_ret pe_bl)) pss_nil) (pss_one (ps_ret (pcr (op_eq_list hu0) (pcf (ok__law_kinds T) hr T.I__law_kinds pass0 (pa1 (pv 0))) (pcm ["_law_k","_law_at"] 1 [1] (pi_range1 rfl T.z_range (pa1 pe_int)) (fun _ _ _ _ _=>⟨(pgn 0 (show(["_law_k","_law_at"]:List Str).Nodup by decide+kernel)),pif0,(pcr op_eq (pv 0) (pv 1))⟩)))))),?_⟩;refine⟨_,rfl,a,C,_,.ref A.a_RoomError,_,rfl,he,EC.g,fun u h=>h,EC.kit T.E_RoomError,_,rfl,?_⟩;rw[decide_eq_true (rfl:A.a_RoomError=A.a_RoomError),Bool.or_true];refine iteF ⟨_,rfl,a,C,_,.type "ValueError",_,rfl,he,EC.g,fun u h=>h,EC.kitV,_,rfl,iteF ?_⟩;refine⟨_,rfl,a,C,rfl,he,hc,fun l H1 n1 s1 e1=> ?_⟩;rw[kinds_at T hj] at e1;refine⟨27,rfl,(by decide),(by decide),?_⟩;refine comp_pure (fun _=>true) (fun v=>match v with| .int i=> .bl (decide (i=(j:Int)))|_=> .non) (feeds_range 0 27 H1) (show 27≤sizeLine by decide) ?_ fun p hp=> ?_
  · intro i x H' C1 C0 hx sm c1 c0
    rw[List.getElem?_map] at hx
    cases en:(List.range 27)[i]? with
    |none=>rw[en] at hx;cases hx
    | some n=>
      rw[en] at hx;cases hx;refine⟨(SubS.refl _).own (by decide),iteT (B:=C0 H') ⟨_,rfl,_,rfl,rfl,?_⟩⟩;have c:=c1 rfl;show C1 (V.bl (decide (V.int (0+(n:Int))=V.int j))) H';rw[dec_int];have c:C1 (V.bl (decide ((0+(n:Int))=(j:Int)))) H' :=c;rw[show((0+(n:Int))==(j:Int))=decide ((0+(n:Int))=(j:Int)) from by rw[Bool.eq_iff_iff];simp];exact c
  · have ee:List.map (fun v=>match v with| .int i=>V.bl (decide (i=(j:Int)))|_=> .non) (List.filter (fun _=>true) ((List.range 27).map fun(i:Nat)=>V.int (0+(i:Int))))=(bAt (some j)).map V.bl:=by
      rw[List.filter_eq_self.mpr (fun _ _=>rfl),List.map_map];unfold bAt;rw[List.map_map];refine List.map_congr_left fun k _=> ?_;show V.bl (decide (0+(k:Int)=(j:Int)))=V.bl (decide (some k=some j))
      congr 1
      by_cases h:k=j
      · subst h
        simp
      · rw[decide_eq_false (by omega),decide_eq_false (fun z=>h (Option.some.inj z))]
    rw[ee]
    have hl:upd H1 p (.lst ((bAt (some j)).map V.bl)) l=some (.lst ((bAt (some j)).map V.bl)):=by
      rw[upd_ne (ne_of_none e1 hp)];exact e1
    refine⟨l,p,_,_,rfl,rfl,hl,upd_same,.inr ⟨rfl,flat_bls _,flat_bls _,?_⟩⟩;rw[if_neg (by decide),eqVs_bls];exact q _ (s1.trans (Same.upd hp))
noncomputable def spNumber (K:PySem.W.Frag) (mg:Str→Option Value) (A:Adr):Sp:=fun vs H Q _=>∃(a C:Addr),vs=[.ref a]∧Exc H a C∧IsX K mg A C∧
  ((∃j:Nat,(clsL A)[j]? =some C∧∀H',Same H H'→Q (.int j) H')∨C=A.a_RoomError∧∀H',Same H H'→Q (.int (-1)) H')
theorem ok__law_number (T:Txt K mg A):FnOk P w K mg base CX0 2 A.a__law_number A.d__law_number ["_law_e"] (spNumber K mg A):=by
  refine T.I__law_number.F.okI sc__law_number ?_
  rintro cdv Ar outer s H vs Q E hr ⟨a,C,rfl,he,hc,q⟩
  refine⟨_,(pss_cons (pst 1 sc__law_number.nd (pcf (ok__law_kinds T) hr T.I__law_kinds pass0 (pa1 (pv 0)))) (pss_cons (ps_if (ptr op_ne (pe_bm PySem.F.plainAttrs_list PySem.F.slot_list_count PySem.F.type_list_count mt_count (pv 1) (pa1 pe_bl)) pe_int) (pss_one (ps_ret (pe_un un_neg pe_int))) pss_nil) (pss_one (ps_ret (pe_bm PySem.F.plainAttrs_list PySem.F.slot_list_index PySem.F.type_list_index mt_index (pv 1) (pa1 pe_bl)))))),?_⟩;refine⟨_,rfl,a,C,rfl,he,hc,fun l H1 n1 s1 e1=> ?_⟩;rcases q with⟨j,hj,q⟩|⟨rfl,q⟩
  · rw[kinds_at T hj] at e1
    have hj27:j<27:=(List.getElem?_eq_some_iff.mp hj).1;refine⟨_,rfl,.inl ⟨rfl,_,SqL.of e1⟩,l,bAt (some j),true,rfl,rfl,e1,rfl,_,rfl,?_⟩;rw[bAt_count,bAt_one j hj27];obtain⟨f1,f2⟩:=bAt_facts j hj27;exact iteF ⟨_,rfl,.inl ⟨rfl,_,SqL.of e1⟩,l,bAt (some j),j,rfl,rfl,e1,f1,f2,q _ s1⟩
  · rw[kinds_no T] at e1
    refine⟨_,rfl,.inl ⟨rfl,_,SqL.of e1⟩,l,bAt none,true,rfl,rfl,e1,rfl,_,rfl,?_⟩;rw[bAt_count,bAt_none];exact iteT ⟨1,rfl,q _ s1⟩
end
end My
namespace My
open PySem L2 PyProof.Rows
noncomputable def Lo(x:Str):Prop:=∀c∈x.cps.toList,c<1000
theorem Lo.one {c:Nat} (h:c<1000):Lo ⟨#[c]⟩:=by
  intro d hd;have hd:d∈[c]:=hd;rw[List.mem_singleton.mp hd];exact h
theorem Lo.join {sep:Str} {ts:List Str} (h:Lo sep) (h' :∀t∈ts,Lo t):Lo (Str.join sep ts):=by
  intro c hc;rcases(mem_join sep c ts).mp hc with⟨t,ht,hc⟩|⟨_,hc⟩
  · exact h' t ht c hc
  · exact h c hc
theorem sign_lo {z:Str} {i:Int} (hz:Lo z) (h0:0≤i) (h1:i<z.length):∃c,atI z.cps.toList i=some c∧c<1000:=by
  obtain⟨j,rfl⟩:∃j:Nat,i=j:=⟨i.toNat,by omega⟩
  have hj:j<z.cps.toList.length:=by
    have:z.length=z.cps.toList.length:=by rw[Array.length_toList];rfl
    omega
  exact⟨z.cps.toList[j],atI_nat (by simp[hj]),hz _ (List.getElem_mem hj)⟩
theorem comp_box {lo:Int} {n k m k0:Nat} {b:Addr} {js:List Nat} {g:TG} {te:TE} {σ:L2.St} {H:Hp} {Q:VK} (R:V→Prop) (hlen:n≤sizeLine) (B:BoxAt H b k0)
    (hbody:∀(i:Nat) (H' :Hp) (C1:V→Hp→Prop),i<n→Kept b H H'→BoxAt H' b (k0+i*m)→(∀v H'',R v→BoxAt H'' b (k0+i*m+m)→Kept b H' H''→C1 v H'')→
      g (.int (lo+i)) (cσ k js σ) H' fun σ2 H2=>SubS (cσ k js σ) σ2∧te σ2 H2 C1)
    (hq:∀p H' ys,H p=none→Kept b H H'→BoxAt H' b (k0+n*m)→H' p=some (.lst ys)→ys.length=n→(∀v∈ys,R v)→Q (.ref p) H'):
    CompGoal (Itr lo n) k js g tYes te σ H Q:=by
  intro p hp;have hpb:p≠b:=B.ne hp
  refine⟨fun i m' ys H' =>m' =n - i∧i≤n∧ys.length=i∧H' p=some (.lst ys)∧Kept b H H'∧BoxAt H' b (k0+i*m)∧∀v∈ys,R v,
    ⟨n,rfl,Nat.zero_le _,rfl,upd_same,(Same.upd hp).kept,by rw[Nat.zero_mul];exact B.same (Same.upd hp),fun v e=>by cases e⟩,?_⟩
  rintro i m' ys H' ⟨rfl,hi,hyl,hl,hs,hB,hE⟩
  refine⟨hl,?_⟩;by_cases hlt:i<n
  · refine .inr ⟨hlt,by omega,fun x H'' hy=> ?_⟩
    obtain⟨rfl,rfl⟩:=hy;refine hbody i _ _ hlt hs hB fun v H4 r4 B4 s4=> ?_;have hp4:H4 p=some (.lst ys):=s4 _ _ hpb hl;refine⟨hp4,n - (i+1),by omega,rfl,hlt,by simp[hyl],upd_same,fun c o hc e=> ?_,?_,fun v' e=> ?_⟩
    · rw[upd_ne (ne_of_none e hp)]
      exact s4 _ _ hc (hs _ _ hc e)
    · obtain⟨x,y,z,hb,r⟩:=B4
      refine⟨x,y,z,?_,?_⟩
      · rw[upd_ne (fun z=>hpb z.symm)]
        exact hb
      · rw[show k0+(i+1)*m=k0+i*m+m by rw[Nat.succ_mul];omega]
        exact r
    · rcases List.mem_append.mp e with e|e
      · exact hE _ e
      · rw[List.mem_singleton.mp e]
        exact r4
  · have e:i=n:=by omega
    subst e;exact .inl ⟨Nat.le_refl _,hq p H' ys hp hs hB hl hyl hE⟩
noncomputable def NL(H H' :Hp):Prop:=∀c o,(∀xs,o≠HO.lst xs)→H c=some o→H' c=some o
theorem _root_.L2.Same.nl{H H' :Hp}(s:Same H H'):NL H H' :=fun c o _ e=>s c o e
theorem NL.trans{H H1 H2:Hp}(a:NL H H1)(b:NL H1 H2):NL H H2:=fun c o n e=>b c o n (a c o n e)
theorem NL.upd {H:Hp} {p:Addr} {xs ys:List V} (h:H p=some (.lst xs)):NL H (upd H p (.lst ys)):=fun c o n e=>by
  rw[upd_ne (fun z=>by rw[z,h] at e;cases e;exact n _ rfl)];exact e
theorem _root_.My.Kept.nl {b:Addr} {k:Nat} {H H' :Hp} (B:BoxAt H b k) (h:Kept b H H'):NL H H' :=fun c o n e=>by
  obtain⟨x,y,z,hb,_⟩:=B;exact h c o (fun z=>by rw[z,hb] at e;cases e;exact n _ rfl) e
theorem comp_relN {J:It} {n k:Nat} {js:List Nat} {Y:Nat→V→Hp→Prop} {g:TG} {te:TE} {σ:L2.St} {H:Hp} {Q:VK} (E:Nat→V→Hp→Prop) (F:FeedsG J H n Y) (hlen:n≤sizeLine)
    (hst:∀i v H1 H2,NL H1 H2→E i v H1→E i v H2)
    (hbody:∀(i:Nat) (x:V) (H' :Hp) (C1:V→Hp→Prop),i<n→Same H H'→Y i x H'→(∀v H'',Same H' H''→E i v H''→C1 v H'')→
      g x (cσ k js σ) H' fun σ2 H2=>SubS (cσ k js σ) σ2∧te σ2 H2 C1)
    (hq:∀p H' ys,H p=none→Same H H'→H' p=some (.lst ys)→ys.length=n→(∀i v,ys[i]? =some v→E i v H')→Q (.ref p) H'):
    CompGoal J k js g tYes te σ H Q:=by
  intro p hp
  refine⟨fun i m ys H' =>m=n - i∧i≤n∧ys.length=i∧H' p=some (.lst ys)∧Same H H'∧∀j v,ys[j]? =some v→E j v H',
    ⟨n,rfl,Nat.zero_le _,rfl,upd_same,Same.upd hp,fun j v e=>by simp at e⟩,?_⟩
  rintro i m ys H' ⟨rfl,hi,hyl,hl,hs,hE⟩
  refine⟨hl,?_⟩;by_cases hlt:i<n
  · refine .inr ⟨F.go i _ hs hlt,by omega,fun x H'' hy=> ?_⟩
    obtain⟨s1,y1⟩:=F.yld i _ x H'' hs hlt hy;have hb:=hbody i x H'' (fun v H4=>H4 p=some (.lst ys)∧∃m',m' <n - i∧(m' =n - (i+1)∧i+1≤n∧(ys++[v]).length=i+1∧upd H4 p (.lst (ys++[v])) p=some (.lst (ys++[v]))∧Same H (upd H4 p (.lst (ys++[v])))∧∀j v',(ys++[v])[j]? =some v'→E j v' (upd H4 p (.lst (ys++[v]))))) hlt (hs.trans s1) y1 ?_
    · exact hb
    · intro v H4 s4 e4
      have hp4:H4 p=some (.lst ys):=s4 _ _ (s1 _ _ hl);have tk:NL H4 (upd H4 p (.lst (ys++[v]))):=NL.upd hp4;refine⟨hp4,n - (i+1),by omega,rfl,hlt,by simp[hyl],upd_same,fun c o e=> ?_,fun j v' e=> ?_⟩
      · rw[upd_ne (ne_of_none e hp)]
        exact s4 _ _ (s1 _ _ (hs _ _ e))
      · by_cases hj:j<ys.length
        · rw[List.getElem?_append_left hj] at e
          exact hst _ _ _ _ tk (hst _ _ _ _ (s1.trans s4).nl (hE j v' e))
        · rw[List.getElem?_append_right (by omega)] at e
          have hj2:j - ys.length=0:=by
            have:=(List.getElem?_eq_some_iff.mp e).1;simp at this;omega
          rw[hj2] at e;cases e;have:j=i:=by omega
          subst this;exact hst _ _ _ _ tk e4
  · have e:i=n:=by omega
    subst e;exact .inl ⟨F.stop _ _ hs (Nat.le_refl _),hq p H' ys hp hs hl hyl hE⟩
section
variable{P:Program}{w:World}{K:PySem.W.Frag}{mg:Str→Option Value}{base:Heap}{A:Adr}
noncomputable def spDraw(j:Nat)(post:Addr→V→Hp→Prop):Sp:=fun vs H Q _=>∃b k,vs=[.ref b]∧BoxAt H b k∧k+j≤2000∧∀v H',BoxAt H' b (k+j)→Kept b H H'→post b v H'→Q v H'
noncomputable def isTxt(n:Nat):Addr→V→Hp→Prop:=fun _ v _=>∃z:Str,v= .str z∧z.length≤n∧Lo z
theorem ok__law_text (T:Txt K mg A):FnOk P w K mg base CX0 2 A.a__law_text A.d__law_text ["_law_box_here"] (spDraw 13 (isTxt 11)):=by
  refine T.I__law_text.F.okI sc__law_text ?_
  rintro cdv Ar outer s H vs Q E hr ⟨b,k,rfl,B,hk,q⟩
  have hL:sizeLine=16777216:=rfl;refine⟨_,(pss_cons (pst 1 sc__law_text.nd pe_str) (pss_one (ps_ret (pe_bm PySem.F.plainAttrs_str PySem.F.slot_str_join PySem.F.type_str_join mt_join pe_str (pa1 (pcm ["_law_k","_law_signs","_law_box_here"] 1 [1,0] (pi_range1 rfl T.z_range (pa1 (pcf (ok__law_take T) hr T.I__law_take pass0 (pa_cons (pv 0) (pa1 pe_int))))) (fun _ _ _ _ _=>⟨(pgn 0 (show(["_law_k","_law_signs","_law_box_here"]:List Str).Nodup by decide+kernel)),pif0,(pix ix_str (pv 1) (pcf (ok__law_take T) hr T.I__law_take pass0 (pa_cons (pv 2) (pa1 (pcB call_len_str T.z_len Boot.«len» (pa1 (pv 1)))))))⟩))))))),?_⟩;refine⟨rfl,_,rfl,b,12,k,rfl,B,by omega,by decide,by decide,fun n H1 n0 n1 B1 O1=> ?_⟩;refine⟨n,rfl,by omega,by omega,?_⟩;refine comp_box (b:=b) (k0:=k+1) (m:=1) (fun v=>∃c,v= .str ⟨#[c]⟩∧c<1000) (by omega) B1 ?_ ?_
  · intro i H5 C1 hi K5 B5 c1
    refine⟨(SubS.refl _).own (by decide),_,rfl,_,rfl,_,rfl,_,rfl,by decide+kernel,b,_,_,rfl,B5,by omega,by decide+kernel,by decide+kernel,fun r H6 h0 h1 B6 O6=> ?_⟩;obtain⟨c,hc,hcl⟩:=sign_lo (z:=Str.ofString "aZ09 .,:;-+*/()[]{}<>_!?'\"\n") (by unfold Lo;decide+kernel) h0 h1;exact⟨_,r,c,rfl,rfl,by decide+kernel,hc,c1 _ _ ⟨c,rfl,hcl⟩ B6 O6.kept⟩
  · intro p7 H7 ys _ K7 B7 h7 hl hR
    obtain⟨xs,rfl,hx⟩:∃xs:List Str,ys=xs.map V.str∧∀x∈xs,x.length=1∧Lo x:=by
      clear h7 hl
      induction ys with
      |nil=>exact⟨[],rfl,fun x h=>by cases h⟩
      | cons y ys ih=>
        obtain⟨xs,rfl,hx⟩:=ih fun v hv=>hR v (List.mem_cons_of_mem _ hv);obtain⟨c,rfl,hcl⟩:=hR y (List.mem_cons_self ..);exact⟨⟨#[c]⟩::xs,rfl,fun x h=>by rcases List.mem_cons.mp h with rfl|h;exact⟨rfl,Lo.one hcl⟩;exact hx x h⟩
    rw[List.length_map] at hl
    have hj:Builtin.Str.tooLong (xs.toArray.foldl (fun a p=>a+p.length+(Str.ofString "").length) 0)=false:=PySem.StrLaws.joinFits (B:=1) (fun y hy=>Nat.le_of_eq (hx y hy).1) (by
      have:(Str.ofString "").length=0:=by decide+kernel
      rw[this];omega)
    have hlen:(Txt.join (Str.ofString "") xs).length≤11:=by
      have h1:=PySem.StrLaws.join_length_le (Str.ofString "") xs;have h2:=PySem.StrLaws.sumLen_le xs (B:=1) (fun y hy=>Nat.le_of_eq (hx y hy).1);have h3:(Str.ofString "").length=0:=by decide+kernel
      rw[h3] at h1;show(Builtin.Str.glued _ xs).length≤11;rw[PySem.StrLaws.glued_eq_join];omega
    have hlo:Lo (Txt.join (Str.ofString "") xs):=by
      show Lo (Builtin.Str.glued _ xs);rw[PySem.StrLaws.glued_eq_join];exact Lo.join (by unfold Lo;decide+kernel) fun t ht=>(hx t ht).2
    refine⟨_,p7,xs,rfl,rfl,h7,by unfold JoinOk;rw[hj];rfl,?_⟩;exact q _ _ (B7.mono (by omega)) (O1.kept.trans K7) ⟨_,rfl,hlen,hlo⟩
noncomputable def spRT(K:PySem.W.Frag):Sp:=fun vs H Q _=>∃a C dd n x,vs=[.ref a,x]∧H a=some (.ext (excP a C dd n))∧ExcC K C∧∀T,H T=none→T≠a→Q .non (upd (upd H a (.ext (excA a C dd T))) T (.tup [x]))
theorem ok_RoomErrorT (T:Txt K mg A):FnOk P w K mg base CX0 1 A.a_RoomError___init__ A.d_RoomError___init__ ["self","text"] (spRT K):=by
  refine T.I_RoomError___init__.F.okI sc_RoomError___init__ ?_
  rintro cdv Ar outer s H vs Q E hr ⟨a,C,dd,n,x,rfl,ea,hc,k⟩
  refine⟨_,(pss_one (ps_expr (pe_vinitT rfl T.z_ValueError (pa_cons (pv 0) (pa1 (pv 1)))))),?_⟩;exact⟨_,rfl,_,rfl,a,C,dd,n,x,rfl,ea,hc,k⟩
noncomputable def PlainAt(A:Adr)(H:Hp)(v:V)(x:Str):Prop:=∃a T,v= .ref a∧H a=some (.ext (excA a A.a_RoomError none T))∧H T=some (.tup [.str x])
theorem PlainAt.nl {H H' :Hp} {v:V} {x:Str} (p:PlainAt A H v x) (s:NL H H'):PlainAt A H' v x:=by
  obtain⟨a,T,e,h1,h2⟩:=p;exact⟨a,T,e,s _ _ (fun _ z=>nomatch z) h1,s _ _ (fun _ z=>nomatch z) h2⟩
theorem ne_no(x:V):(!decide (x=x))=false:=by rw[decide_eq_true rfl];rfl
theorem same3 {H:Hp} {a t:Addr} {o1 o2 o3:HO} (ha:H a=none) (ht:upd H a o1 t=none) (ne:t≠a):Same H (upd (upd (upd H a o1) a o2) t o3):=fun c o e=>by
  rw[upd_ne ne] at ht;rw[upd_ne (ne_of_none e ht),upd_ne (ne_of_none e ha),upd_ne (ne_of_none e ha)];exact e
theorem ok__law_plain_right (T:Txt K mg A):FnOk P w K mg base CX0 3 A.a__law_plain_right A.d__law_plain_right ["_law_box_here"] (spDraw 26 fun _ v _=>v= .bl true):=by
  refine T.I__law_plain_right.F.okI sc__law_plain_right ?_
  rintro cdv Ar outer s H vs Q E hr ⟨b,k,rfl,B,hk,q⟩
  have hu:=hu_of hr;have hu1:_+100<cLine:=Nat.lt_of_le_of_lt (Nat.add_le_add_left (by decide:100≤16*2+200) _) (by have:=hr.un;omega);refine⟨_,(pss_cons (pst 1 sc__law_plain_right.nd (pe_lst (pa_cons (pcf (ok__law_text T) hr T.I__law_text pass0 (pa1 (pv 0))) (pa_cons (pcf (ok__law_text T) hr T.I__law_text pass0 (pa1 (pv 0))) (pa1 pe_str))))) (pss_cons (pstC 2 sc__law_plain_right.nd ["_law_text_here"] 1 [] (pi_list (pv 1)) (fun _ _ _ _ _=>⟨(pgn 0 (show(["_law_text_here"]:List Str).Nodup by decide+kernel)),pif0,(pxm T.E_RoomError T.I_RoomError___init__ (ok_RoomErrorT T) hr (pa1 (pv 0)))⟩)) (pss_cons (pfr (pi_zip rfl T.z_zip (pa_cons (pv 2) (pa1 (pv 1)))) (pg_tup rfl (pgs_cons (pgn 3 sc__law_plain_right.nd) (pgs_cons (pgn 4 sc__law_plain_right.nd) pgs_nil))) (pss_one (ps_if (PW.pt (pw_or (pt_not (pt_val (pcB (call_isinstE (K:=K) rfl) T.z_isinstance Boot.«isinstance» (pa_cons (pv 3) (pa1 (pe_bltn (v:= .ty "ValueError") rfl T.z_ValueError Boot.«ValueError» rfl)))))) (pw_or (ptr op_ne (pcf (ok__law_number T) hr T.I__law_number pass0 (pa1 (pv 3))) (pe_un un_neg pe_int)) (pw_or1 (ptr op_ne (pcT (call_strX (K:=K) rfl hu1) T.z_str Boot.«str» (pa1 (pv 3))) (pv 4)))))) (pss_one (ps_ret pe_bl)) pss_nil))) (pss_one (ps_ret pe_bl))))),?_⟩;refine⟨_,rfl,b,k,rfl,B,by omega,fun v1 H1 B1 K1 z1=> ?_⟩;obtain⟨x1,rfl,_,_⟩:=z1;refine⟨_,rfl,b,_,rfl,B1,by omega,fun v2 H2 B2 K2 z2=> ?_⟩;obtain⟨x2,rfl,_,_⟩:=z2;refine⟨(show 3≤sizeLine by decide),fun p hp=> ?_⟩;have s3:=Same.upd (o:= .lst [.str x1,.str x2,.str (Str.ofString "any")]) hp;have e3:upd H2 p (.lst [.str x1,.str x2,.str (Str.ofString "any")]) p=some (.lst ([x1,x2,Str.ofString "any"].map V.str)):=upd_same;generalize upd H2 p (.lst [.str x1,.str x2,.str (Str.ofString "any")])=H3 at s3 e3;have hxl:[x1,x2,Str.ofString "any"].length=3:=rfl;generalize [x1,x2,Str.ofString "any"]=xs at e3 hxl;have hlen:xs.length=3:=hxl;refine⟨_,rfl,p,rfl,⟨_,SqL.of e3⟩,?_⟩;refine comp_relN (fun i v H' =>∃x,xs[i]? =some x∧PlainAt A H' v x) (feeds_list (SqL.of e3)).g (by rw[List.length_map,hlen];decide) (fun i v H1 H2 n ⟨x,e,pl⟩=>⟨x,e,pl.nl n⟩) ?_ ?_
  · intro i v H4 C1 hi s4 hv c1
    rw[List.getElem?_map] at hv;obtain⟨x,hx,rfl⟩:=Option.map_eq_some_iff.mp hv;refine⟨(SubS.refl _).own (by decide),_,rfl,fun a ha=>⟨a,A.a_RoomError,none,true,_,rfl,upd_same,T.E_RoomError.X.toExcC,fun t ht ne=>⟨rfl,c1 _ _ ?_ ⟨x,hx,a,t,rfl,?_,upd_same⟩⟩⟩⟩
    · exact same3 ha ht ne
    · rw[upd_ne ne.symm,upd_same]
  · intro pl H4 ys hpl s4 e4 hyl hE
    refine⟨_,rfl,_,rfl,pl,p,rfl,⟨_,e4⟩,⟨_,s4 _ _ e3⟩,?_⟩;refine for_zip (K:=K) (a:=pl) (b:=p) (xs:=ys) (ys:=xs.map V.str) (fun i σ H' =>∃(x3 x4:Option V),σ=[some (.ref b),some (.ref p),some (.ref pl),x3,x4]∧Same H4 H') hyl ⟨_,_,rfl,Same.refl H4⟩ ?_ ?_ ?_
    · rintro i σ H' _ ⟨x3,x4,rfl,s'⟩
      exact⟨SqL.of (s' _ _ e4),SqL.of (s' _ _ (s4 _ _ e3))⟩
    · rintro i v u T' σ H5 hv hu' ⟨x3,x4,rfl,s5⟩ hT
      have s6:=Same.upd (o:= .tup [v,u]) hT;have e6:upd H5 T' (.tup [v,u]) T' =some (.tup [v,u]):=upd_same;generalize upd H5 T' (.tup [v,u])=H6 at s6 e6;obtain⟨x,hx,pa⟩:=hE i v hv;rw[List.getElem?_map,hx] at hu';cases hu';obtain⟨a,t,rfl,h1,h2⟩:=pa.nl (s5.trans s6).nl;have hc:IsX K mg A A.a_RoomError:=⟨_,_,T.E_RoomError⟩;refine⟨T',_,rfl,SqT.of e6,rfl,_,_,rfl,_,_,rfl,rfl,?_⟩;refine⟨_,rfl,a,A.a_RoomError,_,.type "ValueError",_,rfl,Exc.ofA h1,T.E_RoomError.g,fun u h=>h,T.E_RoomError.kitV,_,rfl,iteF ?_⟩;refine⟨_,rfl,a,A.a_RoomError,rfl,Exc.ofA h1,hc,.inr ⟨rfl,fun H7 s7=> ?_⟩⟩;refine⟨1,rfl,rfl,_,rfl,?_⟩;rw[ne_no];refine iteF ⟨_,rfl,a,A.a_RoomError,t,x,rfl,s7 _ _ h1,s7 _ _ h2,T.st_RoomError,T.E_RoomError.g.mro,_,rfl,rfl,_,rfl,?_⟩;rw[ne_no];exact iteF ⟨_,_,rfl,(s5.trans s6).trans s7⟩
    · rintro σ H5 ⟨x3,x4,rfl,s5⟩
      refine q _ _ ?_ ?_ rfl
      · exact((B2.same s3).same s4).same s5
      · exact((K1.trans K2).trans (s3.trans s4).kept).trans s5.kept
end
end My
namespace My
open PySem L2 PyProof.Rows
structure Good (B k:Nat) (d:PyData):Prop where
  sh:d.showable=true
  dp:d.depth≤k
  ln:d.shown.length≤B
theorem good_all {B k:Nat}:∀{ds:List PyData},(∀d∈ds,Good B k d)→PyData.showableAll ds=true∧PyData.depthAll ds≤k∧((PyData.shownAll ds).map (·.length)).sum≤B*ds.length∧(PyData.shownAll ds).length=ds.length
  |[],_=>by simp[PyData.showableAll,PyData.depthAll,PyData.shownAll]
  | d ::r,h=>by
    obtain⟨h1,h2,h3,h4⟩:=good_all (ds:=r) fun x hx=>h x (List.mem_cons_of_mem _ hx);have g:=h d List.mem_cons_self;have gl:=g.ln;refine⟨?_,?_,?_,?_⟩
    · simp only[PyData.showableAll,g.sh,h1,Bool.and_self]
    · simp only[PyData.depthAll]
      exact Nat.max_le.mpr ⟨g.dp,h2⟩
    · simp only[PyData.shownAll,List.map_cons,List.sum_cons,List.length_cons,Nat.mul_add,Nat.mul_one]
      omega
    · simp only[PyData.shownAll,List.length_cons,h4]
theorem Good.list {B k:Nat} {ds:List PyData} (h:∀d∈ds,Good B k d):Good (B*ds.length+2*ds.length+3) (k+1) (.list ds):=by
  obtain⟨h1,h2,h3,h4⟩:=good_all h;refine⟨?_,?_,?_⟩
  · simp only[PyData.showable,h1]
  · simp only[PyData.depth]
    omega
  · simp only[PyData.shown]
    have:=listText_len_le (PyData.shownAll ds);rw[h4] at this;omega
theorem repr_len{x:Str}(l:Lo x):(reprText x).length≤10*x.length+2:=PySem.StrLaws.reprText_len x fun c hc=>Nat.lt_trans (l c hc) (by decide)
noncomputable abbrev G3:=Good 3000 8
theorem good_str {x:Str} (l:Lo x) (h:x.length≤100):G3 (.str x):=by
  refine⟨by simp only[PyData.showable],by simp[PyData.depth],?_⟩;simp only[PyData.shown];have:=repr_len l;omega
theorem good_int {i:Int} (h:i.natAbs.log2<1920):G3 (.int i):=by
  refine⟨by simp only[PyData.showable];exact decide_eq_true h,by simp[PyData.depth],?_⟩;simp only[PyData.shown];exact Nat.le_trans (int_text_len_1921 h) (by decide)
theorem log_le {i:Int} (h:i.natAbs<2 ^ 1900):i.natAbs.log2<1920:=by
  by_cases h0:i.natAbs=0
  · rw[h0];decide
  · have:=(Nat.log2_lt h0).mpr h
    omega
theorem good_non:G3 .none:=⟨by simp only[PyData.showable],by simp[PyData.depth],by simp only[PyData.shown];decide+kernel⟩
theorem good_bl(b:Bool):G3 (.bool b):=⟨by simp only[PyData.showable],by simp[PyData.depth],by simp only[PyData.shown];cases b<;>decide+kernel⟩
theorem good_t1:G3 (.tuple [.int 1,.str (Str.ofString "b")]):=⟨by simp only[PyData.showable,PyData.showableAll];decide+kernel,by simp[PyData.depth,PyData.depthAll],by simp only[PyData.shown,PyData.shownAll];decide+kernel⟩
theorem good_l0:G3 (.list []):=⟨by simp[PyData.showable,PyData.showableAll],by simp[PyData.depth,PyData.depthAll],by simp only[PyData.shown,PyData.shownAll];decide+kernel⟩
theorem good_l2:G3 (.list [.int 2,.list [.str (Str.ofString "c")]]):=⟨by simp only[PyData.showable,PyData.showableAll];decide+kernel,by simp[PyData.depth,PyData.depthAll],by simp only[PyData.shown,PyData.shownAll];decide+kernel⟩
theorem good_d1:G3 (.dict [(.str (Str.ofString "d"),.int 1)]):=⟨by simp only[PyData.showable,PyData.showableKv];decide+kernel,by simp[PyData.depth,PyData.depthKv],by simp only[PyData.shown,PyData.shownKv];decide+kernel⟩
theorem good_t0:G3 (.tuple []):=⟨by simp[PyData.showable,PyData.showableAll],by simp[PyData.depth,PyData.depthAll],by simp only[PyData.shown,PyData.shownAll];decide+kernel⟩
theorem good_t2:G3 (.tuple [.int 1,.list [.str (Str.ofString "b")]]):=⟨by simp only[PyData.showable,PyData.showableAll];decide+kernel,by simp[PyData.depth,PyData.depthAll],by simp only[PyData.shown,PyData.shownAll];decide+kernel⟩
theorem good_d2:G3 (.dict [(.str (Str.ofString "d"),.list [.int 1])]):=⟨by simp only[PyData.showable,PyData.showableKv,PyData.showableAll];decide+kernel,by simp[PyData.depth,PyData.depthKv,PyData.depthAll],by simp only[PyData.shown,PyData.shownKv,PyData.shownAll];decide+kernel⟩
noncomputable def hide(b:Addr)(H:Hp):Hp:=fun c=>if c=b then none else H c
theorem hide_of{b c:Addr}{H:Hp}{o:HO}(n:c≠b)(e:H c=some o):hide b H c=some o:=by unfold hide;rw[if_neg n];exact e
theorem hide_none{b c:Addr}{H:Hp}(e:H c=none):hide b H c=none:=by unfold hide;split;rfl;exact e
theorem hide_sub (b:Addr) (H:Hp):Same (hide b H) H:=fun c o e=>by
  unfold hide at e
  split at e
  · cases e
  · exact e
theorem Kept.hide {b:Addr} {H H' :Hp} (k:Kept b H H'):Same (hide b H) (hide b H'):=fun c o e=>by
  unfold My.hide at e ⊢
  split at e
  · cases e
  · rename_i n
    rw[if_neg n];exact k c o n e
noncomputable def Item(H:Hp)(v:V):Prop:=∃d,DatE H v d∧G3 d
theorem Item.same {H H' :Hp} {v:V} (i:Item H v) (s:Same H H'):Item H' v:=by
  obtain⟨d,h,g⟩:=i;exact⟨d,h.same s,g⟩
theorem mul_ok {z:Str} (hz:z.length=1) {n:Int} (h0:0≤n) (h1:n≤5000):MulOk z n:=by
  refine⟨?_,fun h _=> ?_,fun _ _=> ?_⟩
  · rw[decide_eq_false (by omega),decide_eq_false (by omega)]
    rfl
  · rw[hz]
    have:(1:Int)≤(2 ^ 63 - 1) / n:=(Int.le_ediv_iff_mul_le (by omega)).mpr (by omega);show ¬((1:Nat):Int)>_;omega
  · show decide (z.length*n.toNat>sizeLine)=false
    rw[hz];have hL:sizeLine=16777216:=rfl;exact decide_eq_false (by omega)
theorem mul_len (c:Nat) (n:Int):(Txt.mul ⟨#[c]⟩ n).length=n.toNat:=by
  have h:=congrArg List.length (mul_one_list c n);rw[List.length_replicate] at h;exact h
theorem mul_lo {c:Nat} (h:c<1000) (n:Int):Lo (Txt.mul ⟨#[c]⟩ n):=by
  intro d hd;rw[mul_one_list] at hd;rw[List.eq_of_mem_replicate hd];exact h
noncomputable def ThingAt(b:Addr)(H:Hp)(v:V):Prop:=∃p H0 xs,v= .ref p∧H0 p=none∧Same H0 (hide b H)∧p≠b∧H p=some (.lst xs)∧xs.length≤4∧∀x∈xs,Item H0 x
theorem ThingAt.kept {b:Addr} {H H' :Hp} {v:V} (t:ThingAt b H v) (k:Kept b H H'):ThingAt b H' v:=by
  obtain⟨p,H0,xs,e,h0,s,n,hp,r⟩:=t;exact⟨p,H0,xs,e,h0,s.trans k.hide,n,k _ _ n hp,r⟩
theorem pw{j:Int}(h0:0≤j:=by decide)(h1:j≤1000000:=by decide):CPow 10 j:=⟨h0,h1,by decide⟩
section
variable{P:Program}{w:World}{K:PySem.W.Frag}{mg:Str→Option Value}{base:Heap}{A:Adr}
theorem ok__law_thing (T:Txt K mg A):FnOk P w K mg base CX0 2 A.a__law_thing A.d__law_thing ["_law_box_here"] (spDraw 10 fun b v H=>ThingAt b H v):=by
  refine T.I__law_thing.F.okN sc__law_thing ?_
  rintro cdv Ar outer s H vs Q E hr ⟨b,k,rfl,B,hk,q⟩
  have hL:sizeLine=16777216:=rfl;refine⟨_,(pssm_cons (psm_set (i:=1) sc__law_thing.nd rfl (Or.inr rfl) (pem_lst (pam_cons (fun _ _=>rfl) (pe_op op_sub (pcf (ok__law_take T) hr T.I__law_take pass0 (pa_cons (pv 0) (pa1 (pe_op op_pow pe_int pe_int)))) pe_int) (pam_cons (fun _ _=>rfl) (pe_op op_rep_str pe_str (pcf (ok__law_take T) hr T.I__law_take pass0 (pa_cons (pv 0) (pa1 pe_int)))) (pam_cons (fun _ _=>rfl) pe_non (pam_cons (fun _ _=>rfl) pe_bl (pam_cons (fun _ _=>rfl) (pe_tup (pa_cons pe_int (pa1 pe_str))) (pam_cons (fun _ _=>rfl) (pe_lst pa_nil) (pam_cons (fun _ _=>rfl) (pe_lst (pa_cons pe_int (pa1 (pe_lst (pa1 pe_str))))) (pam_cons (fun _ _=>rfl) (pe_disp (pps_cons pe_str pe_int pps_nil) rfl rfl (by simp) (by decide)) pam_nil))))))))) (by kernel_rfl) (Or.inl rfl)) (pssm_one ⟨(ps_ret (pcm ["_law_k","_law_some","_law_box_here"] 1 [1,0] (pi_range1 rfl T.z_range (pa1 (pcf (ok__law_take T) hr T.I__law_take pass0 (pa_cons (pv 0) (pa1 pe_int))))) (fun _ _ _ _ _=>⟨(pgn 0 (show(["_law_k","_law_some","_law_box_here"]:List Str).Nodup by decide+kernel)),pif0,(pix (ix_listK (K:=K) rfl) (pv 1) (pcf (ok__law_take T) hr T.I__law_take pass0 (pa_cons (pv 2) (pa1 pe_int))))⟩)))⟩)),?_⟩;refine⟨_,rfl,10,9,rfl,rfl,pw,b,_,k,rfl,B,by omega,by decide,by decide,fun r1 H1 r10 r11 B1 O1=> ?_⟩;refine⟨r1,5,rfl,rfl,?_⟩;refine⟨_,rfl,b,7,k+1,rfl,B1,by omega,by decide,by decide,fun r2 H2 r20 r21 B2 O2=> ?_⟩;refine⟨_,r2,rfl,rfl,mul_ok (by decide+kernel) r20 (by omega),?_⟩;have K2:Kept b H H2:=O1.kept.trans O2.kept;refine⟨(show 2≤sizeLine by decide),fun t1 n1=> ?_⟩;have s3:=Same.upd (o:= .tup [.int 1,.str (Str.ofString "b")]) n1;have e3:upd H2 t1 (.tup [.int 1,.str (Str.ofString "b")]) t1=some (.tup [.int 1,.str (Str.ofString "b")]):=upd_same;generalize upd H2 t1 (.tup [.int 1,.str (Str.ofString "b")])=H3 at s3 e3;refine⟨(show 0≤sizeLine by decide),fun l1 n2=> ?_⟩;have s4:=Same.upd (o:= .lst []) n2;have e4:upd H3 l1 (.lst []) l1=some (.lst []):=upd_same;generalize upd H3 l1 (.lst [])=H4 at s4 e4;refine⟨(show 1≤sizeLine by decide),fun l2 n3=> ?_⟩;have s5:=Same.upd (o:= .lst [.str (Str.ofString "c")]) n3;have e5:upd H4 l2 (.lst [.str (Str.ofString "c")]) l2=some (.lst [.str (Str.ofString "c")]):=upd_same;generalize upd H4 l2 (.lst [.str (Str.ofString "c")])=H5 at s5 e5;refine⟨(show 2≤sizeLine by decide),fun l3 n4=> ?_⟩;have s6:=Same.upd (o:= .lst [.int 2,.ref l2]) n4;have e6:upd H5 l3 (.lst [.int 2,.ref l2]) l3=some (.lst [.int 2,.ref l2]):=upd_same;generalize upd H5 l3 (.lst [.int 2,.ref l2])=H6 at s6 e6;refine fun d1 n5=>⟨upd_same,[(.inr (Str.ofString "d"),.int 1)],rfl,by decide,?_⟩;rw[upd_upd];have s7:=Same.upd (o:= .dK (mergeK [] [(.inr (Str.ofString "d"),.int 1)])) n5;have e7:upd H6 d1 (.dK (mergeK [] [(.inr (Str.ofString "d"),.int 1)])) d1=some (.dK [(.inr (Str.ofString "d"),.int 1)]):=upd_same;generalize upd H6 d1 (.dK (mergeK [] [(.inr (Str.ofString "d"),.int 1)]))=H7 at s7 e7;have B3:=B2.same s3;have B4:=B3.same s4;have B5:=B4.same s5;have B6:=B5.same s6;have B7:=B6.same s7;have w4:=((s5.trans s6).trans s7)
  have all:∀x∈[V.int (r1 - 5),.str (Txt.mul (Str.ofString "a") r2),.non,.bl true,.ref t1,.ref l1,.ref l3,.ref d1],Item (hide b H7) x:=by
    have a1:=hide_of (B2.ne n1) (w4 _ _ (s4 _ _ e3));have a2:=hide_of (B3.ne n2) (w4 _ _ e4);have a3:=hide_of (B4.ne n3) ((s6.trans s7) _ _ e5);have a4:=hide_of (B5.ne n4) (s7 _ _ e6);have a5:=hide_of (B6.ne n5) e7;have e9:(10:Int) ^ Int.toNat 9=1000000000:=by decide
    rw[e9] at r11;intro x hx;simp only[List.mem_cons,List.not_mem_nil,or_false] at hx;rcases hx with rfl|rfl|rfl|rfl|rfl|rfl|rfl|rfl
    · refine⟨_,.int _,good_int (log_le ?_)⟩
      have:(1000000000:Nat)<2 ^ 1900:=Nat.lt_of_lt_of_le (by decide:1000000000<2 ^ 60) (Nat.pow_le_pow_right (by decide) (by decide));omega
    · exact⟨_,.str _,good_str (mul_lo (c:=97) (by decide) r2) (by have:=mul_len 97 r2;show(Txt.mul ⟨#[97]⟩ r2).length≤100;omega)⟩
    · exact⟨_,.non,good_non⟩
    · exact⟨_,.bl true,good_bl _⟩
    · exact⟨_,.tup a1 (.cons (.int 1) (.cons (.str _) .nil)),good_t1⟩
    · exact⟨_,.lst a2 .nil,good_l0⟩
    · exact⟨_,.lst a4 (.cons (.int 2) (.cons (.lst a3 (.cons (.str _) .nil)) .nil)),good_l2⟩
    · exact⟨_,.dct (D:=[(.str (Str.ofString "d"),.int 1)]) a5 rfl (.cons (.int 1) .nil),good_d1⟩
  refine⟨(show 8≤sizeLine by decide),fun ps n6=> ?_⟩;have el:[V.int (r1 - 5),.str (Txt.mul (Str.ofString "a") r2),.non,.bl true,.ref t1,.ref l1,.ref l3,.ref d1].length=8:=rfl;have s8:=Same.upd (o:= .lst [V.int (r1 - 5),.str (Txt.mul (Str.ofString "a") r2),.non,.bl true,.ref t1,.ref l1,.ref l3,.ref d1]) n6;have e8:upd H7 ps (.lst [V.int (r1 - 5),.str (Txt.mul (Str.ofString "a") r2),.non,.bl true,.ref t1,.ref l1,.ref l3,.ref d1]) ps=some (.lst [V.int (r1 - 5),.str (Txt.mul (Str.ofString "a") r2),.non,.bl true,.ref t1,.ref l1,.ref l3,.ref d1]):=upd_same;generalize upd H7 ps (.lst [V.int (r1 - 5),.str (Txt.mul (Str.ofString "a") r2),.non,.bl true,.ref t1,.ref l1,.ref l3,.ref d1])=H8 at s8 e8;generalize [V.int (r1 - 5),.str (Txt.mul (Str.ofString "a") r2),.non,.bl true,.ref t1,.ref l1,.ref l3,.ref d1]=xs at el e8 all;have B8:=B7.same s8;refine⟨_,rfl,b,5,k+2,rfl,B8,by omega,by decide,by decide,fun n H9 n0 n1 B9 O9=> ?_⟩;refine⟨n,rfl,by omega,by omega,?_⟩;have hps:ps≠b:=B7.ne n6;have e9:H9 ps=some (.lst xs):=(O9 ps hps).trans e8;refine comp_box (b:=b) (k0:=k+3) (m:=1) (fun v=>v∈xs) (by omega) B9 ?_ ?_
  · intro i Ha C1 hi Ka Ba c1
    refine⟨(SubS.refl _).own (by decide),_,rfl,_,rfl,b,8,_,rfl,Ba,by omega,by decide,by decide,fun r Hb h0 h1 Bb Ob=> ?_⟩;exact ix_any (fun v=>v∈xs) ((Ob ps hps).trans (Ka _ _ hps e9)) h0 (by rw[el];exact h1) (fun x hx=>hx) fun v hv=>c1 _ _ hv Bb Ob.kept
  · intro p Ha ys np Ka Ba ea hl hR
    have k9:Kept b H7 H9:=s8.kept.trans O9.kept;refine q _ _ (Ba.mono (by omega)) ?_ ⟨p,hide b H9,ys,rfl,hide_none np,Ka.hide,B9.ne np,ea,by omega,fun x hx=>(all x (hR x hx)).same k9.hide⟩;exact(K2.trans (((s3.trans s4).trans w4).kept.trans k9)).trans Ka
end
end My
namespace My
open PySem L2 PyProof.Rows
section
variable{P:Program}{w:World}{K:PySem.W.Frag}{mg:Str→Option Value}{base:Heap}{A:Adr}
theorem MadeAt.nl {H H' :Hp} {e C:Addr} {f:Str} {v:V} (m:MadeAt K H e C f v) (s:NL H H'):MadeAt K H' e C f v:=by
  obtain⟨dx,fs,he,hd,r⟩:=m;exact⟨dx,fs,s _ _ (fun _ z=>nomatch z) he,s _ _ (fun _ z=>nomatch z) hd,r⟩
noncomputable def Rows{α:Type}(F:V→α→Prop)(vs:List V)(rs:List α):Prop:=vs.length=rs.length∧∀(i:Nat) (v:V) (r:α),vs[i]? =some v→rs[i]? =some r→F v r
theorem Rows.imp{α:Type}{F G:V→α→Prop}{vs:List V}{rs:List α}(h:Rows F vs rs)(f:∀v r,F v r→G v r):Rows G vs rs:=⟨h.1,fun i v r e1 e2=>f _ _ (h.2 i v r e1 e2)⟩
theorem Rows.nil{α:Type}{F:V→α→Prop}:Rows F [] []:=⟨rfl,fun i v r e=>by simp at e⟩
theorem Rows.cons {α:Type} {F:V→α→Prop} {v:V} {r:α} {vs:List V} {rs:List α} (h:F v r) (t:Rows F vs rs):Rows F (v::vs) (r::rs):=⟨by simp[t.1],fun i=>by
  cases i with
  |zero=>intro v' r' e1 e2;cases e1;cases e2;exact h
  |succ i=>intro v' r' e1 e2;exact t.2 i v' r' e1 e2⟩
theorem Rows.app {α:Type} {F:V→α→Prop} {vs us:List V} {rs ts:List α} (a:Rows F vs rs) (b:Rows F us ts):Rows F (vs++us) (rs++ts):=⟨by rw[List.length_append,List.length_append,a.1,b.1],fun i v r e1 e2=>by
  by_cases hi:i<vs.length
  · rw[List.getElem?_append_left hi] at e1
    rw[List.getElem?_append_left (by rw[←a.1];exact hi)] at e2;exact a.2 i v r e1 e2
  · rw[List.getElem?_append_right (by omega)] at e1
    rw[List.getElem?_append_right (by rw[←a.1];omega),←a.1] at e2;exact b.2 _ v r e1 e2⟩
noncomputable def Makes(K:PySem.W.Frag)(ta:TA)(σ:L2.St)(cs:List Addr)(f:Str)(v:V):Prop:=∀H Q,(∀es H',Same H H'→Rows (fun e C=>∃a,e= .ref a∧MadeAt K H' a C f v) es cs→Q es H')→ta σ H Q
theorem makes_nil{σ:L2.St}{f:Str}{v:V}:Makes K tNil σ [] f v:=fun H Q q=>q [] H (Same.refl H) Rows.nil
theorem mk1 {σ:L2.St} {C:Addr} {f:Str} {v:V} {H:Hp} {Q:VK} (hσ:σ[0]? =some (some v)) (hg:ExcG K C) (hn:NoAttr K C f) (q:∀e H',Same H H'→MadeAt K H' e C f v→Q (.ref e) H'):tMakeX C (spX1 C f) E0 (tCons (tVar 0) tNil) σ H Q:=by
  refine⟨v,hσ,fun e he=>⟨e,v,rfl,upd_same,fun dx hd ne=>⟨rfl,q e _ (same3 he hd ne) ⟨dx,[(f,v)],?_,upd_same,?_,hg,hn⟩⟩⟩⟩
  · rw[upd_ne ne.symm,upd_same]
  · simp
theorem two_step {rest:TS} {k:Ends} {σ:L2.St} {C:Addr} {f g:Str} {v u:V} {i j n:Nat} {H:Hp} (hi:σ[i]? =some (some v)) (hj:σ[j]? =some (some u)) (hg:ExcG K C) (hn:NoAttr K C f) (hn2:NoAttr K C g) (ne:f≠g)
    (q:∀e H',Same H H'→MadeAt K H' e C f v→MadeAt K H' e C g u→rest k (σ.set n (some (.ref e))) H'):tSeq (tAsg (tMakeX C (spX2 C f g) E0 (tCons (tVar i) (tCons (tVar j) tNil))) (gName n)) rest k σ H:=by
  refine⟨v,hi,u,hj,fun e he=>⟨e,v,u,rfl,upd_same,fun dx hd n=>⟨rfl,?_⟩⟩⟩;rw[upd_upd];refine q e _ (same3 he hd n) ⟨dx,_,?_,upd_same,?_,hg,hn⟩ ⟨dx,_,?_,upd_same,?_,hg,hn2⟩
  · rw[upd_ne n.symm,upd_same]
  · rw[lookup_putF,if_neg ne]
    simp
  · rw[upd_ne n.symm,upd_same]
  · rw[lookup_putF,if_pos rfl]
theorem makes_cons {σ:L2.St} {C g R:Addr} {x f:Str} {v:V} {ta:TA} {cs:List Addr} (E:XI K mg x C g R) (hn:NoAttr K C f) (hσ:σ[0]? =some (some v)) (h:Makes K ta σ cs f v):Makes K (tCons (tMakeX C (spX1 C f) E0 (tCons (tVar 0) tNil)) ta) σ (C::cs) f v:=fun H Q q=>
  mk1 hσ E.g.toExcG hn fun e H1 s1 m1=>h H1 _ fun es H2 s2 r2=>q _ _ (s1.trans s2) (Rows.cons ⟨e,rfl,m1.same s2⟩ r2)
noncomputable def PairAt(K:PySem.W.Frag)(v:V)(H:Hp)(x:V)(r:Addr×Str):Prop:=∃t e,x= .ref t∧H t=some (.tup [.ref e,.str r.2])∧MadeAt K H e r.1 r.2 v
theorem PairAt.nl {v:V} {H H' :Hp} {x:V} {r:Addr×Str} (p:PairAt K v H x r) (s:NL H H'):PairAt K v H' x r:=by
  obtain⟨t,e,h1,h2,h3⟩:=p;exact⟨t,e,h1,s _ _ (fun _ z=>nomatch z) h2,h3.nl s⟩
theorem made_step {rest:TS} {k:Ends} {ta:TA} {v u:V} {l:Addr} {x3 x4 x5:Option V} {xs:List V} {rs:List (Addr×Str)} {cs:List Addr} {f:Str} {H:Hp}
    (hm:Makes K ta [some v,some u,some (.ref l),x3,x4,x5] cs f v) (hcs:cs.length≤10) (hl:H l=some (.lst xs)) (hr:Rows (PairAt K v H) xs rs) (hrs:rs.length≤100)
    (q:∀l' ys H',Same H H'→H' l' =some (.lst ys)→Rows (PairAt K v H') ys (rs++cs.map fun C=>(C,f))→rest k [some v,some u,some (.ref l'),x3,x4,x5] H'):
    tSeq (tAsg (tOp rCat (tVar 2) (tComp (iList K (tLst ta)) 1 [] (gName 0) tYes (tTup (tCons (tVar 0) (tCons (tC (V.str f)) tNil))))) (gName 2)) rest k [some v,some u,some (.ref l),x3,x4,x5] H:=by
  have hL:sizeLine=16777216:=rfl;refine⟨_,rfl,hm _ _ fun es H1 s1 r1=> ?_⟩;have h1l:=r1.1;refine⟨by omega,fun p hp=> ?_⟩;have s2:=Same.upd (o:= .lst es) hp;have e2:upd H1 p (.lst es) p=some (.lst es):=upd_same;generalize upd H1 p (.lst es)=H2 at s2 e2;refine⟨p,rfl,⟨_,SqL.of e2⟩,?_⟩;refine comp_relN (fun i y H' =>∀C,cs[i]? =some C→PairAt K v H' y (C,f)) (feeds_list (SqL.of e2)).g (by omega) (fun i y Ha Hb n h C hC=>(h C hC).nl n) ?_ ?_
  · intro i x H3 C1 hi s3 hx c1
    refine⟨(SubS.refl _).own (by decide),_,rfl,(show 2≤sizeLine by decide),fun t ht=>c1 _ _ (Same.upd ht) fun C hC=> ?_⟩;obtain⟨a,rfl,m⟩:=r1.2 i x C hx hC;exact⟨t,a,rfl,upd_same,m.same ((s2.trans s3).trans (Same.upd ht))⟩
  · intro p3 H3 ys hp3 s3 e3 hyl hE
    refine⟨l,p3,xs,ys,rfl,rfl,s3 _ _ (s2 _ _ (s1 _ _ hl)),e3,?_,fun p4 hp4=> ?_⟩
    · have:=hr.1
      omega
    · have s4:=Same.upd (o:= .lst (xs++ys)) hp4
      have s04:=((s1.trans s2).trans s3).trans s4;refine q p4 _ _ s04 upd_same ((hr.imp fun x r h=>h.nl s04.nl).app ⟨?_,fun i y r hy hr' => ?_⟩)
      · rw[List.length_map]
        omega
      · rw[List.getElem?_map] at hr'
        obtain⟨C,hC,rfl⟩:=Option.map_eq_some_iff.mp hr';exact(hE i y hy C hC).nl s4.nl
noncomputable def pairsL (A:Adr):List (Addr×Str):=
  [A.a_NoNumber,A.a_NoName,A.a_NoValue,A.a_NoFrame].map (fun C=>(C,Str.ofString "found"))++([A.a_NoWay,A.a_NoCell,A.a_NoHands,A.a_NoDeed].map (fun C=>(C,Str.ofString "found"))++([A.a_NoChoices,A.a_NoMaking,A.a_NoManner,A.a_NoNames].map (fun C=>(C,Str.ofString "found"))++([A.a_NoLine].map (fun C=>(C,Str.ofString "found"))++
  ([A.a_TooMany,A.a_TooWide,A.a_TooLong].map (fun C=>(C,Str.ofString "many"))++([A.a_Kept].map (fun C=>(C,Str.ofString "ways"))++([A.a_TooDeep].map (fun C=>(C,Str.ofString "depth"))++([A.a_Twice,A.a_NoLabel].map (fun C=>(C,Str.ofString "label"))++([A.a_NotStraight].map (fun C=>(C,Str.ofString "number"))++[A.a_NoText].map (fun C=>(C,Str.ofString "line"))))))))))
noncomputable def madeR(A:Adr)(v u:V):List (Addr×Str×V):=(pairsL A).map (fun r=>(r.1,r.2,v))++[(A.a_Gone,Str.ofString "found",v),(A.a_Gone,Str.ofString "by",u),(A.a_Full,Str.ofString "need",u),(A.a_Full,Str.ofString "spare",v)]
noncomputable def RowAt(K:PySem.W.Frag)(H:Hp)(x:V)(r:Addr×Str×V):Prop:=∃t e,x= .ref t∧H t=some (.tup [.ref e,.str r.2.1,r.2.2])∧MadeAt K H e r.1 r.2.1 r.2.2
theorem RowAt.nl {H H' :Hp} {x:V} {r:Addr×Str×V} (p:RowAt K H x r) (s:NL H H'):RowAt K H' x r:=by
  obtain⟨t,e,h1,h2,h3⟩:=p;exact⟨t,e,h1,s _ _ (fun _ z=>nomatch z) h2,h3.nl s⟩
noncomputable def spMade(K:PySem.W.Frag)(A:Adr):Sp:=fun vs H Q _=>∃v u,vs=[v,u]∧∀l xs H',Same H H'→H l=none→H' l=some (.lst xs)→Rows (RowAt K H') xs (madeR A v u)→Q (.ref l) H'
theorem ok__law_made (T:Txt K mg A):FnOk P w K mg base CX0 4 A.a__law_made A.d__law_made ["_law_thing_here","_law_more"] (spMade K A):=by
  refine T.I__law_made.F.okI sc__law_made ?_
  rintro cdv Ar outer s H vs Q E hr ⟨v,u,rfl,q⟩
  refine⟨_,(pss_cons (pst 2 sc__law_made.nd (pe_lst pa_nil)) (pss_cons (pst 2 sc__law_made.nd (pe_op op_cat (pv 2) (pcm ["_law_one"] 1 [] (pi_list (pe_lst (pa_cons (pxm T.E_NoNumber T.I_NoNumber___init__ (ok_NoNumber___init__ T) hr (pa1 (pv 0))) (pa_cons (pxm T.E_NoName T.I_NoName___init__ (ok_NoName___init__ T) hr (pa1 (pv 0))) (pa_cons (pxm T.E_NoValue T.I_NoValue___init__ (ok_NoValue___init__ T) hr (pa1 (pv 0))) (pa1 (pxm T.E_NoFrame T.I_NoFrame___init__ (ok_NoFrame___init__ T) hr (pa1 (pv 0))))))))) (fun _ _ _ _ _=>⟨(pgn 0 (show(["_law_one"]:List Str).Nodup by decide+kernel)),pif0,(pe_tup (pa_cons (pv 0) (pa1 pe_str)))⟩)))) (pss_cons (pst 2 sc__law_made.nd (pe_op op_cat (pv 2) (pcm ["_law_one"] 1 [] (pi_list (pe_lst (pa_cons (pxm T.E_NoWay T.I_NoWay___init__ (ok_NoWay___init__ T) hr (pa1 (pv 0))) (pa_cons (pxm T.E_NoCell T.I_NoCell___init__ (ok_NoCell___init__ T) hr (pa1 (pv 0))) (pa_cons (pxm T.E_NoHands T.I_NoHands___init__ (ok_NoHands___init__ T) hr (pa1 (pv 0))) (pa1 (pxm T.E_NoDeed T.I_NoDeed___init__ (ok_NoDeed___init__ T) hr (pa1 (pv 0))))))))) (fun _ _ _ _ _=>⟨(pgn 0 (show(["_law_one"]:List Str).Nodup by decide+kernel)),pif0,(pe_tup (pa_cons (pv 0) (pa1 pe_str)))⟩)))) (pss_cons (pst 2 sc__law_made.nd (pe_op op_cat (pv 2) (pcm ["_law_one"] 1 [] (pi_list (pe_lst (pa_cons (pxm T.E_NoChoices T.I_NoChoices___init__ (ok_NoChoices___init__ T) hr (pa1 (pv 0))) (pa_cons (pxm T.E_NoMaking T.I_NoMaking___init__ (ok_NoMaking___init__ T) hr (pa1 (pv 0))) (pa_cons (pxm T.E_NoManner T.I_NoManner___init__ (ok_NoManner___init__ T) hr (pa1 (pv 0))) (pa1 (pxm T.E_NoNames T.I_NoNames___init__ (ok_NoNames___init__ T) hr (pa1 (pv 0))))))))) (fun _ _ _ _ _=>⟨(pgn 0 (show(["_law_one"]:List Str).Nodup by decide+kernel)),pif0,(pe_tup (pa_cons (pv 0) (pa1 pe_str)))⟩)))) (pss_cons (pst 2 sc__law_made.nd (pe_op op_cat (pv 2) (pcm ["_law_one"] 1 [] (pi_list (pe_lst (pa1 (pxm T.E_NoLine T.I_NoLine___init__ (ok_NoLine___init__ T) hr (pa1 (pv 0)))))) (fun _ _ _ _ _=>⟨(pgn 0 (show(["_law_one"]:List Str).Nodup by decide+kernel)),pif0,(pe_tup (pa_cons (pv 0) (pa1 pe_str)))⟩)))) (pss_cons (pst 2 sc__law_made.nd (pe_op op_cat (pv 2) (pcm ["_law_one"] 1 [] (pi_list (pe_lst (pa_cons (pxm T.E_TooMany T.I_TooMany___init__ (ok_TooMany___init__ T) hr (pa1 (pv 0))) (pa_cons (pxm T.E_TooWide T.I_TooWide___init__ (ok_TooWide___init__ T) hr (pa1 (pv 0))) (pa1 (pxm T.E_TooLong T.I_TooLong___init__ (ok_TooLong___init__ T) hr (pa1 (pv 0)))))))) (fun _ _ _ _ _=>⟨(pgn 0 (show(["_law_one"]:List Str).Nodup by decide+kernel)),pif0,(pe_tup (pa_cons (pv 0) (pa1 pe_str)))⟩)))) (pss_cons (pst 2 sc__law_made.nd (pe_op op_cat (pv 2) (pcm ["_law_one"] 1 [] (pi_list (pe_lst (pa1 (pxm T.E_Kept T.I_Kept___init__ (ok_Kept___init__ T) hr (pa1 (pv 0)))))) (fun _ _ _ _ _=>⟨(pgn 0 (show(["_law_one"]:List Str).Nodup by decide+kernel)),pif0,(pe_tup (pa_cons (pv 0) (pa1 pe_str)))⟩)))) (pss_cons (pst 2 sc__law_made.nd (pe_op op_cat (pv 2) (pcm ["_law_one"] 1 [] (pi_list (pe_lst (pa1 (pxm T.E_TooDeep T.I_TooDeep___init__ (ok_TooDeep___init__ T) hr (pa1 (pv 0)))))) (fun _ _ _ _ _=>⟨(pgn 0 (show(["_law_one"]:List Str).Nodup by decide+kernel)),pif0,(pe_tup (pa_cons (pv 0) (pa1 pe_str)))⟩)))) (pss_cons (pst 2 sc__law_made.nd (pe_op op_cat (pv 2) (pcm ["_law_one"] 1 [] (pi_list (pe_lst (pa_cons (pxm T.E_Twice T.I_Twice___init__ (ok_Twice___init__ T) hr (pa1 (pv 0))) (pa1 (pxm T.E_NoLabel T.I_NoLabel___init__ (ok_NoLabel___init__ T) hr (pa1 (pv 0))))))) (fun _ _ _ _ _=>⟨(pgn 0 (show(["_law_one"]:List Str).Nodup by decide+kernel)),pif0,(pe_tup (pa_cons (pv 0) (pa1 pe_str)))⟩)))) (pss_cons (pst 2 sc__law_made.nd (pe_op op_cat (pv 2) (pcm ["_law_one"] 1 [] (pi_list (pe_lst (pa1 (pxm T.E_NotStraight T.I_NotStraight___init__ (ok_NotStraight___init__ T) hr (pa1 (pv 0)))))) (fun _ _ _ _ _=>⟨(pgn 0 (show(["_law_one"]:List Str).Nodup by decide+kernel)),pif0,(pe_tup (pa_cons (pv 0) (pa1 pe_str)))⟩)))) (pss_cons (pst 2 sc__law_made.nd (pe_op op_cat (pv 2) (pcm ["_law_one"] 1 [] (pi_list (pe_lst (pa1 (pxm T.E_NoText T.I_NoText___init__ (ok_NoText___init__ T) hr (pa1 (pv 0)))))) (fun _ _ _ _ _=>⟨(pgn 0 (show(["_law_one"]:List Str).Nodup by decide+kernel)),pif0,(pe_tup (pa_cons (pv 0) (pa1 pe_str)))⟩)))) (pss_cons (pstC 3 sc__law_made.nd ["_law_one","_law_name","_law_thing_here"] 2 [0] (pi_list (pv 2)) (fun _ _ _ _ _=>⟨(pg_tupK (K:=K) (n:=2) rfl rfl (pgs_cons (pgn 0 (show(["_law_one","_law_name","_law_thing_here"]:List Str).Nodup by decide+kernel)) (pgs_cons (pgn 1 (show(["_law_one","_law_name","_law_thing_here"]:List Str).Nodup by decide+kernel)) pgs_nil)) rfl rfl),pif0,(pe_tup (pa_cons (pv 0) (pa_cons (pv 1) (pa1 (pv 2)))))⟩)) (pss_cons (pst 4 sc__law_made.nd (pxm T.E_Gone T.I_Gone___init__ (ok_Gone___init__ T) hr (pa_cons (pv 0) (pa1 (pv 1))))) (pss_cons (pst 5 sc__law_made.nd (pxm T.E_Full T.I_Full___init__ (ok_Full___init__ T) hr (pa_cons (pv 1) (pa1 (pv 0))))) (pss_one (ps_ret (pe_op op_cat (pv 3) (pe_lst (pa_cons (pe_tup (pa_cons (pv 4) (pa_cons pe_str (pa1 (pv 0))))) (pa_cons (pe_tup (pa_cons (pv 4) (pa_cons pe_str (pa1 (pv 1))))) (pa_cons (pe_tup (pa_cons (pv 5) (pa_cons pe_str (pa1 (pv 1))))) (pa1 (pe_tup (pa_cons (pv 5) (pa_cons pe_str (pa1 (pv 0))))))))))))))))))))))))))),?_⟩;refine⟨(show 0≤sizeLine by decide),fun p hp=> ?_⟩;have s0:=Same.upd (o:= .lst []) hp;refine made_step (K:=K) (cs:=[A.a_NoNumber,A.a_NoName,A.a_NoValue,A.a_NoFrame]) (f:=Str.ofString "found") (makes_cons T.E_NoNumber T.n_NoNumber_found rfl (makes_cons T.E_NoName T.n_NoName_found rfl (makes_cons T.E_NoValue T.n_NoValue_found rfl (makes_cons T.E_NoFrame T.n_NoFrame_found rfl makes_nil)))) (show 4≤10 by decide) (rs:=[]) upd_same Rows.nil (show 0≤100 by decide) fun l1 y1 H1 s1 e1 r1=> ?_;have s1:=s0.trans s1;refine made_step (K:=K) (cs:=[A.a_NoWay,A.a_NoCell,A.a_NoHands,A.a_NoDeed]) (f:=Str.ofString "found") (makes_cons T.E_NoWay T.n_NoWay_found rfl (makes_cons T.E_NoCell T.n_NoCell_found rfl (makes_cons T.E_NoHands T.n_NoHands_found rfl (makes_cons T.E_NoDeed T.n_NoDeed_found rfl makes_nil)))) (show 4≤10 by decide) e1 r1 (show 4≤100 by decide) fun l2 y2 H2 s2 e2 r2=> ?_;have s2:=s1.trans s2;refine made_step (K:=K) (cs:=[A.a_NoChoices,A.a_NoMaking,A.a_NoManner,A.a_NoNames]) (f:=Str.ofString "found") (makes_cons T.E_NoChoices T.n_NoChoices_found rfl (makes_cons T.E_NoMaking T.n_NoMaking_found rfl (makes_cons T.E_NoManner T.n_NoManner_found rfl (makes_cons T.E_NoNames T.n_NoNames_found rfl makes_nil)))) (show 4≤10 by decide) e2 r2 (show 8≤100 by decide) fun l3 y3 H3 s3 e3 r3=> ?_;have s3:=s2.trans s3;refine made_step (K:=K) (cs:=[A.a_NoLine]) (f:=Str.ofString "found") (makes_cons T.E_NoLine T.n_NoLine_found rfl makes_nil) (show 1≤10 by decide) e3 r3 (show 12≤100 by decide) fun l4 y4 H4 s4 e4 r4=> ?_;have s4:=s3.trans s4;refine made_step (K:=K) (cs:=[A.a_TooMany,A.a_TooWide,A.a_TooLong]) (f:=Str.ofString "many") (makes_cons T.E_TooMany T.n_TooMany_many rfl (makes_cons T.E_TooWide T.n_TooWide_many rfl (makes_cons T.E_TooLong T.n_TooLong_many rfl makes_nil))) (show 3≤10 by decide) e4 r4 (show 13≤100 by decide) fun l5 y5 H5 s5 e5 r5=> ?_;have s5:=s4.trans s5;refine made_step (K:=K) (cs:=[A.a_Kept]) (f:=Str.ofString "ways") (makes_cons T.E_Kept T.n_Kept_ways rfl makes_nil) (show 1≤10 by decide) e5 r5 (show 16≤100 by decide) fun l6 y6 H6 s6 e6 r6=> ?_;have s6:=s5.trans s6;refine made_step (K:=K) (cs:=[A.a_TooDeep]) (f:=Str.ofString "depth") (makes_cons T.E_TooDeep T.n_TooDeep_depth rfl makes_nil) (show 1≤10 by decide) e6 r6 (show 17≤100 by decide) fun l7 y7 H7 s7 e7 r7=> ?_;have s7:=s6.trans s7;refine made_step (K:=K) (cs:=[A.a_Twice,A.a_NoLabel]) (f:=Str.ofString "label") (makes_cons T.E_Twice T.n_Twice_label rfl (makes_cons T.E_NoLabel T.n_NoLabel_label rfl makes_nil)) (show 2≤10 by decide) e7 r7 (show 18≤100 by decide) fun l8 y8 H8 s8 e8 r8=> ?_;have s8:=s7.trans s8;refine made_step (K:=K) (cs:=[A.a_NotStraight]) (f:=Str.ofString "number") (makes_cons T.E_NotStraight T.n_NotStraight_number rfl makes_nil) (show 1≤10 by decide) e8 r8 (show 20≤100 by decide) fun l9 y9 H9 s9 e9 r9=> ?_;have s9:=s8.trans s9;refine made_step (K:=K) (cs:=[A.a_NoText]) (f:=Str.ofString "line") (makes_cons T.E_NoText T.n_NoText_line rfl makes_nil) (show 1≤10 by decide) e9 r9 (show 21≤100 by decide) fun l10 y10 H10 s10 e10 r10=> ?_;have s10:=s9.trans s10;have r10:Rows (PairAt K v H10) y10 (pairsL A):=r10;have hlen:(pairsL A).length=22:=rfl;obtain⟨rs,hrs⟩:∃rs,rs=pairsL A:=⟨_,rfl⟩;rw[←hrs] at r10 hlen;have hL:sizeLine=16777216:=rfl;have h10:=r10.1;refine⟨_,rfl,l10,rfl,⟨_,SqL.of e10⟩,?_⟩;refine comp_relN (fun i y H' =>∀r,rs[i]? =some r→RowAt K H' y (r.1,r.2,v)) (feeds_list (SqL.of e10)).g (by omega) (fun i y Ha Hb n h r hr=>(h r hr).nl n) ?_ ?_
  · intro i x Ha C1 hi sa hx c1
    obtain⟨t,e,rfl,ht,m⟩:=r10.2 i x rs[i] hx (by simp);refine⟨t,_,rfl,SqT.of (sa _ _ ht),rfl,_,_,rfl,_,_,rfl,rfl,((SubS.refl _).own (by decide)).own (by decide),_,rfl,_,rfl,_,rfl,(show 3≤sizeLine by decide),fun t2 ht2=>c1 _ _ (Same.upd ht2) fun r hr=> ?_⟩;rw[List.getElem?_eq_getElem (by omega)] at hr;cases hr;exact⟨t2,e,rfl,upd_same,m.same (sa.trans (Same.upd ht2))⟩
  · intro l11 H11 y11 n11 s11 e11 hyl hE
    have r11:Rows (RowAt K H11) y11 (rs.map fun r=>(r.1,r.2,v)):=⟨by rw[List.length_map];omega,fun i y r hy hr=>by
      rw[List.getElem?_map] at hr;obtain⟨r',hr',rfl⟩:=Option.map_eq_some_iff.mp hr;exact hE i y hy r' hr'⟩
    refine two_step (K:=K) (σ:=[some v,some u,some (.ref l10),some (.ref l11),none,none]) (C:=A.a_Gone) (f:=Str.ofString "found") (g:=Str.ofString "by") (v:=v) (u:=u) (i:=0) (j:=1) rfl rfl T.E_Gone.g.toExcG T.n_Gone_found T.n_Gone_by (by decide) fun eg H12 s12 g1 g2=> ?_;refine two_step (K:=K) (σ:=[some v,some u,some (.ref l10),some (.ref l11),some (.ref eg),none]) (C:=A.a_Full) (f:=Str.ofString "need") (g:=Str.ofString "spare") (v:=u) (u:=v) (i:=1) (j:=0) rfl rfl T.E_Full.g.toExcG T.n_Full_need T.n_Full_spare (by decide) fun ef H13 s13 f1 f2=> ?_;have g1:=g1.same s13;have g2:=g2.same s13;refine⟨_,rfl,_,rfl,_,rfl,(show 3≤sizeLine by decide),fun t1 n1=> ?_⟩;have z1:=Same.upd (o:= .tup [.ref eg,.str (Str.ofString "found"),v]) n1;have d1:upd H13 t1 (.tup [.ref eg,.str (Str.ofString "found"),v]) t1=some (.tup [.ref eg,.str (Str.ofString "found"),v]):=upd_same;generalize upd H13 t1 (.tup [.ref eg,.str (Str.ofString "found"),v])=H14 at z1 d1;refine⟨_,rfl,_,rfl,(show 3≤sizeLine by decide),fun t2 n2=> ?_⟩;have z2:=Same.upd (o:= .tup [.ref eg,.str (Str.ofString "by"),u]) n2;have d2:upd H14 t2 (.tup [.ref eg,.str (Str.ofString "by"),u]) t2=some (.tup [.ref eg,.str (Str.ofString "by"),u]):=upd_same;generalize upd H14 t2 (.tup [.ref eg,.str (Str.ofString "by"),u])=H15 at z2 d2;refine⟨_,rfl,_,rfl,(show 3≤sizeLine by decide),fun t3 n3=> ?_⟩;have z3:=Same.upd (o:= .tup [.ref ef,.str (Str.ofString "need"),u]) n3;have d3:upd H15 t3 (.tup [.ref ef,.str (Str.ofString "need"),u]) t3=some (.tup [.ref ef,.str (Str.ofString "need"),u]):=upd_same;generalize upd H15 t3 (.tup [.ref ef,.str (Str.ofString "need"),u])=H16 at z3 d3;refine⟨_,rfl,_,rfl,(show 3≤sizeLine by decide),fun t4 n4=> ?_⟩;have z4:=Same.upd (o:= .tup [.ref ef,.str (Str.ofString "spare"),v]) n4;have d4:upd H16 t4 (.tup [.ref ef,.str (Str.ofString "spare"),v]) t4=some (.tup [.ref ef,.str (Str.ofString "spare"),v]):=upd_same;generalize upd H16 t4 (.tup [.ref ef,.str (Str.ofString "spare"),v])=H17 at z4 d4;refine⟨(show 4≤sizeLine by decide),fun p5 n5=> ?_⟩;have z5:=Same.upd (o:= .lst [.ref t1,.ref t2,.ref t3,.ref t4]) n5;have d5:upd H17 p5 (.lst [.ref t1,.ref t2,.ref t3,.ref t4]) p5=some (.lst [.ref t1,.ref t2,.ref t3,.ref t4]):=upd_same;generalize upd H17 p5 (.lst [.ref t1,.ref t2,.ref t3,.ref t4])=H18 at z5 d5;have z4:=z4.trans z5;have z3:=z3.trans z4;have z2:=z2.trans z3;have z1:=z1.trans z2;refine⟨l11,p5,y11,_,rfl,rfl,z1 _ _ (s13 _ _ (s12 _ _ e11)),d5,?_,fun p6 n6=> ?_⟩
    · have:=r11.1
      rw[List.length_map] at this;show y11.length+4≤sizeLine;omega
    · have z6:=Same.upd (o:= .lst (y11++[.ref t1,.ref t2,.ref t3,.ref t4])) n6
      have zz:=((s12.trans s13).trans z1).trans z6;have z06:=(s10.trans s11).trans zz;have zv:=z1.trans z6;refine q p6 _ _ z06 (((s10.trans s11).trans ((s12.trans s13).trans z1)).free n6) upd_same ?_;unfold madeR;rw[←hrs];refine(r11.imp fun x r h=>h.nl zz.nl).app ?_;refine Rows.cons ⟨t1,eg,rfl,(z2.trans z6) _ _ d1,g1.same zv⟩ (Rows.cons ⟨t2,eg,rfl,(z3.trans z6) _ _ d2,g2.same zv⟩ (Rows.cons ⟨t3,ef,rfl,(z4.trans z6) _ _ d3,f1.same zv⟩ (Rows.cons ⟨t4,ef,rfl,(z5.trans z6) _ _ d4,f2.same zv⟩ Rows.nil)))
end
end My
namespace My
open PySem L2 PyProof.Rows
noncomputable def rowF:List (Nat×Str×Bool):=[(0,"found",true),(1,"found",true),(2,"found",true),(3,"found",true),(8,"found",true),(9,"found",true),(10,"found",true),(12,"found",true),(18,"found",true),(19,"found",true),(22,"found",true),(23,"found",true),(24,"found",true),(6,"many",true),(14,"many",true),(15,"many",true),(11,"ways",true),(13,"depth",true),(16,"label",true),(17,"label",true),(20,"number",true),(21,"line",true),(4,"found",true),(4,"by",false),(7,"need",false),(7,"spare",true)]
noncomputable def rowN:List Nat:=rowF.map (·.1)
theorem rowF_len:rowF.length=26:=rfl
theorem rowF_ok:∀x∈rowF,x.1<27∧x.2.1∈flds:=by decide+kernel
theorem rowF_lo:∀x∈rowF,Lo x.2.1∧x.2.1.length≤10:=by unfold Lo;decide+kernel
theorem madeR_eq(A:Adr)(v u:V):madeR A v u=rowF.map fun x=>((clsL A).getD x.1 0,x.2.1,if x.2.2=true then v else u):=rfl
section
variable{P:Program}{w:World}{K:PySem.W.Frag}{mg:Str→Option Value}{base:Heap}{A:Adr}
theorem isx_all (T:Txt K mg A):∀C∈clsL A,IsX K mg A C:=by
  intro C hC;simp only[clsL,List.mem_cons,List.not_mem_nil,or_false] at hC;rcases hC with rfl|rfl|rfl|rfl|rfl|rfl|rfl|rfl|rfl|rfl|rfl|rfl|rfl|rfl|rfl|rfl|rfl|rfl|rfl|rfl|rfl|rfl|rfl|rfl|rfl|rfl|rfl
  · exact⟨_,_,T.E_NoNumber⟩
  · exact⟨_,_,T.E_NoName⟩
  · exact⟨_,_,T.E_NoValue⟩
  · exact⟨_,_,T.E_NoFrame⟩
  · exact⟨_,_,T.E_Gone⟩
  · exact⟨_,_,T.E_Ground⟩
  · exact⟨_,_,T.E_TooMany⟩
  · exact⟨_,_,T.E_Full⟩
  · exact⟨_,_,T.E_NoWay⟩
  · exact⟨_,_,T.E_NoCell⟩
  · exact⟨_,_,T.E_NoHands⟩
  · exact⟨_,_,T.E_Kept⟩
  · exact⟨_,_,T.E_NoDeed⟩
  · exact⟨_,_,T.E_TooDeep⟩
  · exact⟨_,_,T.E_TooWide⟩
  · exact⟨_,_,T.E_TooLong⟩
  · exact⟨_,_,T.E_Twice⟩
  · exact⟨_,_,T.E_NoLabel⟩
  · exact⟨_,_,T.E_NoChoices⟩
  · exact⟨_,_,T.E_NoMaking⟩
  · exact⟨_,_,T.E_NotStraight⟩
  · exact⟨_,_,T.E_NoText⟩
  · exact⟨_,_,T.E_NoManner⟩
  · exact⟨_,_,T.E_NoNames⟩
  · exact⟨_,_,T.E_NoLine⟩
  · exact⟨_,_,T.E_NoHouse⟩
  · exact⟨_,_,T.E_NoProgram⟩
theorem row_info (T:Txt K mg A) {v u:V} {i:Nat} {r:Addr×Str×V} (h:(madeR A v u)[i]? =some r):∃j,(clsL A)[j]? =some r.1∧rowN[i]? =some j∧IsX K mg A r.1∧r.2.1∈flds∧Lo r.2.1∧r.2.1.length≤10∧(r.2.2=v∨r.2.2=u):=by
  rw[madeR_eq,List.getElem?_map] at h;obtain⟨x,hx,rfl⟩:=Option.map_eq_some_iff.mp h;have hm:=List.mem_of_getElem? hx;obtain⟨h27,hf⟩:=rowF_ok x hm;have hl:x.1<(clsL A).length:=h27;have e:(clsL A)[x.1]? =some ((clsL A).getD x.1 0):=by simp[List.getD_eq_getElem?_getD,hl]
  refine⟨x.1,e,by unfold rowN;rw[List.getElem?_map,hx];rfl,isx_all T _ (List.mem_of_getElem? e),hf,(rowF_lo x hm).1,(rowF_lo x hm).2,?_⟩;show(if x.2.2=true then v else u)=v∨_
  split
  · exact .inl rfl
  · exact .inr rfl
theorem Item.reads {H:Hp} {v:V} (i:Item H v):∃d,DatE H v d∧d.showable=true∧d.depth≤90∧d.shown.length≤sizeLine:=by
  obtain⟨d,h,g⟩:=i;exact⟨d,h,g.sh,Nat.le_trans g.dp (by decide),Nat.le_trans g.ln (by decide)⟩
theorem ok__law_bare_right (T:Txt K mg A):FnOk P w K mg base CX0 5 A.a__law_bare_right A.d__law_bare_right ["_law_box_here"] (spDraw 16 fun _ v _=>v= .bl true):=by
  refine T.I__law_bare_right.F.okN sc__law_bare_right ?_
  rintro cdv Ar outer s H vs Q E hr ⟨b,k,rfl,B,hk,q⟩
  have hL:sizeLine=16777216:=rfl;have hu:=hu_of hr;have hgd:=hr.gd;have hu1:_+100<cLine:=Nat.lt_of_le_of_lt (Nat.add_le_add_left (by decide:100≤16*4+200) _) (by have:=hr.un;omega);refine⟨_,(pssm_cons ⟨(pst 1 sc__law_bare_right.nd (pe_op op_add (pe_op op_sub (pcf (ok__law_take T) hr T.I__law_take pass0 (pa_cons (pv 0) (pa1 (pe_op op_pow pe_int pe_int)))) (pe_op op_pow pe_int pe_int)) pe_int))⟩ (pssm_cons (psm_set (i:=2) sc__law_bare_right.nd rfl (Or.inl rfl) (pem_lst (pam_cons (fun _ _=>rfl) (pv 1) (pam_cons (fun _ _=>rfl) (pcf (ok__law_text T) hr T.I__law_text pass0 (pa1 (pv 0))) (pam_cons (fun _ _=>rfl) pe_non (pam_cons (fun _ _=>rfl) pe_bl (pam_cons (fun _ _=>rfl) pe_bl (pam_cons (fun _ _=>rfl) (pe_tup pa_nil) (pam_cons (fun _ _=>rfl) (pe_tup (pa_cons pe_int (pa1 (pe_lst (pa1 pe_str))))) (pam_cons (fun _ _=>rfl) (pe_disp (pps_cons pe_str (pe_lst (pa1 pe_int)) pps_nil) rfl rfl (by simp) (by decide)) (pam_cons (fun _ _=>rfl) pe_int pam_nil)))))))))) (by kernel_rfl) (Or.inl rfl)) (pssm_cons ⟨(pst 3 sc__law_bare_right.nd (pix ix_list (pv 2) (pcf (ok__law_take T) hr T.I__law_take pass0 (pa_cons (pv 0) (pa1 pe_int)))))⟩ (pssm_cons ⟨(pfr (pi_list (pcf (ok__law_made T) hr T.I__law_made pass0 (pa_cons (pv 3) (pa1 (pix ix_list (pv 2) (pcf (ok__law_take T) hr T.I__law_take pass0 (pa_cons (pv 0) (pa1 pe_int)))))))) (pg_tup rfl (pgs_cons (pgn 4 sc__law_bare_right.nd) (pgs_cons (pgn 5 sc__law_bare_right.nd) (pgs_cons (pgn 6 sc__law_bare_right.nd) pgs_nil)))) (pss_one (ps_if (PW.pt (pw_or (pt_not (pt_val (pcf (ok__law_apart T) hr T.I__law_apart pass0 (pa_cons (pv 4) (pa1 (pcf (ok__law_number T) hr T.I__law_number pass0 (pa1 (pv 4)))))))) (pw_or1 (ptr op_ne (pcB (call_reprE hgd hu1 T.sm) T.z_repr Boot.«repr» (pa1 (pcf (ok__law_field T) hr T.I__law_field pass0 (pa_cons (pv 4) (pa1 (pv 5)))))) (pcB (call_reprE hgd hu1 T.sm) T.z_repr Boot.«repr» (pa1 (pv 6))))))) (pss_one (ps_ret pe_bl)) pss_nil)))⟩ (pssm_one ⟨(ps_ret pe_bl)⟩))))),?_⟩;refine⟨_,rfl,10,9,rfl,rfl,pw,b,_,k,rfl,B,by omega,by decide,by decide,fun r1 H1 r10 r11 B1 O1=> ?_⟩;refine⟨10,30,rfl,rfl,pw,r1,_,rfl,rfl,_,1,rfl,rfl,?_⟩;have e9:(10:Int) ^ Int.toNat 9=1000000000:=by decide
  rw[e9] at r11
  have far:(r1 - 10 ^ Int.toNat 30+1).natAbs<2 ^ 1900:=by
    have e30:(10:Int) ^ Int.toNat 30=1000000000000000000000000000000:=by decide
    have:(1000000000000000000000000000000:Nat)<2 ^ 1900:=Nat.lt_of_lt_of_le (by decide:1000000000000000000000000000000<2 ^ 100) (Nat.pow_le_pow_right (by decide) (by decide));rw[e30];omega
  dsimp only;generalize r1 - 10 ^ Int.toNat 30+1=far' at far;refine⟨_,rfl,_,rfl,b,_,rfl,B1,by omega,fun v2 H2 B2 K2 z2=> ?_⟩;obtain⟨x,rfl,xl,xo⟩:=z2;refine⟨(show 0≤sizeLine by decide),fun t1 n1=> ?_⟩;have s3:=Same.upd (o:= .tup []) n1;have e3:upd H2 t1 (.tup []) t1=some (.tup []):=upd_same;generalize upd H2 t1 (.tup [])=H3 at s3 e3;refine⟨(show 1≤sizeLine by decide),fun l1 n2=> ?_⟩;have s4:=Same.upd (o:= .lst [.str (Str.ofString "b")]) n2;have e4:upd H3 l1 (.lst [.str (Str.ofString "b")]) l1=some (.lst [.str (Str.ofString "b")]):=upd_same;generalize upd H3 l1 (.lst [.str (Str.ofString "b")])=H4 at s4 e4;refine⟨(show 2≤sizeLine by decide),fun t2 n3=> ?_⟩;have s5:=Same.upd (o:= .tup [.int 1,.ref l1]) n3;have e5:upd H4 t2 (.tup [.int 1,.ref l1]) t2=some (.tup [.int 1,.ref l1]):=upd_same;generalize upd H4 t2 (.tup [.int 1,.ref l1])=H5 at s5 e5;refine fun d1 n4=>⟨(show 1≤sizeLine by decide),fun l2 n5=> ?_⟩;have nd:l2≠d1:=fun z=>by rw[z,upd_same] at n5;cases n5
  have n5' :H5 l2=none:=by rw[upd_ne nd] at n5;exact n5
  refine⟨by rw[upd_ne nd.symm];exact upd_same,[(.inr (Str.ofString "d"),.ref l2)],rfl,(show 1≤15 by decide),?_⟩
  have s7:Same H5 (upd (upd (upd H5 d1 (.dK [])) l2 (.lst [.int 1])) d1 (.dK (mergeK [] [(.inr (Str.ofString "d"),.ref l2)]))):=fun c o e=>by
    rw[upd_ne (ne_of_none e n4),upd_ne (ne_of_none e n5'),upd_ne (ne_of_none e n4)];exact e
  have e7:upd (upd (upd H5 d1 (.dK [])) l2 (.lst [.int 1])) d1 (.dK (mergeK [] [(.inr (Str.ofString "d"),.ref l2)])) d1=some (.dK [(.inr (Str.ofString "d"),.ref l2)]):=upd_same;have f7:upd (upd (upd H5 d1 (.dK [])) l2 (.lst [.int 1])) d1 (.dK (mergeK [] [(.inr (Str.ofString "d"),.ref l2)])) l2=some (.lst [.int 1]):=by rw[upd_ne nd,upd_same]
  generalize upd (upd (upd H5 d1 (.dK [])) l2 (.lst [.int 1])) d1 (.dK (mergeK [] [(.inr (Str.ofString "d"),.ref l2)]))=H7 at s7 e7 f7;have B3:=B2.same s3;have B4:=B3.same s4;have B5:=B4.same s5;have B7:=B5.same s7
  have all:∀y∈[V.int far',.str x,.non,.bl true,.bl false,.ref t1,.ref t2,.ref d1,.int 0],Item (hide b H7) y:=by
    have a1:=hide_of (B2.ne n1) (((s4.trans s5).trans s7) _ _ e3);have a2:=hide_of (B3.ne n2) ((s5.trans s7) _ _ e4);have a3:=hide_of (B4.ne n3) (s7 _ _ e5);have a4:=hide_of (B5.ne n4) e7;have a5:=hide_of (B5.ne n5') f7;intro y hy;simp only[List.mem_cons,List.not_mem_nil,or_false] at hy;rcases hy with rfl|rfl|rfl|rfl|rfl|rfl|rfl|rfl|rfl
    · exact⟨_,.int _,good_int (log_le far)⟩
    · exact⟨_,.str _,good_str xo (by omega)⟩
    · exact⟨_,.non,good_non⟩
    · exact⟨_,.bl true,good_bl _⟩
    · exact⟨_,.bl false,good_bl _⟩
    · exact⟨_,.tup a1 .nil,good_t0⟩
    · exact⟨_,.tup a3 (.cons (.int 1) (.cons (.lst a2 (.cons (.str _) .nil)) .nil)),good_t2⟩
    · exact⟨_,.dct (D:=[(.str (Str.ofString "d"),.list [.int 1])]) a4 rfl (.cons (.lst a5 (.cons (.int 1) .nil)) .nil),good_d2⟩
    · exact⟨_,.int _,good_int (by decide)⟩
  refine⟨(show 9≤sizeLine by decide),fun ps n6=> ?_⟩;have el:[V.int far',.str x,.non,.bl true,.bl false,.ref t1,.ref t2,.ref d1,.int 0].length=9:=rfl;have s8:=Same.upd (o:= .lst [V.int far',.str x,.non,.bl true,.bl false,.ref t1,.ref t2,.ref d1,.int 0]) n6;have e8:upd H7 ps (.lst [V.int far',.str x,.non,.bl true,.bl false,.ref t1,.ref t2,.ref d1,.int 0]) ps=some (.lst [V.int far',.str x,.non,.bl true,.bl false,.ref t1,.ref t2,.ref d1,.int 0]):=upd_same;generalize upd H7 ps (.lst [V.int far',.str x,.non,.bl true,.bl false,.ref t1,.ref t2,.ref d1,.int 0])=H8 at s8 e8;generalize [V.int far',.str x,.non,.bl true,.bl false,.ref t1,.ref t2,.ref d1,.int 0]=xs at el e8 all;have B8:=B7.same s8;have hps:ps≠b:=B7.ne n6;refine⟨_,rfl,_,rfl,b,9,_,rfl,B8,by omega,by decide,by decide,fun i1 H9 i10 i11 B9 O9=> ?_⟩;have e9:H9 ps=some (.lst xs):=(O9 ps hps).trans e8;refine ix_any (fun v=>v∈xs) e9 i10 (by rw[el];exact i11) (fun x hx=>hx) fun v hv=> ?_;refine⟨_,rfl,_,rfl,_,rfl,b,9,_,rfl,B9,by omega,by decide,by decide,fun i2 Ha i20 i21 Ba Oa=> ?_⟩;have ea:Ha ps=some (.lst xs):=(Oa ps hps).trans e9;refine ix_any (fun v=>v∈xs) ea i20 (by rw[el];exact i21) (fun x hx=>hx) fun u hu' => ?_;have ka:Kept b H7 Ha:=(s8.kept.trans O9.kept).trans Oa.kept;have iv:Item Ha v:=((all v hv).same ka.hide).same (hide_sub b Ha);have iu:Item Ha u:=((all u hu').same ka.hide).same (hide_sub b Ha);have k0:Kept b H Ha:=(O1.kept.trans K2).trans ((((s3.trans s4).trans s5).trans s7).kept.trans ka);clear all hv hu';refine⟨v,u,rfl,fun l ys Hb sb nb eb R=> ?_⟩;have R:Rows (RowAt K Hb) ys (madeR A v u):=R;refine⟨l,rfl,⟨_,SqL.of eb⟩,?_⟩;refine for_list (K:=K) (a:=l) (xs:=ys) (fun i σ H' =>∃(x4 x5 x6:Option V),σ=[some (.ref b),some (.int far'),some (.ref ps),some v,x4,x5,x6]∧Same Hb H') ⟨_,_,_,rfl,Same.refl Hb⟩ ?_ ?_ ?_
  · rintro i σ H' _ ⟨x4,x5,x6,rfl,s'⟩
    exact SqL.of (s' _ _ eb)
  · rintro i y σ Hc hy ⟨x4,x5,x6,rfl,sc⟩
    have hi:i<(madeR A v u).length:=by rw[←R.1];exact(List.getElem?_eq_some_iff.mp hy).1
    have hr:(madeR A v u)[i]? =some (madeR A v u)[i]:=by simp
    have ra:=(R.2 i y _ hy hr).nl sc.nl;obtain⟨j,hj,_,hx,hf,_,_,hown⟩:=row_info T hr;generalize (madeR A v u)[i]=r at ra hj hx hf hown;obtain⟨C,f,own⟩:=r;obtain⟨t,e,rfl,ht,m⟩:=ra;refine⟨t,_,rfl,SqT.of ht,rfl,_,_,rfl,_,_,rfl,_,_,rfl,rfl,?_⟩;have mx:=m.exc
    have io:Item Hc own:=by
      rcases hown with z|z
      · rw[show own=v from z];exact iv.same (sb.trans sc)
      · rw[show own=u from z];exact iu.same (sb.trans sc)
    refine⟨_,rfl,_,rfl,e,C,rfl,mx,hx,.inl ⟨j,hj,fun H5 s5=> ?_⟩⟩;refine⟨e,C,j,rfl,hj,mx.same s5,hx,fun H6 s6=> ?_⟩;refine⟨_,rfl,iteF ?_⟩;obtain⟨d,hd,h1,h2,h3⟩:=(io.same (s5.trans s6)).reads;refine⟨_,rfl,_,rfl,e,C,f,own,rfl,hf,m.same (s5.trans s6),own,d,rfl,hd,h1,h2,h3,_,rfl,own,d,rfl,hd,h1,h2,h3,rfl,_,rfl,?_⟩;rw[ne_no];exact iteF ⟨_,_,_,rfl,sc.trans (s5.trans s6)⟩
  · rintro σ Hc ⟨x4,x5,x6,rfl,sc⟩
    exact q _ _ ((Ba.same (sb.trans sc)).mono (by omega)) (k0.trans (sb.trans sc).kept) rfl
end
end My
namespace My
open PySem L2 PyProof.Rows
theorem atI_last {α:Type} (xs:List α) (y:α):atI (xs++[y]) (-1)=some y:=by
  unfold atI ixN;rw[if_neg (by decide),List.length_append]
  have h: -(((xs.length+[y].length:Nat)):Int)≤ -1:=by
    show -((xs.length+1:Nat):Int)≤ -1;omega
  rw[if_pos h]
  have e:((-1:Int)+((xs.length+[y].length:Nat):Int)).toNat=xs.length:=by
    show((-1:Int)+((xs.length+1:Nat):Int)).toNat=xs.length;omega
  show((xs++[y])[((-1:Int)+((xs.length+[y].length:Nat):Int)).toNat]?)=some y;rw[e,List.getElem?_append_right (Nat.le_refl _),Nat.sub_self];rfl
theorem Kept.nlL {b:Addr} {xs:List V} {H H' :Hp} (B:H b=some (.lst xs)) (h:Kept b H H'):NL H H' :=fun c o n e=>
  h c o (fun z=>by rw[z,B] at e;cases e;exact n _ rfl) e
theorem ThingAt.to {b sl:Addr} {H H' :Hp} {v:V} (t:ThingAt b H v) (hs:H sl=none) (s:Same H H'):ThingAt sl H' v:=by
  obtain⟨p,H0,xs,e,h0,s0,n,hp,r⟩:=t;have s1:Same H0 H:=s0.trans (hide_sub b H);exact⟨p,H0,xs,e,h0,fun c o z=>hide_of (ne_of_none (s1 c o z) hs) (s c o (s1 c o z)),ne_of_none hp hs,s _ _ hp,r⟩
theorem items_dat {H:Hp}:∀{xs:List V},(∀x∈xs,Item H x)→∃ds,DatEs H xs ds∧(∀d∈ds,G3 d)∧ds.length=xs.length
  |[],_=>⟨[],.nil,fun d h=>(nomatch h),rfl⟩
  | x ::r,h=>by
    obtain⟨ds,h1,h2,h3⟩:=items_dat (xs:=r) fun y hy=>h y (List.mem_cons_of_mem _ hy);obtain⟨d,hd,g⟩:=h x List.mem_cons_self
    exact⟨d::ds,.cons hd h1,fun e he=>by
      rcases List.mem_cons.mp he with rfl|he
      · exact g
      · exact h2 e he,by simp[h3]⟩
theorem list_shown {H0 H:Hp} {p:Addr} {xs:List V} (s:Same H0 H) (hp:H p=some (.lst xs)) (hl:xs.length≤5) (h:∀x∈xs,Item H0 x):∃d,DatE H (.ref p) d∧d.showable=true∧d.depth≤90∧d.shown.length≤sizeLine:=by
  obtain⟨ds,h1,h2,h3⟩:=items_dat fun x hx=>(h x hx).same s;have g:=Good.list h2;have hL:sizeLine=16777216:=rfl;have:=g.ln;exact⟨_,.lst hp h1,g.sh,Nat.le_trans g.dp (by decide),by rw[h3] at this;omega⟩
theorem Same.of_kept{b:Addr}{H H1 H2:Hp}(h:H b=none)(s:Same H H1)(k:Kept b H1 H2):Same H H2:=fun c o e=>k c o (ne_of_none e h) (s c o e)
theorem _root_.L2.Exc.nl {H H' :Hp} {a C:Addr} (s:NL H H') (e:Exc H a C):Exc H' a C:=by
  obtain⟨φ,dd,n,h1,h2,h3⟩:=e;exact⟨φ,dd,n,s _ _ (fun _ z=>nomatch z) h1,h2,fun dx hx=>let⟨fs,q⟩:=h3 dx hx;⟨fs,s _ _ (fun _ z=>nomatch z) q⟩⟩
noncomputable def sN(ns:List Nat):List V:=ns.map fun(j:Nat)=>V.int (j:Int)
theorem sN_snoc(ns:List Nat)(j:Nat):sN ns++[V.int (j:Int)]=sN (ns++[j]):=by unfold sN;rw[List.map_append];rfl
theorem seen_27:(PyProof.Rows.firstMet (fun i=>((rowN++[5,25,26]).map fun j:Nat=>(j:Int)).getD i 0) ((rowN++[5,25,26]).map fun j:Nat=>(j:Int)).length).length=27:=by decide+kernel
section
variable{P:Program}{w:World}{K:PySem.W.Frag}{mg:Str→Option Value}{base:Heap}{A:Adr}
noncomputable def spLaw(K:PySem.W.Frag):Sp:=fun vs H Q _=>∃(a:Addr) (ns:List Int),vs=[.ref a]∧SqL K H a (ns.map V.int)∧ns.length≤63∧∀H',Q (.bl true) H'
theorem ok_law (T:Txt K mg A):FnOk P w K mg base CX0 12 A.a_law A.d_law ["_law_script"] (spLaw K):=by
  refine T.I_law.F.okI sc_law ?_
  rintro cdv Ar outer s H vs Q E hr ⟨a,ns,rfl,hS,hlen,q⟩
  have hL:sizeLine=16777216:=rfl;have hu:=hu_of hr;have hgd:=hr.gd;have hu1:_+100<cLine:=Nat.lt_of_le_of_lt (Nat.add_le_add_left (by decide:100≤16*11+200) _) (by have:=hr.un;omega);refine⟨_,(pss_cons (pfr (pi_range1 rfl T.z_range (pa1 (pcB (call_max2 rfl) T.z_max Boot.«max» (pa_cons pe_int (pa1 (pcB (call_min2 rfl) T.z_min Boot.«min» (pa_cons pe_int (pa1 (pcB call_len_seq T.z_len Boot.«len» (pa1 (pv 0))))))))))) (pgn 1 sc_law.nd) (pss_cons (pst 2 sc_law.nd (pcf (ok__law_box T) hr T.I__law_box pass0 (pa1 (pcf (ok__law_cell T) hr T.I__law_cell pass0 (pa_cons (pv 0) (pa1 (pv 1))))))) (pss_cons (pst 3 sc_law.nd (pcf (ok__law_thing T) hr T.I__law_thing pass0 (pa1 (pv 2)))) (pss_cons (pst 4 sc_law.nd (pcf (ok__law_thing T) hr T.I__law_thing pass0 (pa1 (pv 2)))) (pss_cons (ps_if (PW.pt (pw_or (pt_not (pt_val (pcf (ok__law_plain_right T) hr T.I__law_plain_right pass0 (pa1 (pv 2))))) (pw_or1 (pt_not (pt_val (pcf (ok__law_bare_right T) hr T.I__law_bare_right pass0 (pa1 (pv 2)))))))) (pss_one (ps_ret pe_bl)) pss_nil) (pss_cons (pst 5 sc_law.nd (pe_lst pa_nil)) (pss_cons (pfr (pi_list (pcf (ok__law_made T) hr T.I__law_made pass0 (pa_cons (pv 3) (pa1 (pv 4))))) (pg_tup rfl (pgs_cons (pgn 6 sc_law.nd) (pgs_cons (pgn 7 sc_law.nd) (pgs_cons (pgn 8 sc_law.nd) pgs_nil)))) (pss_cons (ps_expr (pe_bm PySem.F.plainAttrs_list PySem.F.slot_list_append PySem.F.type_list_append mt_append (pv 5) (pa1 (pcf (ok__law_number T) hr T.I__law_number pass0 (pa1 (pv 6)))))) (pss_cons (ps_if (PW.pt (pw_or (pt_not (pt_val (pcf (ok__law_apart T) hr T.I__law_apart pass0 (pa_cons (pv 6) (pa1 (pix ix_list (pv 5) (pe_un un_neg pe_int))))))) (pw_or1 (ptr op_ne (pcB (call_reprE hgd hu1 T.sm) T.z_repr Boot.«repr» (pa1 (pcf (ok__law_field T) hr T.I__law_field pass0 (pa_cons (pv 6) (pa1 (pv 7)))))) (pcB (call_reprE hgd hu1 T.sm) T.z_repr Boot.«repr» (pa1 (pv 8))))))) (pss_one (ps_ret pe_bl)) pss_nil) (pss_cons (ps_expr (pe_bm PySem.F.plainAttrs_list PySem.F.slot_list_append PySem.F.type_list_append mt_append (pv 8) (pa1 (pv 7)))) (pss_cons (ps_if (ptr op_ne (pcB (call_reprE hgd hu1 T.sm) T.z_repr Boot.«repr» (pa1 (pcf (ok__law_field T) hr T.I__law_field pass0 (pa_cons (pv 6) (pa1 (pv 7)))))) (pcB (call_reprE hgd hu1 T.sm) T.z_repr Boot.«repr» (pa1 (pv 8)))) (pss_one (ps_ret pe_bl)) pss_nil) (pss_cons (ps_expr (pe_bm0 PySem.F.plainAttrs_list PySem.F.slot_list_pop PySem.F.type_list_pop mt_pop (pv 8))) (pss_one (ps_if (ptr op_ne (pcB (call_reprE hgd hu1 T.sm) T.z_repr Boot.«repr» (pa1 (pcf (ok__law_field T) hr T.I__law_field pass0 (pa_cons (pv 6) (pa1 (pv 7)))))) (pcB (call_reprE hgd hu1 T.sm) T.z_repr Boot.«repr» (pa1 (pv 8)))) (pss_one (ps_ret pe_bl)) pss_nil)))))))) (pss_cons (pfr (pi_list (pe_lst (pa_cons (pxm0 T.E_Ground T.I_Ground___init__ (ok_Ground___init__ T) hr) (pa_cons (pxm0 T.E_NoHouse T.I_NoHouse___init__ (ok_NoHouse___init__ T) hr) (pa1 (pxm0 T.E_NoProgram T.I_NoProgram___init__ (ok_NoProgram___init__ T) hr)))))) (pgn 6 sc_law.nd) (pss_cons (ps_expr (pe_bm PySem.F.plainAttrs_list PySem.F.slot_list_append PySem.F.type_list_append mt_append (pv 5) (pa1 (pcf (ok__law_number T) hr T.I__law_number pass0 (pa1 (pv 6)))))) (pss_one (ps_if (pt_not (pt_val (pcf (ok__law_apart T) hr T.I__law_apart pass0 (pa_cons (pv 6) (pa1 (pix ix_list (pv 5) (pe_un un_neg pe_int))))))) (pss_one (ps_ret pe_bl)) pss_nil)))) (pss_one (ps_if (ptr op_ne (pcB call_len_set1 T.z_len Boot.«len» (pa1 (pcT (call_set1 rfl) T.z_set Boot.«set» (pa1 (pv 5))))) pe_int) (pss_one (ps_ret pe_bl)) pss_nil)))))))))) (pss_one (ps_ret pe_bl))),?_⟩;refine⟨_,rfl,a,_,rfl,.inl hS,8,_,rfl,2,_,rfl,?_⟩;generalize hn:(if(if((List.map V.int ns).length:Int)<8 then((List.map V.int ns).length:Int) else 8)>2 then(if((List.map V.int ns).length:Int)<8 then((List.map V.int ns).length:Int) else 8) else 2)=n
  have nn:0≤n∧n≤8:=by
    rw[←hn]
    split<;>split<;>omega
  refine⟨n,rfl,by omega,by omega,?_⟩;refine for_range (lo:=0) (n:=n.toNat) (fun i σ H' =>∃(x1 x2 x3 x4 x5 x6 x7 x8:Option V),σ=[some (.ref a),x1,x2,x3,x4,x5,x6,x7,x8]∧Same H H') ⟨_,_,_,_,_,_,_,_,rfl,Same.refl H⟩ ?_ ?_
  · rintro i σ H1 hi ⟨x1,x2,x3,x4,x5,x6,x7,x8,rfl,s1⟩
    refine⟨_,rfl,_,rfl,a,ns,_,rfl,s1.seq hS,by omega,by omega,fun c=>⟨c,rfl,fun b H2 hb B2 s2=> ?_⟩⟩;refine⟨_,rfl,b,_,rfl,B2,by omega,fun vt H3 B3 K3 z3=> ?_⟩;refine⟨_,rfl,b,_,rfl,B3,by omega,fun vm H4 B4 K4 z4=> ?_⟩;refine⟨_,rfl,b,_,rfl,B4,by omega,fun v5 H5 B5 K5 z5=> ?_⟩;subst z5;refine⟨_,rfl,iteF ?_⟩;refine⟨_,rfl,b,_,rfl,B5,by omega,fun v6 H6 B6 K6 z6=> ?_⟩;subst z6;refine⟨_,rfl,iteF ?_⟩;have z3:=z3.kept ((K4.trans K5).trans K6);have z4:=z4.kept (K5.trans K6);refine⟨(show 0≤sizeLine by decide),fun sl hsl=> ?_⟩;have s7:=Same.upd (o:= .lst []) hsl;have e7:upd H6 sl (.lst []) sl=some (.lst (sN [])):=upd_same;generalize upd H6 sl (.lst [])=H7 at s7 e7;have z3:=z3.to hsl s7;have z4:=z4.to hsl s7;refine⟨_,rfl,_,rfl,vt,vm,rfl,fun l ys Hb sb nb eb R=> ?_⟩;have R:Rows (RowAt K Hb) ys (madeR A vt vm):=R;have z3:=z3.kept (sb.kept);have z4:=z4.kept (sb.kept);have hlsl:l≠sl:=fun z=>by rw[z,e7] at nb;cases nb
    have eb0:Hb sl=some (.lst (sN [])):=sb _ _ e7;have Sb:Same H Hb:=(Same.of_kept hb s2 (((K3.trans K4).trans K5).trans K6) |> s1.trans).trans (s7.trans sb);have nsl:H sl=none:=(Same.of_kept hb s2 (((K3.trans K4).trans K5).trans K6) |> s1.trans).free hsl;refine⟨l,rfl,⟨_,SqL.of eb⟩,?_⟩;refine for_list (K:=K) (a:=l) (xs:=ys) (fun i σ H' =>∃(y1 y6 y7 y8:Option V),σ=[some (.ref a),y1,some (.ref b),some vt,some vm,some (.ref sl),y6,y7,y8]∧Kept sl Hb H'∧H' sl=some (.lst (sN (rowN.take i)))) ⟨_,_,_,_,rfl,Kept.refl _ _,eb0⟩ ?_ ?_ ?_
    · rintro i σ H' _ ⟨y1,y6,y7,y8,rfl,k',_⟩
      exact SqL.of (k' _ _ hlsl eb)
    · rintro i y σ Hc hy ⟨y1,y6,y7,y8,rfl,kc,ec⟩
      have hi:i<(madeR A vt vm).length:=by rw[←R.1];exact(List.getElem?_eq_some_iff.mp hy).1
      have hr:(madeR A vt vm)[i]? =some (madeR A vt vm)[i]:=by simp
      have ra:=(R.2 i y _ hy hr).nl (kc.nlL eb0);obtain⟨j,hj,hN,hx,hf,hlo,hfl,hown⟩:=row_info T hr;generalize (madeR A vt vm)[i]=r at ra hj hx hf hlo hfl hown;obtain⟨C,f,own⟩:=r;obtain⟨t,e,rfl,ht,m⟩:=ra
      have zo:ThingAt sl Hc own:=by
        rcases hown with z|z
        · rw[show own=vt from z];exact z3.kept kc
        · rw[show own=vm from z];exact z4.kept kc
      refine⟨t,_,rfl,SqT.of ht,rfl,_,_,rfl,_,_,rfl,_,_,rfl,rfl,?_⟩;have mx:=m.exc;refine⟨_,rfl,.inl ⟨rfl,_,SqL.of ec⟩,_,rfl,e,C,rfl,mx,hx,.inl ⟨j,hj,fun H8 s8=> ?_⟩⟩;have hil:i<26:=hi;have ec8:=s8 _ _ ec;have m8:=m.same s8;have zo:=zo.kept s8.kept
      have hsl' :(sN (rowN.take i)).length<sizeLine:=by
        unfold sN;rw[List.length_map,List.length_take];omega
      refine⟨sl,_,_,rfl,rfl,ec8,hsl',?_⟩;have n9:NL H8 (upd H8 sl (.lst (sN (rowN.take i)++[V.int (j:Int)]))):=NL.upd ec8;have k9:Kept sl H8 (upd H8 sl (.lst (sN (rowN.take i)++[V.int (j:Int)]))):=Only.upd.kept;have e9:upd H8 sl (.lst (sN (rowN.take i)++[V.int (j:Int)])) sl=some (.lst (sN (rowN.take i)++[V.int (j:Int)])):=upd_same;generalize upd H8 sl (.lst (sN (rowN.take i)++[V.int (j:Int)]))=H9 at n9 k9 e9;have m9:=m8.nl n9;have zo:=zo.kept k9;refine⟨_,rfl,_,rfl,1,rfl,sl,_,_,_,rfl,rfl,SqL.of e9,atI_last _ _,e,C,j,rfl,hj,m9.exc,hx,fun H10 s10=>⟨_,rfl,iteF ?_⟩⟩;have m10:=m9.same s10;obtain⟨p,H0,xs,hpo,h0,s0,npl,hp,hxl,hit⟩:=zo.kept s10.kept;have hpo:own= .ref p:=hpo;subst hpo;have s0:Same H0 H10:=s0.trans (hide_sub sl H10);obtain⟨d,hd,h1,h2,h3⟩:=list_shown s0 hp (by omega) hit;refine⟨_,rfl,_,rfl,e,C,f,.ref p,rfl,hf,m10,_,d,rfl,hd,h1,h2,h3,_,rfl,_,d,rfl,hd,h1,h2,h3,rfl,_,rfl,?_⟩;rw[ne_no];refine iteF ?_;refine⟨_,rfl,.inl ⟨rfl,_,SqL.of hp⟩,_,rfl,p,xs,_,rfl,rfl,hp,by omega,?_⟩;have s11:Same H0 (upd H10 p (.lst (xs++[.str f]))):=fun c o z=>by rw[upd_ne (ne_of_none z h0)];exact s0 c o z
      have m11:MadeAt K (upd H10 p (.lst (xs++[.str f]))) e C f (.ref p):=m10.nl (NL.upd hp)
      obtain⟨d2,hd2,k1,k2,k3⟩:=list_shown s11 upd_same (xs:=xs++[.str f]) (by rw[List.length_append];show xs.length+1≤5;omega) (fun x hx=>by
        rcases List.mem_append.mp hx with hx|hx
        · exact hit x hx
        · rw[List.mem_singleton.mp hx]
          exact⟨_,.str _,good_str hlo (Nat.le_trans hfl (by decide))⟩)
      refine⟨_,rfl,_,rfl,e,C,f,.ref p,rfl,hf,m11,_,d2,rfl,hd2,k1,k2,k3,_,rfl,_,d2,rfl,hd2,k1,k2,k3,rfl,_,rfl,?_⟩;rw[ne_no];refine iteF ?_;refine⟨_,rfl,.inl ⟨rfl,_,SqL.of upd_same⟩,p,xs++[.str f],.str f,rfl,rfl,upd_same,by simp,?_⟩;rw[List.dropLast_concat,upd_upd,upd_self hp];refine⟨_,rfl,_,rfl,e,C,f,.ref p,rfl,hf,m10,_,d,rfl,hd,h1,h2,h3,_,rfl,_,d,rfl,hd,h1,h2,h3,rfl,_,rfl,?_⟩;rw[ne_no];refine iteF ⟨_,_,_,_,rfl,((kc.trans s8.kept).trans k9).trans s10.kept,?_⟩;rw[s10 _ _ e9,sN_snoc,List.take_add_one,hN];rfl
    · rintro σ Hc ⟨y1,y6,y7,y8,rfl,kc,ec⟩
      rw[R.1,madeR_eq,List.length_map,rowF_len] at ec;have ec:Hc sl=some (.lst (sN rowN)):=ec;refine fun a1 n1=>⟨a1,rfl,upd_same,rfl,fun a2 n2=>⟨a2,rfl,upd_same,rfl,fun a3 n3=>⟨a3,rfl,upd_same,rfl,(show 3≤sizeLine by decide),fun p np=> ?_⟩⟩⟩;have t1:=Same.upd (o:= .ext (excP a1 A.a_Ground none true)) n1;have d1:upd Hc a1 (.ext (excP a1 A.a_Ground none true)) a1=some (.ext (excP a1 A.a_Ground none true)):=upd_same;generalize upd Hc a1 (.ext (excP a1 A.a_Ground none true))=Hd at t1 d1 n2 n3 np;have t2:=Same.upd (o:= .ext (excP a2 A.a_NoHouse none true)) n2;have d2:upd Hd a2 (.ext (excP a2 A.a_NoHouse none true)) a2=some (.ext (excP a2 A.a_NoHouse none true)):=upd_same;generalize upd Hd a2 (.ext (excP a2 A.a_NoHouse none true))=He at t2 d2 n3 np;have t3:=Same.upd (o:= .ext (excP a3 A.a_NoProgram none true)) n3;have d3:upd He a3 (.ext (excP a3 A.a_NoProgram none true)) a3=some (.ext (excP a3 A.a_NoProgram none true)):=upd_same;generalize upd He a3 (.ext (excP a3 A.a_NoProgram none true))=Hf at t3 d3 np;have t4:=Same.upd (o:= .lst [.ref a1,.ref a2,.ref a3]) np;have d4:upd Hf p (.lst [.ref a1,.ref a2,.ref a3]) p=some (.lst [.ref a1,.ref a2,.ref a3]):=upd_same;generalize upd Hf p (.lst [.ref a1,.ref a2,.ref a3])=Hg at t4 d4;have t03:=(t1.trans t2).trans t3;have t3:=t3.trans t4;have t2:=t2.trans t3;have t1:=t1.trans t2;have eg:=t1 _ _ ec
      have hpsl:p≠sl:=fun z=>by
        have:=t03 _ _ ec;rw[←z,np] at this;cases this
      have ex:∀{a C:Addr},Hg a=some (.ext (excP a C none true))→Exc Hg a C:=fun{a C} h=>⟨_,none,true,h,fun _ z=>z,fun _ z=>nomatch z⟩
      have R3:Rows (fun x (j:Nat)=>∃a C,x= .ref a∧Exc Hg a C∧(clsL A)[j]? =some C) [.ref a1,.ref a2,.ref a3] [5,25,26]:=
        Rows.cons ⟨a1,_,rfl,ex (t2 _ _ d1),rfl⟩ (Rows.cons ⟨a2,_,rfl,ex (t3 _ _ d2),rfl⟩ (Rows.cons ⟨a3,_,rfl,ex (t4 _ _ d3),rfl⟩ Rows.nil))
      refine⟨p,rfl,⟨_,SqL.of d4⟩,?_⟩;refine for_list (K:=K) (a:=p) (xs:=[.ref a1,.ref a2,.ref a3]) (fun i σ H' =>∃(y1 y6 y7 y8:Option V),σ=[some (.ref a),y1,some (.ref b),some vt,some vm,some (.ref sl),y6,y7,y8]∧Kept sl Hg H'∧H' sl=some (.lst (sN (rowN++[5,25,26].take i)))) ⟨_,_,_,_,rfl,Kept.refl _ _,by rw[eg];rfl⟩ ?_ ?_ ?_
      · rintro i σ H' _ ⟨y1,y6,y7,y8,rfl,k',_⟩
        exact SqL.of (k' _ _ hpsl d4)
      · rintro i y σ Hh hy ⟨y1,y6,y7,y8,rfl,kh,eh⟩
        have hi:i<3:=(List.getElem?_eq_some_iff.mp hy).1;have hj:[5,25,26][i]? =some ([5,25,26][i]'hi):=by simp
        obtain⟨e,C,rfl,he,hC⟩:=R3.2 i y _ hy hj;generalize [5,25,26][i]'hi=j at hj hC;have he:=he.nl (kh.nlL eg);have hx:=isx_all T C (List.mem_of_getElem? hC);refine⟨_,rfl,.inl ⟨rfl,_,SqL.of eh⟩,_,rfl,e,C,rfl,he,hx,.inl ⟨j,hC,fun H8 s8=> ?_⟩⟩;have eh8:=s8 _ _ eh
        have hsl' :(sN (rowN++[5,25,26].take i)).length<sizeLine:=by
          have:rowN.length=26:=rfl;unfold sN;rw[List.length_map,List.length_append,List.length_take,this];omega
        refine⟨sl,_,_,rfl,rfl,eh8,hsl',?_⟩;have n9:NL H8 (upd H8 sl (.lst (sN (rowN++[5,25,26].take i)++[V.int (j:Int)]))):=NL.upd eh8;have k9:Kept sl H8 (upd H8 sl (.lst (sN (rowN++[5,25,26].take i)++[V.int (j:Int)]))):=Only.upd.kept;have e9:upd H8 sl (.lst (sN (rowN++[5,25,26].take i)++[V.int (j:Int)])) sl=some (.lst (sN (rowN++[5,25,26].take i)++[V.int (j:Int)])):=upd_same;generalize upd H8 sl (.lst (sN (rowN++[5,25,26].take i)++[V.int (j:Int)]))=H9 at n9 k9 e9;refine⟨_,rfl,_,rfl,1,rfl,sl,_,_,_,rfl,rfl,SqL.of e9,atI_last _ _,e,C,j,rfl,hC,(he.same s8).nl n9,hx,fun H10 s10=>⟨_,rfl,iteF ?_⟩⟩;refine⟨_,_,_,_,rfl,((kh.trans s8.kept).trans k9).trans s10.kept,?_⟩;rw[s10 _ _ e9,sN_snoc,List.take_add_one,hj,List.append_assoc];rfl
      · rintro σ Hh ⟨y1,y6,y7,y8,rfl,kh,eh⟩
        have eh:Hh sl=some (.lst (((rowN++[5,25,26]).map fun(j:Nat)=>(j:Int)).map V.int)):=eh;refine⟨_,rfl,sl,_,rfl,eh,by decide,fun q' S nq=>⟨q',S,_,rfl,upd_same,rfl,_,rfl,?_⟩⟩;rw[seen_27,show(!decide (V.int ((27:Nat):Int)=V.int 27))=false from rfl];have kk:Kept sl Hb (upd Hh q' (.set S 27)):=((kc.trans t1.kept).trans kh).trans (Same.upd nq).kept;exact iteF ⟨_,_,_,_,_,_,_,_,rfl,Same.of_kept nsl Sb kk⟩
  · rintro σ H' ⟨x1,x2,x3,x4,x5,x6,x7,x8,rfl,s'⟩
    exact q _
end
end My
namespace My
open PySem L2 PyProof.Rows
end My
namespace My
open PySem L2 PyProof.Rows
theorem walk {l:PySem.W.OpenLaw} {q:Program} {loose:List Str} {XP:(Str→Option Value)→Heap→Prop} {YP:World→Heap→Prop} {d:DefRec} {K:Params→PySem.W.Frag} (hn:l.most=some 63) (hdf:d.params.defaults=[])
    (hY:∀(w:World) (h:Heap),YP w h→(K w.params).In h)
    (F:∀(w:World) (mg:Str→Option Value) (fa:Addr) (h:Heap),(K w.params).In h→h.Ns mainGlobals mg→mg d.name=some (.ref fa)→
      ∃fd:FuncData,(∀(s:Shared) (u:Value),BindsTo s fd ⟨[u],[]⟩ [("_law_script",u)])∧∀base:Heap,(K w.params).In base→base.Ns mainGlobals mg→FnOk l.prog w (K w.params) mg base CX0 12 fa fd ["_law_script"] (spLaw (K w.params))):
    PySem.W.WalkO q loose XP YP l.row.toRowW d [] (fun f vs=>PySem.call f vs):=
  L2.walk_of (n:=63) (k:=12) (x:="_law_script") (CX:=fun _=>CX0) (sp:=fun w=>spLaw (K w.params)) hn (by decide) hdf ⟨rfl,by decide,by decide,rfl⟩ hY F (fun _ _ a ns hl _ hS=>⟨a,ns,rfl,hS,hl,fun _=>rfl⟩) fun _ _ _ _ _ z=>z
theorem law_mk {l:PySem.W.OpenLaw} {w:World} {K:PySem.W.Frag} {h:Heap} {mg:Str→Option Value} {fa:Addr} (X:K.In h) (G:h.Ns mainGlobals mg) (hfa:mg "law"=some (.ref fa)) (hT:∃A:Adr,Txt K mg A):
    ∃fd:FuncData,(∀(s:Shared) (u:Value),BindsTo s fd ⟨[u],[]⟩ [("_law_script",u)])∧∀base:Heap,K.In base→base.Ns mainGlobals mg→FnOk l.prog w K mg base CX0 12 fa fd ["_law_script"] (spLaw K):=by
  obtain⟨A,T⟩:=hT;have e:=hfa.symm.trans T.I_law.m;cases e;exact⟨A.d_law,T.B_law,fun base _ _=>ok_law T⟩
section
open PySem.W
variable{K:Frag}{h:Heap}{mg:Str→Option Value}{x q:Str}{st:Stmt}{ps:List Str}{f C:Addr}{oc kV dc pm cd ct:Value}{od an:Option Addr}{sl:Array (Option Value)}
theorem bn1{P:List Value→Prop}(h:∀a,P [a]):∀us:List Value,us.length=1→P us:=fun us hl=>match us,hl with|[_],_=>h _
theorem bn2{P:List Value→Prop}(h:∀a b,P [a,b]):∀us:List Value,us.length=2→P us:=fun us hl=>match us,hl with|[_,_],_=>h _ _
theorem bn3{P:List Value→Prop}(h:∀a b c,P [a,b,c]):∀us:List Value,us.length=3→P us:=fun us hl=>match us,hl with|[_,_,_],_=>h _ _ _
theorem bn4{P:List Value→Prop}(h:∀a b c d,P [a,b,c,d]):∀us:List Value,us.length=4→P us:=fun us hl=>match us,hl with|[_,_,_,_],_=>h _ _ _ _
noncomputable abbrev fS(n q:Str)(s:Stmt)(kV dc pm:Value)(an:Option Addr)(cd ct:Value):FuncData:=fnOf n q (defArgs s) (defBody s) (defScope s) .none kV dc pm an cd ct
theorem fi_mk (X:K.In h) (G:h.Ns mainGlobals mg) (a:nsIn K mainGlobals x=some (some (.ref f))) (l:K.lookup f=some ⟨oc,od,.func (fS x x st kV dc pm an cd ct),sl⟩) (c:codeIn K cd x=true) (k:keepIn K (.ref f)=true)
    (b:∀kV dc pm an cd ct (us:List Value),us.length=ps.length→bindArgs (fS x x st kV dc pm an cd ct) ⟨us,[]⟩=pure (ps.zip us)):FI K mg x st ps f (fS x x st kV dc pm an cd ct):=⟨mg_of X G a,fun_mk (st:=st) l c k,(fun_mk (st:=st) l c k).binds b⟩
theorem mi_mk (a:findIn K (.ref C) x=some (some (.ref f))) (i:isFn K (.ref f)=true) (l:K.lookup f=some ⟨oc,od,.func (fS x q st kV dc pm an cd ct),sl⟩) (c:codeIn K cd q=true) (k:keepIn K (.ref f)=true)
    (b:∀kV dc pm an cd ct (us:List Value),us.length=ps.length→bindArgs (fS x q st kV dc pm an cd ct) ⟨us,[]⟩=pure (ps.zip us)):MI K C x q st ps f (fS x q st kV dc pm an cd ct):=⟨⟨a,i,k⟩,fun_mk (st:=st) l c k,(fun_mk (st:=st) l c k).binds b⟩
theorem xi_mk {nm q' :Str} {N R:Addr} {bs:List Value} {sn:List Str} {sub:List Value} {ab:Bool} {col:Option Bool} {dd:Option Addr} {k0 k1 k2 k3 k5:Option Value} (X:K.In h) (G:h.Ns mainGlobals mg) (a:nsIn K mainGlobals x=some (some (.ref C)))
    (l:K.lookup C=some (excClassObj nm q' C N bs [.ref R,.type "ValueError",.type "Exception",.type "BaseException",.type "object"] true sn sub ab col dd k0 k1 k2 k3 k5 "ValueError.__new__")) (i:findIn K (.ref C) "__init__"=some (some (.ref f))) (ty:typeIn K (.ref f)=some (.type "function")) (kp:keepIn K (.ref C)=true)
    (sa:findIn K (.ref C) "__setattr__"=some (some (.builtin "object.__setattr__"))) (ga:findIn K (.ref C) "__getattribute__"=some (some (.builtin "BaseException.__getattribute__"))) (hk:findIn K (.ref C) "__getattr__"=some none) (mr:mroIn K C (.type "BaseException")=some true) (hd:hasDictIn K C=true)
    (ca:findIn K (.ref C) "__class__"=some (some (.builtin "object.__class__"))) (gt:specialIn K (.builtin "object.__class__") "__get__"=some (some (.builtin "getset_descriptor.__get__"))) (tk:takesIn K (.builtin "object.__class__")=some true) (mo:mroIn K C (.type "object")=some true) (tt:typeIn K (.ref C)=some (.type "type")) (ve:mroIn K C (.type "ValueError")=some true):XI K mg x C f R:=
  ⟨mg_of X G a,⟨⟨nm,q',N,bs,_,true,sn,sub,ab,col,dd,k0,k1,k2,k3,k5,l,rfl,rfl,rfl,rfl⟩,i,ty,kp⟩,⟨⟨nm,q',N,bs,_,sn,sub,ab,col,dd,k0,k1,k2,k3,k5,l,(by intro self;(repeat rw[refuseLoop_ref]);exact L2.refuse_value self),rfl⟩,sa⟩,⟨⟨ga,hk,mr,hd⟩,ca,gt,tk,mo⟩,tt,mi_of l,ve⟩
theorem xi_mk0 {nm q' :Str} {N:Addr} {bs:List Value} {sn:List Str} {sub:List Value} {ab:Bool} {col:Option Bool} {dd:Option Addr} {k0 k1 k2 k3 k5:Option Value} (X:K.In h) (G:h.Ns mainGlobals mg) (a:nsIn K mainGlobals x=some (some (.ref C)))
    (l:K.lookup C=some (excClassObj nm q' C N bs [.type "ValueError",.type "Exception",.type "BaseException",.type "object"] true sn sub ab col dd k0 k1 k2 k3 k5 "ValueError.__new__")) (i:findIn K (.ref C) "__init__"=some (some (.ref f))) (ty:typeIn K (.ref f)=some (.type "function")) (kp:keepIn K (.ref C)=true)
    (sa:findIn K (.ref C) "__setattr__"=some (some (.builtin "object.__setattr__"))) (ga:findIn K (.ref C) "__getattribute__"=some (some (.builtin "BaseException.__getattribute__"))) (hk:findIn K (.ref C) "__getattr__"=some none) (mr:mroIn K C (.type "BaseException")=some true) (hd:hasDictIn K C=true)
    (ca:findIn K (.ref C) "__class__"=some (some (.builtin "object.__class__"))) (gt:specialIn K (.builtin "object.__class__") "__get__"=some (some (.builtin "getset_descriptor.__get__"))) (tk:takesIn K (.builtin "object.__class__")=some true) (mo:mroIn K C (.type "object")=some true) (tt:typeIn K (.ref C)=some (.type "type")) (ve:mroIn K C (.type "ValueError")=some true):XI K mg x C f C:=
  ⟨mg_of X G a,⟨⟨nm,q',N,bs,_,true,sn,sub,ab,col,dd,k0,k1,k2,k3,k5,l,rfl,rfl,rfl,rfl⟩,i,ty,kp⟩,⟨⟨nm,q',N,bs,_,sn,sub,ab,col,dd,k0,k1,k2,k3,k5,l,(by intro self;(repeat rw[refuseLoop_ref]);exact L2.refuse_value self),rfl⟩,sa⟩,⟨⟨ga,hk,mr,hd⟩,ca,gt,tk,mo⟩,tt,mi_of0 l,ve⟩
theorem sm_mk{oc:Value}{od:Option Addr}{dt:Data}{sl:Array (Option Value)}(l:K.lookup sysModules=some ⟨oc,od,dt,sl⟩)(e:oc= .type "dict"):∃o,K.lookup sysModules=some o∧o.cls= .type "dict":=⟨_,l,e⟩
theorem ci_mk{n:Int}{t:Tok}(X:K.In h)(G:h.Ns mainGlobals mg)(a:nsIn K mainGlobals x=some (some (.int n t))):∃u,RelV (.int n) u∧mg x=some u:=⟨_,⟨_,rfl⟩,mg_of X G a⟩
theorem cs_mk{n:Str}{t:Tok}(X:K.In h)(G:h.Ns mainGlobals mg)(a:nsIn K mainGlobals x=some (some (.str n t))):∃u,RelV (.str n) u∧mg x=some u:=⟨_,⟨_,rfl⟩,mg_of X G a⟩
end
theorem adr_ex{K:PySem.W.Frag}{mg:Str→Option Value}{f0 f1 f2 f3 f4 f5 f6 f7 f8 f9 f10 f11 f12 f13 f14 f15 f16 f17 f18 f19 f20 f21 f22 f23 f24 f25 f26 f27 f28 f29 f30 f31 f32 f33 f34 f35 f36 f37 f38 f39 f40 f41 f42 f43 f44 f45 f46 f47 f48 f49 f50 f51 f52 f53 f54 f55 f56 f57 f58 f59 f60 f61 f62 f63 f64 f65 f66 f67 f68:Addr}{d0 d1 d2 d3 d4 d5 d6 d7 d8 d9 d10 d11 d12 d13 d14 d15 d16 d17 d18 d19 d20 d21 d22 d23 d24 d25 d26 d27 d28 d29 d30 d31 d32 d33 d34 d35 d36 d37 d38 d39 d40:FuncData}(T:Txt K mg ⟨f0,f1,f2,f3,f4,f5,f6,f7,f8,f9,f10,f11,f12,f13,f14,f15,f16,f17,f18,f19,f20,f21,f22,f23,f24,f25,f26,f27,f28,f29,f30,f31,f32,f33,f34,f35,f36,f37,f38,f39,f40,f41,f42,f43,f44,f45,f46,f47,f48,f49,f50,f51,f52,f53,f54,f55,f56,f57,f58,f59,f60,f61,f62,f63,f64,f65,f66,f67,f68,d0,d1,d2,d3,d4,d5,d6,d7,d8,d9,d10,d11,d12,d13,d14,d15,d16,d17,d18,d19,d20,d21,d22,d23,d24,d25,d26,d27,d28,d29,d30,d31,d32,d33,d34,d35,d36,d37,d38,d39,d40⟩):∃A:Adr,Txt K mg A:=⟨_,T⟩
end My
open PySem PySem.W PyProof.Rows
set_option maxRecDepth 100000 in
set_option maxHeartbeats 0 in
theorem PySem.Challenge.cw_framerooms_k03_refusals_apart_holds : PySem.Challenge.rw_framerooms_k03_refusals_apart.Holds := by
  w_on
  refine holds_law My.hdSaid fun said=> ?_;refine holds_open (q:=My.hdView) (loose:=[]) (Xt:=fun s=>xlAt My.hdView [] s&&recOk (RowW.records PySem.Challenge.rw_framerooms_k03_refusals_apart.row.toRowW) s) (XP:=XL My.hdView []) (Yf:=My.hdHook.obs) (Ya:=My.hdHook.val) (YP:=Hook.says (kHook My.hdHeap My.hdAs My.hdAs_ok)) My.hdLeft My.hdHook.of My.hdHook.keeps (fun s e=>xl_of s (Bool.and_eq_true_iff.mp e).1) XL.keeps (by rfl) (by rfl) (by rfl) (fun s e=>recFacts_of (Bool.and_eq_true_iff.mp e).2) (by rfl) said (by decide+kernel) ⟨rfl,rfl,rfl,rfl,rfl,by decide+kernel⟩ ?hw ?hc
  case hw=>w_witness2
  k_fill
  refine My.walk (l:=PySem.Challenge.rw_framerooms_k03_refusals_apart) rfl rfl (fun w h Y=>PySem.W.kIn_of Y) ?F
  case F=>
    intro w mg fa h KX G hmg;refine' My.law_mk KX G hmg (My.adr_ex ?T)
    case T=>
      constructor
      all_goals try dsimp only
      all_goals first|(apply My.xi_mk KX G<;>k_is)|(apply My.xi_mk0 KX G<;>k_is)|(apply My.fi_mk KX G;(iterate 4 k_is);(intro _ _ _ _ _ _;first|exact My.bn1 fun _=>rfl|exact My.bn2 fun _ _=>rfl|exact My.bn3 fun _ _ _=>rfl|exact My.bn4 fun _ _ _ _=>rfl))|(apply My.mi_mk;(iterate 5 k_is);(intro _ _ _ _ _ _;first|exact My.bn1 fun _=>rfl|exact My.bn2 fun _ _=>rfl|exact My.bn3 fun _ _ _=>rfl|exact My.bn4 fun _ _ _ _=>rfl))|(refine' mg_of KX G ?_;k_is)|(refine' mg_none_of KX G ?_;k_is)|(apply My.ci_mk KX G;k_is)|(apply My.cs_mk KX G;k_is)|k_is|(show _=_;k_is)|(constructor<;>k_is)|(apply My.sm_mk;k_is;rfl)|decide|(intro _ _;exact BindsTo.of_eq rfl)
