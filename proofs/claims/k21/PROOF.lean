import PyProof.Rows.All
import Wide.All
import OpenK.AllK
import Wide.FinOn
import Lean
import PyProof.EqAt
import PyProof.EqKinds
import PyProof.TupleCall
import PySem.Challenge.RW_framerooms_k21_the_eldest_goes
set_option Elab.async false
set_option linter.all false
set_option maxRecDepth 100000
set_option maxHeartbeats 4000000
namespace L2
open PySem PySem.Spec PyProof.Rows
def inClass (s:Stmt) (j:Nat):Stmt:=match s with
  | .ClassDef _ _ _ body _ _ _ _ _ _ _=>body.getD j (.Pass ⟨0,0,0,0⟩)
  |_=> .Pass ⟨0,0,0,0⟩
def defArgs (s:Stmt):Arguments:=match s with
  | .FunctionDef _ a _ _ _ _ _ _ _ _=>a
  |_=>{posonlyargs:=[],args:=[],vararg:=none,kwonlyargs:=[],kw_defaults:=[],kwarg:=none,defaults:=[]}
def defBody (s:Stmt):List Stmt:=match s with
  | .FunctionDef _ _ b _ _ _ _ _ _ _=>b
  |_=>[]
def defScope (s:Stmt):Scope:=match s with
  | .FunctionDef _ _ _ _ _ _ sc _ _ _=>sc
  |_=>{kind:= .function,names:=[],isGenerator:=false,isCoroutine:=false}
end L2
namespace My
open PySem L2 PyProof.Rows
def top(i:Nat):Stmt:=PySem.Challenge.pw_framerooms_k21_the_eldest_goes.main.body.getD i (.Pass ⟨0,0,0,0⟩)
abbrev s_RoomError___init__:Stmt:=(inClass (top 2) 0)
abbrev s_Gone___init__:Stmt:=(inClass (top 5) 0)
abbrev s_is_number:Stmt:=(top 12)
abbrev s_is_whole:Stmt:=(top 13)
abbrev s_is_count:Stmt:=(top 14)
abbrev s_is_pair:Stmt:=(top 15)
abbrev s_Ring___init__:Stmt:=(inClass (top 18) 0)
abbrev s_Ring_turn:Stmt:=(inClass (top 18) 1)
abbrev s_Ring_frames:Stmt:=(inClass (top 18) 2)
abbrev s_Ring_last:Stmt:=(inClass (top 18) 3)
abbrev s_Frames___init__:Stmt:=(inClass (top 22) 0)
abbrev s_Frames_begin:Stmt:=(inClass (top 22) 1)
abbrev s_Frames_finish:Stmt:=(inClass (top 22) 2)
abbrev s_Frames_part:Stmt:=(inClass (top 22) 3)
abbrev s_Frames_row:Stmt:=(inClass (top 22) 5)
abbrev s_Frames_ended_by:Stmt:=(inClass (top 22) 7)
abbrev s_Frames_stands:Stmt:=(inClass (top 22) 8)
abbrev s_Frames_standing:Stmt:=(inClass (top 22) 9)
abbrev s_Frames_begun:Stmt:=(inClass (top 22) 10)
abbrev s_Frames_was_begun:Stmt:=(inClass (top 22) 11)
abbrev s_Frames_want_begun:Stmt:=(inClass (top 22) 12)
abbrev s_Frames_want_standing:Stmt:=(inClass (top 22) 13)
abbrev s_Frames_want_beginning:Stmt:=(inClass (top 22) 14)
abbrev s_Frames_want_finishing:Stmt:=(inClass (top 22) 15)
abbrev s_House___init__:Stmt:=(inClass (top 26) 0)
abbrev s_House_make:Stmt:=(inClass (top 26) 1)
abbrev s_House_size:Stmt:=(inClass (top 26) 4)
abbrev s_House_used:Stmt:=(inClass (top 26) 6)
abbrev s_House_left:Stmt:=(inClass (top 26) 7)
abbrev s_House_greatest:Stmt:=(inClass (top 26) 9)
abbrev s_House_twin:Stmt:=(inClass (top 26) 13)
abbrev s_House_is_way:Stmt:=(inClass (top 26) 14)
abbrev s_House_want_room:Stmt:=(inClass (top 26) 16)
abbrev s__law_cell:Stmt:=(top 29)
abbrev s__law_box:Stmt:=(top 30)
abbrev s__law_take:Stmt:=(top 31)
abbrev s__law_house:Stmt:=(top 32)
abbrev s__law_standing:Stmt:=(top 33)
abbrev s__law_row:Stmt:=(top 34)
abbrev s__law_begin:Stmt:=(top 35)
abbrev s__law_finish:Stmt:=(top 36)
abbrev s__law_given:Stmt:=(top 37)
abbrev s__law_used:Stmt:=(top 38)
abbrev s__law_make:Stmt:=(top 39)
abbrev s__law_one:Stmt:=(top 40)
abbrev s__law_frames:Stmt:=(top 41)
abbrev s__law_turned:Stmt:=(top 42)
abbrev s__law_deed:Stmt:=(top 43)
abbrev s__law_touched:Stmt:=(top 44)
abbrev s__law_right:Stmt:=(top 45)
abbrev s__law_begun:Stmt:=(top 46)
abbrev s__law_twinned:Stmt:=(top 47)
abbrev s_law:Stmt:=(top 48)
section hd
open PySem PySem.W PySem.Calls PyProof.Rows
noncomputable section
abbrev hdS(x:String)(n:Nat):Value:=Value.str (Str.ofString x) n
abbrev hdT(l:Array Value):Obj:={cls:=Value.type "tuple",data:=Data.seq l}
abbrev hdN(l:Array Value):Obj:={cls:=Value.none,data:=Data.fields l}
abbrev hdO(l:Array Value):Obj:={cls:=Value.type "code",data:=Data.fields l}
abbrev hdK(a b:String)(n l r u:Nat):Obj:=hdO #[hdS a n,hdS b (n+1),hdS "/claim/cut.py" (n+2),.int l 0,.int 0 0,.int 0 0,.int 0 0,.int 0 0,.ref r,.bool false,.int 181 0,.ref (r+1),.none,.none,.none,.none,.int u 0,.int l 0,hdS "/claim/cut.py" (u+1)]
abbrev hdP(a b:String)(n l p r u:Nat):Obj:=hdO #[hdS a n,hdS b (n+1),hdS "/claim/cut.py" (n+2),.int l 0,.int p 0,.int 0 0,.int 0 0,.int 3 0,.ref r,.bool true,.int 181 0,.ref (r+1),.none,.ref (r+2),.ref (r+3),.ref (r+4),.int u 0,.int l 0,hdS "/claim/cut.py" (u+1)]
abbrev hdF(n q:String)(s:Stmt)(m:String)(k:Nat)(c:Addr):Obj:={cls:=Value.type "function",data:=Data.func {name:=Str.ofString n,qualname:=Str.ofString q,params:=L2.defArgs s,body:= .stmts (L2.defBody s),scope:=L2.defScope s,globals:=3,closure:=[],defaults:=Value.none,kwdefaults:=Value.none,pyModule:=hdS m k,code:=Value.ref c}}
abbrev hdG(n q:String)(s:Stmt):Obj:={cls:=Value.none,data:=Data.func {name:=Str.ofString n,qualname:=Str.ofString q,params:=L2.defArgs s,body:= .stmts (L2.defBody s),scope:=L2.defScope s,globals:=0,closure:=[],defaults:=Value.none,kwdefaults:=Value.none}}
variable(P:Params)
abbrev hdE(P:Params)(x:String)(n:Nat)(v:Value):DictEntry:={hash:=PyData.keyHash P (Str.ofString x),key:=Value.str (Str.ofString x) n,val:=v}
abbrev hd11:Obj:=hdT #[]
abbrev hd12:Obj:=hdN #[]
abbrev hd13:Obj:=hdK "<module>" "<module>" 182 1 11 185
abbrev hd14:Obj:={cls:= .type "frame",slots:= #[some (.ref 13),some (.ref 3),some (.ref 3),none,some (hdS "__main__" 164),none,some (.ref 0)]}
abbrev hd3:Obj:={cls:= .type "dict",data:=Data.dict #[hdE P "__name__" 165 (hdS "framerooms.errors" 194),hdE P "__doc__" 166 (.none),hdE P "__package__" 167 (.none),hdE P "__loader__" 168 (.builtin ("__main__.__loader__#opa" ++ "que")),hdE P "__spec__" 169 (.none),hdE P "__annotations__" 170 (.ref 6),hdE P "__builtins__" 171 (.ref 4),hdE P "__file__" 173 (hdS "/claim/cut.py" 172),hdE P "__cached__" 174 (.none),hdE P "_wall" 193 (.ref 21),hdE P "RoomError" 221 (.ref 38),hdE P "NoNumber" 246 (.ref 58),hdE P "NoFrame" 271 (.ref 77),hdE P "Gone" 298 (.ref 96),hdE P "Ground" 321 (.ref 115),hdE P "TooMany" 346 (.ref 134),hdE P "Full" 373 (.ref 153),hdE P "NoWay" 398 (.ref 172)] 18}
abbrev hd12x:Obj:=hdN #[.int 1 0,.int 0 0,.ref 20,.int 5 0,.int 0 0,.ref 27,.int 9 0,.int 0 0,.ref 47,.int 14 0,.int 0 0,.ref 66,.int 19 0,.int 0 0,.ref 85,.int 25 0,.int 0 0,.ref 104,.int 29 0,.int 0 0,.ref 123,.int 34 0,.int 0 0,.ref 142,.int 40 0,.int 0 0,.ref 161]
abbrev hd17:Obj:=hdT #[hdS "k" 190]
abbrev hd19:Obj:=hdG "_wall" "_wall" (top 0)
abbrev hd20:Obj:=hdP "_wall" "_wall" 187 1 1 15 191
abbrev hd21:Obj:=hdF "_wall" "_wall" (top 0) "__main__" 164 20
abbrev hd22:Obj:=hdT #[.type "ValueError"]
abbrev hd23:Obj:={cls:= .type "builtin_function_or_method",data:=Data.fields #[.builtin "type.__prepare__",.type "type"]}
abbrev hd24:Obj:={cls:= .type "dict",data:=Data.dict #[hdE P "__module__" 203 (hdS "framerooms.errors" 194),hdE P "__qualname__" 205 (hdS "RoomError" 204),hdE P "__firstlineno__" 207 (.int 5 206),hdE P "__init__" 215 (.ref 35),hdE P "__static_attributes__" 216 (.ref 36)] 5}
abbrev hd26:Obj:=hdN #[.int 7 0,.int 4 0,.ref 34]
abbrev hd27:Obj:=hdK "RoomError" "RoomError" 198 5 25 201
abbrev hd28:Obj:={cls:= .type "frame",slots:= #[some (.ref 27),some (.ref 3),some (.ref 24),none,some (hdS "framerooms.errors" 194),none,some (.ref 0)]}
abbrev hd31:Obj:=hdT #[hdS "self" 211,hdS "text" 212]
abbrev hd33:Obj:=hdG "__init__" "RoomError.__init__" (inClass (top 2) 0)
abbrev hd34:Obj:=hdP "__init__" "RoomError.__init__" 208 7 2 29 213
abbrev hd35:Obj:=hdF "__init__" "RoomError.__init__" (inClass (top 2) 0) "framerooms.errors" 194 34
abbrev hd37:Obj:={cls:= .type "dict",data:=Data.dict #[hdE P "__module__" 203 (hdS "framerooms.errors" 194),hdE P "__firstlineno__" 207 (.int 5 206),hdE P "__init__" 215 (.ref 35),hdE P "__static_attributes__" 216 (.ref 36),hdE P "__weakref__" 218 (.ref 39),hdE P "__doc__" 219 (.none)] 3}
abbrev hd38:Obj:={cls:= .type "type",data:=Data.cls {name:=Str.ofString "RoomError",bases:=[.type "ValueError"],mro:=[.ref 38,.type "ValueError",.type "Exception",.type "BaseException",.type "object"],ns:=37,qualname:=Str.ofString "RoomError",subclasses:=[.ref 58,.ref 77,.ref 96,.ref 115,.ref 134,.ref 153,.ref 172]},slots:= #[some (.ref 22),none,some (hdS "RoomError" 196),some (hdS "RoomError" 204),some (.builtin "ValueError.__new__"),some (.bool true)]}
abbrev hd39:Obj:={cls:= .type "getset_descriptor",data:=Data.fields #[hdS "__weakref__" 217,.ref 38,.builtin "ExceptionGroup.__weakref__",.none]}
abbrev hd40:Obj:={cls:= .type "super",data:=Data.fields #[.ref 38,.ref 38,.ref 38]}
abbrev hd41:Obj:={cls:= .type "builtin_function_or_method",data:=Data.fields #[.builtin "object.__init_subclass__",.ref 38]}
abbrev hd42:Obj:=hdT #[.ref 38]
abbrev hd44:Obj:={cls:= .type "dict",data:=Data.dict #[hdE P "__module__" 229 (hdS "framerooms.errors" 194),hdE P "__qualname__" 231 (hdS "NoNumber" 230),hdE P "__firstlineno__" 233 (.int 9 232),hdE P "__init__" 241 (.ref 55),hdE P "__static_attributes__" 243 (.ref 56)] 5}
abbrev hd46:Obj:=hdN #[.int 11 0,.int 4 0,.ref 54]
abbrev hd47:Obj:=hdK "NoNumber" "NoNumber" 224 9 45 227
abbrev hd48:Obj:={cls:= .type "frame",slots:= #[some (.ref 47),some (.ref 3),some (.ref 44),none,some (hdS "framerooms.errors" 194),none,some (.ref 0)]}
abbrev hd51:Obj:=hdT #[hdS "self" 237,hdS "found" 238]
abbrev hd53:Obj:=hdG "__init__" "NoNumber.__init__" (inClass (top 3) 0)
abbrev hd54:Obj:=hdP "__init__" "NoNumber.__init__" 234 11 2 49 239
abbrev hd55:Obj:=hdF "__init__" "NoNumber.__init__" (inClass (top 3) 0) "framerooms.errors" 194 54
abbrev hd56:Obj:=hdT #[hdS "found" 242]
abbrev hd57:Obj:={cls:= .type "dict",data:=Data.dict #[hdE P "__module__" 229 (hdS "framerooms.errors" 194),hdE P "__firstlineno__" 233 (.int 9 232),hdE P "__init__" 241 (.ref 55),hdE P "__static_attributes__" 243 (.ref 56),hdE P "__doc__" 244 (.none)] 2}
abbrev hd58:Obj:={cls:= .type "type",data:=Data.cls {name:=Str.ofString "NoNumber",bases:=[.ref 38],mro:=[.ref 58,.ref 38,.type "ValueError",.type "Exception",.type "BaseException",.type "object"],ns:=57,qualname:=Str.ofString "NoNumber"},slots:= #[some (.ref 42),none,some (hdS "NoNumber" 222),some (hdS "NoNumber" 230),some (.builtin "ValueError.__new__"),some (.bool true)]}
abbrev hd59:Obj:={cls:= .type "super",data:=Data.fields #[.ref 58,.ref 58,.ref 58]}
abbrev hd60:Obj:={cls:= .type "builtin_function_or_method",data:=Data.fields #[.builtin "object.__init_subclass__",.ref 58]}
abbrev hd63:Obj:={cls:= .type "dict",data:=Data.dict #[hdE P "__module__" 254 (hdS "framerooms.errors" 194),hdE P "__qualname__" 256 (hdS "NoFrame" 255),hdE P "__firstlineno__" 258 (.int 14 257),hdE P "__init__" 266 (.ref 74),hdE P "__static_attributes__" 268 (.ref 75)] 5}
abbrev hd65:Obj:=hdN #[.int 16 0,.int 4 0,.ref 73]
abbrev hd66:Obj:=hdK "NoFrame" "NoFrame" 249 14 64 252
abbrev hd67:Obj:={cls:= .type "frame",slots:= #[some (.ref 66),some (.ref 3),some (.ref 63),none,some (hdS "framerooms.errors" 194),none,some (.ref 0)]}
abbrev hd70:Obj:=hdT #[hdS "self" 262,hdS "found" 263]
abbrev hd72:Obj:=hdG "__init__" "NoFrame.__init__" (inClass (top 4) 0)
abbrev hd73:Obj:=hdP "__init__" "NoFrame.__init__" 259 16 2 68 264
abbrev hd74:Obj:=hdF "__init__" "NoFrame.__init__" (inClass (top 4) 0) "framerooms.errors" 194 73
abbrev hd75:Obj:=hdT #[hdS "found" 267]
abbrev hd76:Obj:={cls:= .type "dict",data:=Data.dict #[hdE P "__module__" 254 (hdS "framerooms.errors" 194),hdE P "__firstlineno__" 258 (.int 14 257),hdE P "__init__" 266 (.ref 74),hdE P "__static_attributes__" 268 (.ref 75),hdE P "__doc__" 269 (.none)] 2}
abbrev hd77:Obj:={cls:= .type "type",data:=Data.cls {name:=Str.ofString "NoFrame",bases:=[.ref 38],mro:=[.ref 77,.ref 38,.type "ValueError",.type "Exception",.type "BaseException",.type "object"],ns:=76,qualname:=Str.ofString "NoFrame"},slots:= #[some (.ref 61),none,some (hdS "NoFrame" 247),some (hdS "NoFrame" 255),some (.builtin "ValueError.__new__"),some (.bool true)]}
abbrev hd78:Obj:={cls:= .type "super",data:=Data.fields #[.ref 77,.ref 77,.ref 77]}
abbrev hd79:Obj:={cls:= .type "builtin_function_or_method",data:=Data.fields #[.builtin "object.__init_subclass__",.ref 77]}
abbrev hd82:Obj:={cls:= .type "dict",data:=Data.dict #[hdE P "__module__" 279 (hdS "framerooms.errors" 194),hdE P "__qualname__" 281 (hdS "Gone" 280),hdE P "__firstlineno__" 283 (.int 19 282),hdE P "__init__" 292 (.ref 93),hdE P "__static_attributes__" 295 (.ref 94)] 5}
abbrev hd84:Obj:=hdN #[.int 21 0,.int 4 0,.ref 92]
abbrev hd85:Obj:=hdK "Gone" "Gone" 274 19 83 277
abbrev hd86:Obj:={cls:= .type "frame",slots:= #[some (.ref 85),some (.ref 3),some (.ref 82),none,some (hdS "framerooms.errors" 194),none,some (.ref 0)]}
abbrev hd89:Obj:=hdT #[hdS "self" 287,hdS "found" 288,hdS "by" 289]
abbrev hd91:Obj:=hdG "__init__" "Gone.__init__" (inClass (top 5) 0)
abbrev hd92:Obj:=hdP "__init__" "Gone.__init__" 284 21 3 87 290
abbrev hd93:Obj:=hdF "__init__" "Gone.__init__" (inClass (top 5) 0) "framerooms.errors" 194 92
abbrev hd94:Obj:=hdT #[hdS "by" 293,hdS "found" 294]
abbrev hd95:Obj:={cls:= .type "dict",data:=Data.dict #[hdE P "__module__" 279 (hdS "framerooms.errors" 194),hdE P "__firstlineno__" 283 (.int 19 282),hdE P "__init__" 292 (.ref 93),hdE P "__static_attributes__" 295 (.ref 94),hdE P "__doc__" 296 (.none)] 2}
abbrev hd96:Obj:={cls:= .type "type",data:=Data.cls {name:=Str.ofString "Gone",bases:=[.ref 38],mro:=[.ref 96,.ref 38,.type "ValueError",.type "Exception",.type "BaseException",.type "object"],ns:=95,qualname:=Str.ofString "Gone"},slots:= #[some (.ref 80),none,some (hdS "Gone" 272),some (hdS "Gone" 280),some (.builtin "ValueError.__new__"),some (.bool true)]}
abbrev hd97:Obj:={cls:= .type "super",data:=Data.fields #[.ref 96,.ref 96,.ref 96]}
abbrev hd98:Obj:={cls:= .type "builtin_function_or_method",data:=Data.fields #[.builtin "object.__init_subclass__",.ref 96]}
abbrev hd101:Obj:={cls:= .type "dict",data:=Data.dict #[hdE P "__module__" 306 (hdS "framerooms.errors" 194),hdE P "__qualname__" 308 (hdS "Ground" 307),hdE P "__firstlineno__" 310 (.int 25 309),hdE P "__init__" 317 (.ref 112),hdE P "__static_attributes__" 318 (.ref 113)] 5}
abbrev hd103:Obj:=hdN #[.int 27 0,.int 4 0,.ref 111]
abbrev hd104:Obj:=hdK "Ground" "Ground" 301 25 102 304
abbrev hd105:Obj:={cls:= .type "frame",slots:= #[some (.ref 104),some (.ref 3),some (.ref 101),none,some (hdS "framerooms.errors" 194),none,some (.ref 0)]}
abbrev hd108:Obj:=hdT #[hdS "self" 314]
abbrev hd110:Obj:=hdG "__init__" "Ground.__init__" (inClass (top 6) 0)
abbrev hd111:Obj:=hdP "__init__" "Ground.__init__" 311 27 1 106 315
abbrev hd112:Obj:=hdF "__init__" "Ground.__init__" (inClass (top 6) 0) "framerooms.errors" 194 111
abbrev hd114:Obj:={cls:= .type "dict",data:=Data.dict #[hdE P "__module__" 306 (hdS "framerooms.errors" 194),hdE P "__firstlineno__" 310 (.int 25 309),hdE P "__init__" 317 (.ref 112),hdE P "__static_attributes__" 318 (.ref 113),hdE P "__doc__" 319 (.none)] 2}
abbrev hd115:Obj:={cls:= .type "type",data:=Data.cls {name:=Str.ofString "Ground",bases:=[.ref 38],mro:=[.ref 115,.ref 38,.type "ValueError",.type "Exception",.type "BaseException",.type "object"],ns:=114,qualname:=Str.ofString "Ground"},slots:= #[some (.ref 99),none,some (hdS "Ground" 299),some (hdS "Ground" 307),some (.builtin "ValueError.__new__"),some (.bool true)]}
abbrev hd116:Obj:={cls:= .type "super",data:=Data.fields #[.ref 115,.ref 115,.ref 115]}
abbrev hd117:Obj:={cls:= .type "builtin_function_or_method",data:=Data.fields #[.builtin "object.__init_subclass__",.ref 115]}
abbrev hd120:Obj:={cls:= .type "dict",data:=Data.dict #[hdE P "__module__" 329 (hdS "framerooms.errors" 194),hdE P "__qualname__" 331 (hdS "TooMany" 330),hdE P "__firstlineno__" 333 (.int 29 332),hdE P "__init__" 341 (.ref 131),hdE P "__static_attributes__" 343 (.ref 132)] 5}
abbrev hd122:Obj:=hdN #[.int 31 0,.int 4 0,.ref 130]
abbrev hd123:Obj:=hdK "TooMany" "TooMany" 324 29 121 327
abbrev hd124:Obj:={cls:= .type "frame",slots:= #[some (.ref 123),some (.ref 3),some (.ref 120),none,some (hdS "framerooms.errors" 194),none,some (.ref 0)]}
abbrev hd127:Obj:=hdT #[hdS "self" 337,hdS "many" 338]
abbrev hd129:Obj:=hdG "__init__" "TooMany.__init__" (inClass (top 7) 0)
abbrev hd130:Obj:=hdP "__init__" "TooMany.__init__" 334 31 2 125 339
abbrev hd131:Obj:=hdF "__init__" "TooMany.__init__" (inClass (top 7) 0) "framerooms.errors" 194 130
abbrev hd132:Obj:=hdT #[hdS "many" 342]
abbrev hd133:Obj:={cls:= .type "dict",data:=Data.dict #[hdE P "__module__" 329 (hdS "framerooms.errors" 194),hdE P "__firstlineno__" 333 (.int 29 332),hdE P "__init__" 341 (.ref 131),hdE P "__static_attributes__" 343 (.ref 132),hdE P "__doc__" 344 (.none)] 2}
abbrev hd134:Obj:={cls:= .type "type",data:=Data.cls {name:=Str.ofString "TooMany",bases:=[.ref 38],mro:=[.ref 134,.ref 38,.type "ValueError",.type "Exception",.type "BaseException",.type "object"],ns:=133,qualname:=Str.ofString "TooMany"},slots:= #[some (.ref 118),none,some (hdS "TooMany" 322),some (hdS "TooMany" 330),some (.builtin "ValueError.__new__"),some (.bool true)]}
abbrev hd135:Obj:={cls:= .type "super",data:=Data.fields #[.ref 134,.ref 134,.ref 134]}
abbrev hd136:Obj:={cls:= .type "builtin_function_or_method",data:=Data.fields #[.builtin "object.__init_subclass__",.ref 134]}
abbrev hd139:Obj:={cls:= .type "dict",data:=Data.dict #[hdE P "__module__" 354 (hdS "framerooms.errors" 194),hdE P "__qualname__" 356 (hdS "Full" 355),hdE P "__firstlineno__" 358 (.int 34 357),hdE P "__init__" 367 (.ref 150),hdE P "__static_attributes__" 370 (.ref 151)] 5}
abbrev hd141:Obj:=hdN #[.int 36 0,.int 4 0,.ref 149]
abbrev hd142:Obj:=hdK "Full" "Full" 349 34 140 352
abbrev hd143:Obj:={cls:= .type "frame",slots:= #[some (.ref 142),some (.ref 3),some (.ref 139),none,some (hdS "framerooms.errors" 194),none,some (.ref 0)]}
abbrev hd146:Obj:=hdT #[hdS "self" 362,hdS "need" 363,hdS "spare" 364]
abbrev hd148:Obj:=hdG "__init__" "Full.__init__" (inClass (top 8) 0)
abbrev hd149:Obj:=hdP "__init__" "Full.__init__" 359 36 3 144 365
abbrev hd150:Obj:=hdF "__init__" "Full.__init__" (inClass (top 8) 0) "framerooms.errors" 194 149
abbrev hd151:Obj:=hdT #[hdS "need" 368,hdS "spare" 369]
abbrev hd152:Obj:={cls:= .type "dict",data:=Data.dict #[hdE P "__module__" 354 (hdS "framerooms.errors" 194),hdE P "__firstlineno__" 358 (.int 34 357),hdE P "__init__" 367 (.ref 150),hdE P "__static_attributes__" 370 (.ref 151),hdE P "__doc__" 371 (.none)] 2}
abbrev hd153:Obj:={cls:= .type "type",data:=Data.cls {name:=Str.ofString "Full",bases:=[.ref 38],mro:=[.ref 153,.ref 38,.type "ValueError",.type "Exception",.type "BaseException",.type "object"],ns:=152,qualname:=Str.ofString "Full"},slots:= #[some (.ref 137),none,some (hdS "Full" 347),some (hdS "Full" 355),some (.builtin "ValueError.__new__"),some (.bool true)]}
abbrev hd154:Obj:={cls:= .type "super",data:=Data.fields #[.ref 153,.ref 153,.ref 153]}
abbrev hd155:Obj:={cls:= .type "builtin_function_or_method",data:=Data.fields #[.builtin "object.__init_subclass__",.ref 153]}
abbrev hd158:Obj:={cls:= .type "dict",data:=Data.dict #[hdE P "__module__" 381 (hdS "framerooms.errors" 194),hdE P "__qualname__" 383 (hdS "NoWay" 382),hdE P "__firstlineno__" 385 (.int 40 384),hdE P "__init__" 393 (.ref 169),hdE P "__static_attributes__" 395 (.ref 170)] 5}
abbrev hd160:Obj:=hdN #[.int 42 0,.int 4 0,.ref 168]
abbrev hd161:Obj:=hdK "NoWay" "NoWay" 376 40 159 379
abbrev hd162:Obj:={cls:= .type "frame",slots:= #[some (.ref 161),some (.ref 3),some (.ref 158),none,some (hdS "framerooms.errors" 194),none,some (.ref 0)]}
abbrev hd165:Obj:=hdT #[hdS "self" 389,hdS "found" 390]
abbrev hd167:Obj:=hdG "__init__" "NoWay.__init__" (inClass (top 9) 0)
abbrev hd168:Obj:=hdP "__init__" "NoWay.__init__" 386 42 2 163 391
abbrev hd169:Obj:=hdF "__init__" "NoWay.__init__" (inClass (top 9) 0) "framerooms.errors" 194 168
abbrev hd170:Obj:=hdT #[hdS "found" 394]
abbrev hd171:Obj:={cls:= .type "dict",data:=Data.dict #[hdE P "__module__" 381 (hdS "framerooms.errors" 194),hdE P "__firstlineno__" 385 (.int 40 384),hdE P "__init__" 393 (.ref 169),hdE P "__static_attributes__" 395 (.ref 170),hdE P "__doc__" 396 (.none)] 2}
abbrev hd172:Obj:={cls:= .type "type",data:=Data.cls {name:=Str.ofString "NoWay",bases:=[.ref 38],mro:=[.ref 172,.ref 38,.type "ValueError",.type "Exception",.type "BaseException",.type "object"],ns:=171,qualname:=Str.ofString "NoWay"},slots:= #[some (.ref 156),none,some (hdS "NoWay" 374),some (hdS "NoWay" 382),some (.builtin "ValueError.__new__"),some (.bool true)]}
abbrev hd173:Obj:={cls:= .type "super",data:=Data.fields #[.ref 172,.ref 172,.ref 172]}
abbrev hd174:Obj:={cls:= .type "builtin_function_or_method",data:=Data.fields #[.builtin "object.__init_subclass__",.ref 172]}
abbrev hd3x:Obj:={cls:= .type "dict",data:=Data.dict #[hdE P "__name__" 165 (hdS "framerooms.frames" 518),hdE P "__doc__" 166 (.none),hdE P "__package__" 167 (.none),hdE P "__loader__" 168 (.builtin ("__main__.__loader__#opa" ++ "que")),hdE P "__spec__" 169 (.none),hdE P "__annotations__" 170 (.ref 6),hdE P "__builtins__" 171 (.ref 4),hdE P "__file__" 173 (hdS "/claim/cut.py" 172),hdE P "__cached__" 174 (.none),hdE P "_wall" 193 (.ref 21),hdE P "RoomError" 221 (.ref 38),hdE P "NoNumber" 246 (.ref 58),hdE P "NoFrame" 271 (.ref 77),hdE P "Gone" 298 (.ref 96),hdE P "Ground" 321 (.ref 115),hdE P "TooMany" 346 (.ref 134),hdE P "Full" 373 (.ref 153),hdE P "NoWay" 398 (.ref 172),hdE P "NoCell" 423 (.ref 191),hdE P "is_number" 432 (.ref 200),hdE P "is_whole" 441 (.ref 207),hdE P "is_count" 448 (.ref 214),hdE P "is_pair" 455 (.ref 221),hdE P "MOST_OF_RING" 459 (.int 4 458),hdE P "Ring" 517 (.ref 257),hdE P "GROUND" 521 (.int 0 520),hdE P "MOST_FRAMES" 523 (.int 100 522),hdE P "Frames" 669 (.ref 377)] 28}
abbrev hd12xx:Obj:=hdN #[.int 1 0,.int 0 0,.ref 20,.int 5 0,.int 0 0,.ref 27,.int 9 0,.int 0 0,.ref 47,.int 14 0,.int 0 0,.ref 66,.int 19 0,.int 0 0,.ref 85,.int 25 0,.int 0 0,.ref 104,.int 29 0,.int 0 0,.ref 123,.int 34 0,.int 0 0,.ref 142,.int 40 0,.int 0 0,.ref 161,.int 45 0,.int 0 0,.ref 180,.int 51 0,.int 0 0,.ref 199,.int 53 0,.int 0 0,.ref 206,.int 55 0,.int 0 0,.ref 213,.int 57 0,.int 0 0,.ref 220,.int 63 0,.int 0 0,.ref 227,.int 93 0,.int 0 0,.ref 267]
abbrev hd38x:Obj:={cls:= .type "type",data:=Data.cls {name:=Str.ofString "RoomError",bases:=[.type "ValueError"],mro:=[.ref 38,.type "ValueError",.type "Exception",.type "BaseException",.type "object"],ns:=37,qualname:=Str.ofString "RoomError",subclasses:=[.ref 58,.ref 77,.ref 96,.ref 115,.ref 134,.ref 153,.ref 172,.ref 191]},slots:= #[some (.ref 22),none,some (hdS "RoomError" 196),some (hdS "RoomError" 204),some (.builtin "ValueError.__new__"),some (.bool true)]}
abbrev hd177:Obj:={cls:= .type "dict",data:=Data.dict #[hdE P "__module__" 406 (hdS "framerooms.errors" 194),hdE P "__qualname__" 408 (hdS "NoCell" 407),hdE P "__firstlineno__" 410 (.int 45 409),hdE P "__init__" 418 (.ref 188),hdE P "__static_attributes__" 420 (.ref 189)] 5}
abbrev hd179:Obj:=hdN #[.int 47 0,.int 4 0,.ref 187]
abbrev hd180:Obj:=hdK "NoCell" "NoCell" 401 45 178 404
abbrev hd181:Obj:={cls:= .type "frame",slots:= #[some (.ref 180),some (.ref 3),some (.ref 177),none,some (hdS "framerooms.errors" 194),none,some (.ref 0)]}
abbrev hd184:Obj:=hdT #[hdS "self" 414,hdS "found" 415]
abbrev hd186:Obj:=hdG "__init__" "NoCell.__init__" (inClass (top 10) 0)
abbrev hd187:Obj:=hdP "__init__" "NoCell.__init__" 411 47 2 182 416
abbrev hd188:Obj:=hdF "__init__" "NoCell.__init__" (inClass (top 10) 0) "framerooms.errors" 194 187
abbrev hd189:Obj:=hdT #[hdS "found" 419]
abbrev hd190:Obj:={cls:= .type "dict",data:=Data.dict #[hdE P "__module__" 406 (hdS "framerooms.errors" 194),hdE P "__firstlineno__" 410 (.int 45 409),hdE P "__init__" 418 (.ref 188),hdE P "__static_attributes__" 420 (.ref 189),hdE P "__doc__" 421 (.none)] 2}
abbrev hd191:Obj:={cls:= .type "type",data:=Data.cls {name:=Str.ofString "NoCell",bases:=[.ref 38],mro:=[.ref 191,.ref 38,.type "ValueError",.type "Exception",.type "BaseException",.type "object"],ns:=190,qualname:=Str.ofString "NoCell"},slots:= #[some (.ref 175),none,some (hdS "NoCell" 399),some (hdS "NoCell" 407),some (.builtin "ValueError.__new__"),some (.bool true)]}
abbrev hd192:Obj:={cls:= .type "super",data:=Data.fields #[.ref 191,.ref 191,.ref 191]}
abbrev hd193:Obj:={cls:= .type "builtin_function_or_method",data:=Data.fields #[.builtin "object.__init_subclass__",.ref 191]}
abbrev hd196:Obj:=hdT #[hdS "thing" 429]
abbrev hd198:Obj:=hdG "is_number" "is_number" (top 12)
abbrev hd199:Obj:=hdP "is_number" "is_number" 426 51 1 194 430
abbrev hd200:Obj:=hdF "is_number" "is_number" (top 12) "framerooms.words" 424 199
abbrev hd203:Obj:=hdT #[hdS "thing" 436,hdS "low" 437,hdS "high" 438]
abbrev hd205:Obj:=hdG "is_whole" "is_whole" (top 13)
abbrev hd206:Obj:=hdP "is_whole" "is_whole" 433 53 3 201 439
abbrev hd207:Obj:=hdF "is_whole" "is_whole" (top 13) "framerooms.words" 424 206
abbrev hd210:Obj:=hdT #[hdS "thing" 445]
abbrev hd212:Obj:=hdG "is_count" "is_count" (top 14)
abbrev hd213:Obj:=hdP "is_count" "is_count" 442 55 1 208 446
abbrev hd214:Obj:=hdF "is_count" "is_count" (top 14) "framerooms.words" 424 213
abbrev hd217:Obj:=hdT #[hdS "thing" 452]
abbrev hd219:Obj:=hdG "is_pair" "is_pair" (top 15)
abbrev hd220:Obj:=hdP "is_pair" "is_pair" 449 57 1 215 453
abbrev hd221:Obj:=hdF "is_pair" "is_pair" (top 15) "framerooms.words" 424 220
abbrev hd224:Obj:={cls:= .type "dict",data:=Data.dict #[hdE P "__module__" 467 (hdS "framerooms.rings" 456),hdE P "__qualname__" 469 (hdS "Ring" 468),hdE P "__firstlineno__" 471 (.int 63 470),hdE P "__init__" 481 (.ref 235),hdE P "turn" 491 (.ref 242),hdE P "frames" 497 (.ref 247),hdE P "last" 505 (.ref 254),hdE P "__static_attributes__" 510 (.ref 255)] 8}
abbrev hd226:Obj:=hdN #[.int 65 0,.int 4 0,.ref 234,.int 74 0,.int 4 0,.ref 241,.int 84 0,.int 4 0,.ref 246,.int 87 0,.int 4 0,.ref 253]
abbrev hd227:Obj:=hdK "Ring" "Ring" 462 63 225 465
abbrev hd228:Obj:={cls:= .type "frame",slots:= #[some (.ref 227),some (.ref 3),some (.ref 224),none,some (hdS "framerooms.rings" 456),none,some (.ref 0)]}
abbrev hd231:Obj:=hdT #[hdS "self" 475,hdS "house" 476,hdS "frame" 477,hdS "many" 478]
abbrev hd233:Obj:=hdG "__init__" "Ring.__init__" (inClass (top 18) 0)
abbrev hd234:Obj:=hdP "__init__" "Ring.__init__" 472 65 4 229 479
abbrev hd235:Obj:=hdF "__init__" "Ring.__init__" (inClass (top 18) 0) "framerooms.rings" 456 234
abbrev hd238:Obj:=hdT #[hdS "self" 485,hdS "ended" 486,hdS "standing" 487,hdS "number" 488]
abbrev hd240:Obj:=hdG "turn" "Ring.turn" (inClass (top 18) 1)
abbrev hd241:Obj:=hdP "turn" "Ring.turn" 482 74 1 236 489
abbrev hd242:Obj:=hdF "turn" "Ring.turn" (inClass (top 18) 1) "framerooms.rings" 456 241
abbrev hd245:Obj:=hdG "frames" "Ring.frames" (inClass (top 18) 2)
abbrev hd246:Obj:=hdO #[hdS "frames" 492,hdS "Ring.frames" 493,hdS "/claim/cut.py" 494,.int 84 0,.int 1 0,.int 0 0,.int 0 0,.int 3 0,.ref 243,.bool true,.int 181 0,.ref 244,.none,.none,.none,.ref 245,.int 495 0,.int 84 0,hdS "/claim/cut.py" 496]
abbrev hd247:Obj:=hdF "frames" "Ring.frames" (inClass (top 18) 2) "framerooms.rings" 456 246
abbrev hd250:Obj:=hdT #[hdS "self" 501,hdS "standing" 502]
abbrev hd252:Obj:=hdG "last" "Ring.last" (inClass (top 18) 3)
abbrev hd253:Obj:=hdP "last" "Ring.last" 498 87 1 248 503
abbrev hd254:Obj:=hdF "last" "Ring.last" (inClass (top 18) 3) "framerooms.rings" 456 253
abbrev hd255:Obj:=hdT #[hdS "frame" 506,hdS "house" 507,hdS "many" 508,hdS "turned" 509]
abbrev hd256:Obj:={cls:= .type "dict",data:=Data.dict #[hdE P "__module__" 467 (hdS "framerooms.rings" 456),hdE P "__firstlineno__" 471 (.int 63 470),hdE P "__init__" 481 (.ref 235),hdE P "turn" 491 (.ref 242),hdE P "frames" 497 (.ref 247),hdE P "last" 505 (.ref 254),hdE P "__static_attributes__" 510 (.ref 255),hdE P "__dict__" 512 (.ref 258),hdE P "__weakref__" 514 (.ref 259),hdE P "__doc__" 515 (.none)] 4}
abbrev hd257:Obj:={cls:= .type "type",data:=Data.cls {name:=Str.ofString "Ring",bases:=[.type "object"],mro:=[.ref 257,.type "object"],ns:=256,qualname:=Str.ofString "Ring"},slots:= #[none,none,some (hdS "Ring" 460),some (hdS "Ring" 468),some (.builtin "object.__new__"),some (.bool true)]}
abbrev hd258:Obj:={cls:= .type "getset_descriptor",data:=Data.fields #[hdS "__dict__" 511,.ref 257,.builtin "function.__dict__",.builtin "function.__dict__#set"]}
abbrev hd259:Obj:={cls:= .type "getset_descriptor",data:=Data.fields #[hdS "__weakref__" 513,.ref 257,.builtin "ExceptionGroup.__weakref__",.none]}
abbrev hd260:Obj:={cls:= .type "super",data:=Data.fields #[.ref 257,.ref 257,.ref 257]}
abbrev hd261:Obj:={cls:= .type "builtin_function_or_method",data:=Data.fields #[.builtin "object.__init_subclass__",.ref 257]}
abbrev hd264:Obj:={cls:= .type "dict",data:=Data.dict #[hdE P "__module__" 531 (hdS "framerooms.frames" 518),hdE P "__qualname__" 533 (hdS "Frames" 532),hdE P "__firstlineno__" 535 (.int 93 534),hdE P "__init__" 542 (.ref 275),hdE P "begin" 550 (.ref 282),hdE P "finish" 560 (.ref 289),hdE P "part" 566 (.ref 294),hdE P "inside" 574 (.ref 301),hdE P "row" 584 (.ref 308),hdE P "within" 590 (.ref 313),hdE P "ended_by" 598 (.ref 320),hdE P "stands" 606 (.ref 327),hdE P "standing" 612 (.ref 332),hdE P "begun" 619 (.ref 339),hdE P "was_begun" 627 (.ref 346),hdE P "want_begun" 635 (.ref 353),hdE P "want_standing" 643 (.ref 360),hdE P "want_beginning" 651 (.ref 367),hdE P "want_finishing" 659 (.ref 374),hdE P "__static_attributes__" 662 (.ref 375)] 20}
abbrev hd266:Obj:=hdN #[.int 95 0,.int 4 0,.ref 274,.int 99 0,.int 4 0,.ref 281,.int 105 0,.int 4 0,.ref 288,.int 112 0,.int 4 0,.ref 293,.int 115 0,.int 4 0,.ref 300,.int 118 0,.int 4 0,.ref 307,.int 127 0,.int 4 0,.ref 312,.int 131 0,.int 4 0,.ref 319,.int 135 0,.int 4 0,.ref 326,.int 138 0,.int 4 0,.ref 331,.int 141 0,.int 4 0,.ref 338,.int 144 0,.int 4 0,.ref 345,.int 147 0,.int 4 0,.ref 352,.int 151 0,.int 4 0,.ref 359,.int 156 0,.int 4 0,.ref 366,.int 161 0,.int 4 0,.ref 373]
abbrev hd267:Obj:=hdK "Frames" "Frames" 526 93 265 529
abbrev hd268:Obj:={cls:= .type "frame",slots:= #[some (.ref 267),some (.ref 3),some (.ref 264),none,some (hdS "framerooms.frames" 518),none,some (.ref 0)]}
abbrev hd271:Obj:=hdT #[hdS "self" 539]
abbrev hd273:Obj:=hdG "__init__" "Frames.__init__" (inClass (top 22) 0)
abbrev hd274:Obj:=hdP "__init__" "Frames.__init__" 536 95 1 269 540
abbrev hd275:Obj:=hdF "__init__" "Frames.__init__" (inClass (top 22) 0) "framerooms.frames" 518 274
abbrev hd278:Obj:=hdT #[hdS "self" 546,hdS "frame" 547]
abbrev hd280:Obj:=hdG "begin" "Frames.begin" (inClass (top 22) 1)
abbrev hd281:Obj:=hdP "begin" "Frames.begin" 543 99 2 276 548
abbrev hd282:Obj:=hdF "begin" "Frames.begin" (inClass (top 22) 1) "framerooms.frames" 518 281
abbrev hd285:Obj:=hdT #[hdS "self" 554,hdS "frame" 555,hdS "ended" 556,hdS "number" 557]
abbrev hd287:Obj:=hdG "finish" "Frames.finish" (inClass (top 22) 2)
abbrev hd288:Obj:=hdP "finish" "Frames.finish" 551 105 2 283 558
abbrev hd289:Obj:=hdF "finish" "Frames.finish" (inClass (top 22) 2) "framerooms.frames" 518 288
abbrev hd292:Obj:=hdG "part" "Frames.part" (inClass (top 22) 3)
abbrev hd293:Obj:=hdO #[hdS "part" 561,hdS "Frames.part" 562,hdS "/claim/cut.py" 563,.int 112 0,.int 2 0,.int 0 0,.int 0 0,.int 3 0,.ref 290,.bool true,.int 181 0,.ref 291,.none,.none,.none,.ref 292,.int 564 0,.int 112 0,hdS "/claim/cut.py" 565]
abbrev hd294:Obj:=hdF "part" "Frames.part" (inClass (top 22) 3) "framerooms.frames" 518 293
abbrev hd297:Obj:=hdT #[hdS "self" 570,hdS "frame" 571]
abbrev hd299:Obj:=hdG "inside" "Frames.inside" (inClass (top 22) 4)
abbrev hd300:Obj:=hdP "inside" "Frames.inside" 567 115 2 295 572
abbrev hd301:Obj:=hdF "inside" "Frames.inside" (inClass (top 22) 4) "framerooms.frames" 518 300
abbrev hd304:Obj:=hdT #[hdS "self" 578,hdS "frame" 579,hdS "outward" 580,hdS "step" 581]
abbrev hd306:Obj:=hdG "row" "Frames.row" (inClass (top 22) 5)
abbrev hd307:Obj:=hdP "row" "Frames.row" 575 118 2 302 582
abbrev hd308:Obj:=hdF "row" "Frames.row" (inClass (top 22) 5) "framerooms.frames" 518 307
abbrev hd311:Obj:=hdG "within" "Frames.within" (inClass (top 22) 6)
abbrev hd312:Obj:=hdO #[hdS "within" 585,hdS "Frames.within" 586,hdS "/claim/cut.py" 587,.int 127 0,.int 2 0,.int 0 0,.int 0 0,.int 3 0,.ref 309,.bool true,.int 181 0,.ref 310,.none,.none,.none,.ref 311,.int 588 0,.int 127 0,hdS "/claim/cut.py" 589]
abbrev hd313:Obj:=hdF "within" "Frames.within" (inClass (top 22) 6) "framerooms.frames" 518 312
abbrev hd316:Obj:=hdT #[hdS "self" 594,hdS "frame" 595]
abbrev hd318:Obj:=hdG "ended_by" "Frames.ended_by" (inClass (top 22) 7)
abbrev hd319:Obj:=hdP "ended_by" "Frames.ended_by" 591 131 2 314 596
abbrev hd320:Obj:=hdF "ended_by" "Frames.ended_by" (inClass (top 22) 7) "framerooms.frames" 518 319
abbrev hd323:Obj:=hdT #[hdS "self" 602,hdS "thing" 603]
abbrev hd325:Obj:=hdG "stands" "Frames.stands" (inClass (top 22) 8)
abbrev hd326:Obj:=hdP "stands" "Frames.stands" 599 135 2 321 604
abbrev hd327:Obj:=hdF "stands" "Frames.stands" (inClass (top 22) 8) "framerooms.frames" 518 326
abbrev hd330:Obj:=hdG "standing" "Frames.standing" (inClass (top 22) 9)
abbrev hd331:Obj:=hdO #[hdS "standing" 607,hdS "Frames.standing" 608,hdS "/claim/cut.py" 609,.int 138 0,.int 1 0,.int 0 0,.int 0 0,.int 3 0,.ref 328,.bool true,.int 181 0,.ref 329,.none,.none,.none,.ref 330,.int 610 0,.int 138 0,hdS "/claim/cut.py" 611]
abbrev hd332:Obj:=hdF "standing" "Frames.standing" (inClass (top 22) 9) "framerooms.frames" 518 331
abbrev hd335:Obj:=hdT #[hdS "self" 616]
abbrev hd337:Obj:=hdG "begun" "Frames.begun" (inClass (top 22) 10)
abbrev hd338:Obj:=hdP "begun" "Frames.begun" 613 141 1 333 617
abbrev hd339:Obj:=hdF "begun" "Frames.begun" (inClass (top 22) 10) "framerooms.frames" 518 338
abbrev hd342:Obj:=hdT #[hdS "self" 623,hdS "thing" 624]
abbrev hd344:Obj:=hdG "was_begun" "Frames.was_begun" (inClass (top 22) 11)
abbrev hd345:Obj:=hdP "was_begun" "Frames.was_begun" 620 144 2 340 625
abbrev hd346:Obj:=hdF "was_begun" "Frames.was_begun" (inClass (top 22) 11) "framerooms.frames" 518 345
abbrev hd349:Obj:=hdT #[hdS "self" 631,hdS "thing" 632]
abbrev hd351:Obj:=hdG "want_begun" "Frames.want_begun" (inClass (top 22) 12)
abbrev hd352:Obj:=hdP "want_begun" "Frames.want_begun" 628 147 2 347 633
abbrev hd353:Obj:=hdF "want_begun" "Frames.want_begun" (inClass (top 22) 12) "framerooms.frames" 518 352
abbrev hd356:Obj:=hdT #[hdS "self" 639,hdS "thing" 640]
abbrev hd358:Obj:=hdG "want_standing" "Frames.want_standing" (inClass (top 22) 13)
abbrev hd359:Obj:=hdP "want_standing" "Frames.want_standing" 636 151 2 354 641
abbrev hd360:Obj:=hdF "want_standing" "Frames.want_standing" (inClass (top 22) 13) "framerooms.frames" 518 359
abbrev hd363:Obj:=hdT #[hdS "self" 647,hdS "thing" 648]
abbrev hd365:Obj:=hdG "want_beginning" "Frames.want_beginning" (inClass (top 22) 14)
abbrev hd366:Obj:=hdP "want_beginning" "Frames.want_beginning" 644 156 2 361 649
abbrev hd367:Obj:=hdF "want_beginning" "Frames.want_beginning" (inClass (top 22) 14) "framerooms.frames" 518 366
abbrev hd370:Obj:=hdT #[hdS "self" 655,hdS "thing" 656]
abbrev hd372:Obj:=hdG "want_finishing" "Frames.want_finishing" (inClass (top 22) 15)
abbrev hd373:Obj:=hdP "want_finishing" "Frames.want_finishing" 652 161 2 368 657
abbrev hd374:Obj:=hdF "want_finishing" "Frames.want_finishing" (inClass (top 22) 15) "framerooms.frames" 518 373
abbrev hd375:Obj:=hdT #[hdS "parents" 660,hdS "takers" 661]
abbrev hd376:Obj:={cls:= .type "dict",data:=Data.dict #[hdE P "__module__" 531 (hdS "framerooms.frames" 518),hdE P "__firstlineno__" 535 (.int 93 534),hdE P "__init__" 542 (.ref 275),hdE P "begin" 550 (.ref 282),hdE P "finish" 560 (.ref 289),hdE P "part" 566 (.ref 294),hdE P "inside" 574 (.ref 301),hdE P "row" 584 (.ref 308),hdE P "within" 590 (.ref 313),hdE P "ended_by" 598 (.ref 320),hdE P "stands" 606 (.ref 327),hdE P "standing" 612 (.ref 332),hdE P "begun" 619 (.ref 339),hdE P "was_begun" 627 (.ref 346),hdE P "want_begun" 635 (.ref 353),hdE P "want_standing" 643 (.ref 360),hdE P "want_beginning" 651 (.ref 367),hdE P "want_finishing" 659 (.ref 374),hdE P "__static_attributes__" 662 (.ref 375),hdE P "__dict__" 664 (.ref 378),hdE P "__weakref__" 666 (.ref 379),hdE P "__doc__" 667 (.none)] 4}
abbrev hd377:Obj:={cls:= .type "type",data:=Data.cls {name:=Str.ofString "Frames",bases:=[.type "object"],mro:=[.ref 377,.type "object"],ns:=376,qualname:=Str.ofString "Frames"},slots:= #[none,none,some (hdS "Frames" 524),some (hdS "Frames" 532),some (.builtin "object.__new__"),some (.bool true)]}
abbrev hd378:Obj:={cls:= .type "getset_descriptor",data:=Data.fields #[hdS "__dict__" 663,.ref 377,.builtin "function.__dict__",.builtin "function.__dict__#set"]}
abbrev hd379:Obj:={cls:= .type "getset_descriptor",data:=Data.fields #[hdS "__weakref__" 665,.ref 377,.builtin "ExceptionGroup.__weakref__",.none]}
abbrev hd380:Obj:={cls:= .type "super",data:=Data.fields #[.ref 377,.ref 377,.ref 377]}
abbrev hd381:Obj:={cls:= .type "builtin_function_or_method",data:=Data.fields #[.builtin "object.__init_subclass__",.ref 377]}
abbrev hd3xx:Obj:={cls:= .type "dict",data:=Data.dict #[hdE P "__name__" 165 (hdS "law_framerooms_k21_the_eldest_goes" 839),hdE P "__doc__" 166 (.none),hdE P "__package__" 167 (.none),hdE P "__loader__" 168 (.builtin ("__main__.__loader__#opa" ++ "que")),hdE P "__spec__" 169 (.none),hdE P "__annotations__" 170 (.ref 6),hdE P "__builtins__" 171 (.ref 4),hdE P "__file__" 173 (hdS "/claim/cut.py" 172),hdE P "__cached__" 174 (.none),hdE P "_wall" 193 (.ref 21),hdE P "RoomError" 221 (.ref 38),hdE P "NoNumber" 246 (.ref 58),hdE P "NoFrame" 271 (.ref 77),hdE P "Gone" 298 (.ref 96),hdE P "Ground" 321 (.ref 115),hdE P "TooMany" 346 (.ref 134),hdE P "Full" 373 (.ref 153),hdE P "NoWay" 398 (.ref 172),hdE P "NoCell" 423 (.ref 191),hdE P "is_number" 432 (.ref 200),hdE P "is_whole" 441 (.ref 207),hdE P "is_count" 448 (.ref 214),hdE P "is_pair" 455 (.ref 221),hdE P "MOST_OF_RING" 459 (.int 4 458),hdE P "Ring" 517 (.ref 257),hdE P "GROUND" 521 (.int 0 520),hdE P "MOST_FRAMES" 523 (.int 100 522),hdE P "Frames" 669 (.ref 377),hdE P "MOST_CELLS" 673 (.int 1000 672),hdE P "MOST_CELLS_OF_ROOM" 675 (.int 6 674),hdE P "House" 830 (.ref 504),hdE P "want_cell" 838 (.ref 513),hdE P "_law_cell" 848 (.ref 520),hdE P "_law_box" 855 (.ref 527),hdE P "_law_take" 866 (.ref 534),hdE P "_law_house" 873 (.ref 541),hdE P "_law_standing" 879 (.ref 546),hdE P "_law_row" 888 (.ref 553),hdE P "_law_begin" 896 (.ref 560),hdE P "_law_finish" 902 (.ref 565),hdE P "_law_given" 908 (.ref 570),hdE P "_law_used" 914 (.ref 575),hdE P "_law_make" 920 (.ref 580),hdE P "_law_one" 930 (.ref 587),hdE P "_law_frames" 936 (.ref 592),hdE P "_law_turned" 947 (.ref 599),hdE P "_law_deed" 964 (.ref 606),hdE P "_law_touched" 974 (.ref 613),hdE P "_law_right" 980 (.ref 618),hdE P "_law_begun" 995 (.ref 625),hdE P "_law_twinned" 1004 (.ref 632),hdE P "law" 1021 (.ref 639)] 52}
abbrev hd12xxx:Obj:=hdN #[.int 1 0,.int 0 0,.ref 20,.int 5 0,.int 0 0,.ref 27,.int 9 0,.int 0 0,.ref 47,.int 14 0,.int 0 0,.ref 66,.int 19 0,.int 0 0,.ref 85,.int 25 0,.int 0 0,.ref 104,.int 29 0,.int 0 0,.ref 123,.int 34 0,.int 0 0,.ref 142,.int 40 0,.int 0 0,.ref 161,.int 45 0,.int 0 0,.ref 180,.int 51 0,.int 0 0,.ref 199,.int 53 0,.int 0 0,.ref 206,.int 55 0,.int 0 0,.ref 213,.int 57 0,.int 0 0,.ref 220,.int 63 0,.int 0 0,.ref 227,.int 93 0,.int 0 0,.ref 267,.int 168 0,.int 0 0,.ref 387,.int 252 0,.int 0 0,.ref 512,.int 256 0,.int 0 0,.ref 519,.int 260 0,.int 0 0,.ref 526,.int 262 0,.int 0 0,.ref 533,.int 271 0,.int 0 0,.ref 540,.int 273 0,.int 0 0,.ref 545,.int 275 0,.int 0 0,.ref 552,.int 280 0,.int 0 0,.ref 559,.int 284 0,.int 0 0,.ref 564,.int 289 0,.int 0 0,.ref 569,.int 291 0,.int 0 0,.ref 574,.int 293 0,.int 0 0,.ref 579,.int 299 0,.int 0 0,.ref 586,.int 303 0,.int 0 0,.ref 591,.int 305 0,.int 0 0,.ref 598,.int 313 0,.int 0 0,.ref 605,.int 334 0,.int 0 0,.ref 612,.int 341 0,.int 0 0,.ref 617,.int 359 0,.int 0 0,.ref 624,.int 376 0,.int 0 0,.ref 631,.int 383 0,.int 0 0,.ref 638]
abbrev hd377x:Obj:={cls:= .type "type",data:=Data.cls {name:=Str.ofString "Frames",bases:=[.type "object"],mro:=[.ref 377,.type "object"],ns:=376,qualname:=Str.ofString "Frames",subclasses:=[.ref 504]},slots:= #[none,none,some (hdS "Frames" 524),some (hdS "Frames" 532),some (.builtin "object.__new__"),some (.bool true)]}
abbrev hd382:Obj:=hdT #[.ref 377]
abbrev hd384:Obj:={cls:= .type "dict",data:=Data.dict #[hdE P "__module__" 683 (hdS "framerooms.house" 670),hdE P "__qualname__" 685 (hdS "House" 684),hdE P "__firstlineno__" 687 (.int 168 686),hdE P "__init__" 695 (.ref 395),hdE P "make" 707 (.ref 402),hdE P "get" 717 (.ref 409),hdE P "put" 727 (.ref 416),hdE P "size" 735 (.ref 423),hdE P "cells" 743 (.ref 430),hdE P "used" 749 (.ref 435),hdE P "left" 756 (.ref 442),hdE P "limit" 763 (.ref 449),hdE P "greatest" 770 (.ref 456),hdE P "rooms" 776 (.ref 461),hdE P "picture" 783 (.ref 468),hdE P "picture_of" 791 (.ref 475),hdE P "twin" 797 (.ref 480),hdE P "is_way" 805 (.ref 487),hdE P "is_value" 813 (.ref 494),hdE P "want_room" 822 (.ref 501),hdE P "__static_attributes__" 827 (.ref 502)] 21}
abbrev hd386:Obj:=hdN #[.int 170 0,.int 4 0,.ref 394,.int 179 0,.int 4 0,.ref 401,.int 193 0,.int 4 0,.ref 408,.int 198 0,.int 4 0,.ref 415,.int 201 0,.int 4 0,.ref 422,.int 204 0,.int 4 0,.ref 429,.int 207 0,.int 4 0,.ref 434,.int 210 0,.int 4 0,.ref 441,.int 213 0,.int 4 0,.ref 448,.int 216 0,.int 4 0,.ref 455,.int 219 0,.int 4 0,.ref 460,.int 223 0,.int 4 0,.ref 467,.int 226 0,.int 4 0,.ref 474,.int 229 0,.int 4 0,.ref 479,.int 239 0,.int 4 0,.ref 486,.int 242 0,.int 4 0,.ref 493,.int 245 0,.int 4 0,.ref 500]
abbrev hd387:Obj:=hdK "House" "House" 678 168 385 681
abbrev hd388:Obj:={cls:= .type "frame",slots:= #[some (.ref 387),some (.ref 3),some (.ref 384),none,some (hdS "framerooms.house" 670),none,some (.ref 0)]}
abbrev hd391:Obj:=hdT #[hdS "self" 691,hdS "limit" 692]
abbrev hd393:Obj:=hdG "__init__" "House.__init__" (inClass (top 26) 0)
abbrev hd394:Obj:=hdP "__init__" "House.__init__" 688 170 2 389 693
abbrev hd395:Obj:=hdF "__init__" "House.__init__" (inClass (top 26) 0) "framerooms.house" 670 394
abbrev hd398:Obj:=hdT #[hdS "self" 699,hdS "frame" 700,hdS "size" 701,hdS "spare" 702,hdS "place" 703,hdS "floor" 704]
abbrev hd400:Obj:=hdG "make" "House.make" (inClass (top 26) 1)
abbrev hd401:Obj:=hdP "make" "House.make" 696 179 3 396 705
abbrev hd402:Obj:=hdF "make" "House.make" (inClass (top 26) 1) "framerooms.house" 670 401
abbrev hd405:Obj:=hdT #[hdS "self" 711,hdS "way" 712,hdS "k" 713,hdS "room" 714]
abbrev hd407:Obj:=hdG "get" "House.get" (inClass (top 26) 2)
abbrev hd408:Obj:=hdP "get" "House.get" 708 193 3 403 715
abbrev hd409:Obj:=hdF "get" "House.get" (inClass (top 26) 2) "framerooms.house" 670 408
abbrev hd412:Obj:=hdT #[hdS "self" 721,hdS "way" 722,hdS "k" 723,hdS "value" 724]
abbrev hd414:Obj:=hdG "put" "House.put" (inClass (top 26) 3)
abbrev hd415:Obj:=hdP "put" "House.put" 718 198 4 410 725
abbrev hd416:Obj:=hdF "put" "House.put" (inClass (top 26) 3) "framerooms.house" 670 415
abbrev hd419:Obj:=hdT #[hdS "self" 731,hdS "way" 732]
abbrev hd421:Obj:=hdG "size" "House.size" (inClass (top 26) 4)
abbrev hd422:Obj:=hdP "size" "House.size" 728 201 2 417 733
abbrev hd423:Obj:=hdF "size" "House.size" (inClass (top 26) 4) "framerooms.house" 670 422
abbrev hd426:Obj:=hdT #[hdS "self" 739,hdS "way" 740]
abbrev hd428:Obj:=hdG "cells" "House.cells" (inClass (top 26) 5)
abbrev hd429:Obj:=hdP "cells" "House.cells" 736 204 2 424 741
abbrev hd430:Obj:=hdF "cells" "House.cells" (inClass (top 26) 5) "framerooms.house" 670 429
abbrev hd433:Obj:=hdG "used" "House.used" (inClass (top 26) 6)
abbrev hd434:Obj:=hdO #[hdS "used" 744,hdS "House.used" 745,hdS "/claim/cut.py" 746,.int 207 0,.int 1 0,.int 0 0,.int 0 0,.int 3 0,.ref 431,.bool true,.int 181 0,.ref 432,.none,.none,.none,.ref 433,.int 747 0,.int 207 0,hdS "/claim/cut.py" 748]
abbrev hd435:Obj:=hdF "used" "House.used" (inClass (top 26) 6) "framerooms.house" 670 434
abbrev hd438:Obj:=hdT #[hdS "self" 753]
abbrev hd440:Obj:=hdG "left" "House.left" (inClass (top 26) 7)
abbrev hd441:Obj:=hdP "left" "House.left" 750 210 1 436 754
abbrev hd442:Obj:=hdF "left" "House.left" (inClass (top 26) 7) "framerooms.house" 670 441
abbrev hd445:Obj:=hdT #[hdS "self" 760]
abbrev hd447:Obj:=hdG "limit" "House.limit" (inClass (top 26) 8)
abbrev hd448:Obj:=hdP "limit" "House.limit" 757 213 1 443 761
abbrev hd449:Obj:=hdF "limit" "House.limit" (inClass (top 26) 8) "framerooms.house" 670 448
abbrev hd452:Obj:=hdT #[hdS "self" 767]
abbrev hd454:Obj:=hdG "greatest" "House.greatest" (inClass (top 26) 9)
abbrev hd455:Obj:=hdP "greatest" "House.greatest" 764 216 1 450 768
abbrev hd456:Obj:=hdF "greatest" "House.greatest" (inClass (top 26) 9) "framerooms.house" 670 455
abbrev hd459:Obj:=hdG "rooms" "House.rooms" (inClass (top 26) 10)
abbrev hd460:Obj:=hdO #[hdS "rooms" 771,hdS "House.rooms" 772,hdS "/claim/cut.py" 773,.int 219 0,.int 2 0,.int 0 0,.int 0 0,.int 3 0,.ref 457,.bool true,.int 181 0,.ref 458,.none,.none,.none,.ref 459,.int 774 0,.int 219 0,hdS "/claim/cut.py" 775]
abbrev hd461:Obj:=hdF "rooms" "House.rooms" (inClass (top 26) 10) "framerooms.house" 670 460
abbrev hd464:Obj:=hdT #[hdS "self" 780]
abbrev hd466:Obj:=hdG "picture" "House.picture" (inClass (top 26) 11)
abbrev hd467:Obj:=hdP "picture" "House.picture" 777 223 1 462 781
abbrev hd468:Obj:=hdF "picture" "House.picture" (inClass (top 26) 11) "framerooms.house" 670 467
abbrev hd471:Obj:=hdT #[hdS "self" 787,hdS "frame" 788]
abbrev hd473:Obj:=hdG "picture_of" "House.picture_of" (inClass (top 26) 12)
abbrev hd474:Obj:=hdP "picture_of" "House.picture_of" 784 226 2 469 789
abbrev hd475:Obj:=hdF "picture_of" "House.picture_of" (inClass (top 26) 12) "framerooms.house" 670 474
abbrev hd478:Obj:=hdG "twin" "House.twin" (inClass (top 26) 13)
abbrev hd479:Obj:=hdO #[hdS "twin" 792,hdS "House.twin" 793,hdS "/claim/cut.py" 794,.int 229 0,.int 1 0,.int 0 0,.int 0 0,.int 3 0,.ref 476,.bool true,.int 181 0,.ref 477,.none,.none,.none,.ref 478,.int 795 0,.int 229 0,hdS "/claim/cut.py" 796]
abbrev hd480:Obj:=hdF "twin" "House.twin" (inClass (top 26) 13) "framerooms.house" 670 479
abbrev hd483:Obj:=hdT #[hdS "self" 801,hdS "thing" 802]
abbrev hd485:Obj:=hdG "is_way" "House.is_way" (inClass (top 26) 14)
abbrev hd486:Obj:=hdP "is_way" "House.is_way" 798 239 2 481 803
abbrev hd487:Obj:=hdF "is_way" "House.is_way" (inClass (top 26) 14) "framerooms.house" 670 486
abbrev hd490:Obj:=hdT #[hdS "self" 809,hdS "thing" 810]
abbrev hd492:Obj:=hdG "is_value" "House.is_value" (inClass (top 26) 15)
abbrev hd493:Obj:=hdP "is_value" "House.is_value" 806 242 2 488 811
abbrev hd494:Obj:=hdF "is_value" "House.is_value" (inClass (top 26) 15) "framerooms.house" 670 493
abbrev hd497:Obj:=hdT #[hdS "self" 817,hdS "thing" 818,hdS "taker" 819]
abbrev hd499:Obj:=hdG "want_room" "House.want_room" (inClass (top 26) 16)
abbrev hd500:Obj:=hdP "want_room" "House.want_room" 814 245 2 495 820
abbrev hd501:Obj:=hdF "want_room" "House.want_room" (inClass (top 26) 16) "framerooms.house" 670 500
abbrev hd502:Obj:=hdT #[hdS "bound" 823,hdS "floors" 824,hdS "lengths" 825,hdS "peak" 826]
abbrev hd503:Obj:={cls:= .type "dict",data:=Data.dict #[hdE P "__module__" 683 (hdS "framerooms.house" 670),hdE P "__firstlineno__" 687 (.int 168 686),hdE P "__init__" 695 (.ref 395),hdE P "make" 707 (.ref 402),hdE P "get" 717 (.ref 409),hdE P "put" 727 (.ref 416),hdE P "size" 735 (.ref 423),hdE P "cells" 743 (.ref 430),hdE P "used" 749 (.ref 435),hdE P "left" 756 (.ref 442),hdE P "limit" 763 (.ref 449),hdE P "greatest" 770 (.ref 456),hdE P "rooms" 776 (.ref 461),hdE P "picture" 783 (.ref 468),hdE P "picture_of" 791 (.ref 475),hdE P "twin" 797 (.ref 480),hdE P "is_way" 805 (.ref 487),hdE P "is_value" 813 (.ref 494),hdE P "want_room" 822 (.ref 501),hdE P "__static_attributes__" 827 (.ref 502),hdE P "__doc__" 828 (.none)] 2}
abbrev hd504:Obj:={cls:= .type "type",data:=Data.cls {name:=Str.ofString "House",bases:=[.ref 377],mro:=[.ref 504,.ref 377,.type "object"],ns:=503,qualname:=Str.ofString "House"},slots:= #[some (.ref 382),none,some (hdS "House" 676),some (hdS "House" 684),some (.builtin "object.__new__"),some (.bool true)]}
abbrev hd505:Obj:={cls:= .type "super",data:=Data.fields #[.ref 504,.ref 504,.ref 504]}
abbrev hd506:Obj:={cls:= .type "builtin_function_or_method",data:=Data.fields #[.builtin "object.__init_subclass__",.ref 504]}
abbrev hd509:Obj:=hdT #[hdS "room" 834,hdS "thing" 835]
abbrev hd511:Obj:=hdG "want_cell" "want_cell" (top 27)
abbrev hd512:Obj:=hdP "want_cell" "want_cell" 831 252 2 507 836
abbrev hd513:Obj:=hdF "want_cell" "want_cell" (top 27) "framerooms.house" 670 512
abbrev hd516:Obj:=hdT #[hdS "_law_script" 844,hdS "_law_k" 845]
abbrev hd518:Obj:=hdG "_law_cell" "_law_cell" (top 29)
abbrev hd519:Obj:=hdP "_law_cell" "_law_cell" 841 256 2 514 846
abbrev hd520:Obj:=hdF "_law_cell" "_law_cell" (top 29) "law_framerooms_k21_the_eldest_goes" 839 519
abbrev hd523:Obj:=hdT #[hdS "_law_cell_here" 852]
abbrev hd525:Obj:=hdG "_law_box" "_law_box" (top 30)
abbrev hd526:Obj:=hdP "_law_box" "_law_box" 849 260 1 521 853
abbrev hd527:Obj:=hdF "_law_box" "_law_box" (top 30) "law_framerooms_k21_the_eldest_goes" 839 526
abbrev hd530:Obj:=hdT #[hdS "_law_box_here" 859,hdS "_law_many" 860,hdS "_law_digit" 861,hdS "_law_one_here" 862,hdS "_law_other" 863]
abbrev hd532:Obj:=hdG "_law_take" "_law_take" (top 31)
abbrev hd533:Obj:=hdP "_law_take" "_law_take" 856 262 2 528 864
abbrev hd534:Obj:=hdF "_law_take" "_law_take" (top 31) "law_framerooms_k21_the_eldest_goes" 839 533
abbrev hd537:Obj:=hdT #[hdS "_law_limit" 870]
abbrev hd539:Obj:=hdG "_law_house" "_law_house" (top 32)
abbrev hd540:Obj:=hdP "_law_house" "_law_house" 867 271 1 535 871
abbrev hd541:Obj:=hdF "_law_house" "_law_house" (top 32) "law_framerooms_k21_the_eldest_goes" 839 540
abbrev hd544:Obj:=hdG "_law_standing" "_law_standing" (top 33)
abbrev hd545:Obj:=hdO #[hdS "_law_standing" 874,hdS "_law_standing" 875,hdS "/claim/cut.py" 876,.int 273 0,.int 1 0,.int 0 0,.int 0 0,.int 3 0,.ref 542,.bool true,.int 181 0,.ref 543,.none,.none,.none,.ref 544,.int 877 0,.int 273 0,hdS "/claim/cut.py" 878]
abbrev hd546:Obj:=hdF "_law_standing" "_law_standing" (top 33) "law_framerooms_k21_the_eldest_goes" 839 545
abbrev hd549:Obj:=hdT #[hdS "_law_model" 883,hdS "_law_frame" 884,hdS "_law_found" 885]
abbrev hd551:Obj:=hdG "_law_row" "_law_row" (top 34)
abbrev hd552:Obj:=hdP "_law_row" "_law_row" 880 275 2 547 886
abbrev hd553:Obj:=hdF "_law_row" "_law_row" (top 34) "law_framerooms_k21_the_eldest_goes" 839 552
abbrev hd556:Obj:=hdT #[hdS "_law_model" 892,hdS "_law_frame" 893]
abbrev hd558:Obj:=hdG "_law_begin" "_law_begin" (top 35)
abbrev hd559:Obj:=hdP "_law_begin" "_law_begin" 889 280 2 554 894
abbrev hd560:Obj:=hdF "_law_begin" "_law_begin" (top 35) "law_framerooms_k21_the_eldest_goes" 839 559
abbrev hd563:Obj:=hdG "_law_finish" "_law_finish" (top 36)
abbrev hd564:Obj:=hdO #[hdS "_law_finish" 897,hdS "_law_finish" 898,hdS "/claim/cut.py" 899,.int 284 0,.int 2 0,.int 0 0,.int 0 0,.int 3 0,.ref 561,.bool true,.int 181 0,.ref 562,.none,.none,.none,.ref 563,.int 900 0,.int 284 0,hdS "/claim/cut.py" 901]
abbrev hd565:Obj:=hdF "_law_finish" "_law_finish" (top 36) "law_framerooms_k21_the_eldest_goes" 839 564
abbrev hd568:Obj:=hdG "_law_given" "_law_given" (top 37)
abbrev hd569:Obj:=hdO #[hdS "_law_given" 903,hdS "_law_given" 904,hdS "/claim/cut.py" 905,.int 289 0,.int 2 0,.int 0 0,.int 0 0,.int 3 0,.ref 566,.bool true,.int 181 0,.ref 567,.none,.none,.none,.ref 568,.int 906 0,.int 289 0,hdS "/claim/cut.py" 907]
abbrev hd570:Obj:=hdF "_law_given" "_law_given" (top 37) "law_framerooms_k21_the_eldest_goes" 839 569
abbrev hd573:Obj:=hdG "_law_used" "_law_used" (top 38)
abbrev hd574:Obj:=hdO #[hdS "_law_used" 909,hdS "_law_used" 910,hdS "/claim/cut.py" 911,.int 291 0,.int 1 0,.int 0 0,.int 0 0,.int 3 0,.ref 571,.bool true,.int 181 0,.ref 572,.none,.none,.none,.ref 573,.int 912 0,.int 291 0,hdS "/claim/cut.py" 913]
abbrev hd575:Obj:=hdF "_law_used" "_law_used" (top 38) "law_framerooms_k21_the_eldest_goes" 839 574
abbrev hd578:Obj:=hdG "_law_make" "_law_make" (top 39)
abbrev hd579:Obj:=hdO #[hdS "_law_make" 915,hdS "_law_make" 916,hdS "/claim/cut.py" 917,.int 293 0,.int 3 0,.int 0 0,.int 0 0,.int 3 0,.ref 576,.bool true,.int 181 0,.ref 577,.none,.none,.none,.ref 578,.int 918 0,.int 293 0,hdS "/claim/cut.py" 919]
abbrev hd580:Obj:=hdF "_law_make" "_law_make" (top 39) "law_framerooms_k21_the_eldest_goes" 839 579
abbrev hd583:Obj:=hdT #[hdS "_law_box_here" 924,hdS "_law_some" 925,hdS "_law_way" 926,hdS "_law_at" 927]
abbrev hd585:Obj:=hdG "_law_one" "_law_one" (top 40)
abbrev hd586:Obj:=hdP "_law_one" "_law_one" 921 299 2 581 928
abbrev hd587:Obj:=hdF "_law_one" "_law_one" (top 40) "law_framerooms_k21_the_eldest_goes" 839 586
abbrev hd590:Obj:=hdG "_law_frames" "_law_frames" (top 41)
abbrev hd591:Obj:=hdO #[hdS "_law_frames" 931,hdS "_law_frames" 932,hdS "/claim/cut.py" 933,.int 303 0,.int 2 0,.int 0 0,.int 0 0,.int 3 0,.ref 588,.bool true,.int 181 0,.ref 589,.none,.none,.none,.ref 590,.int 934 0,.int 303 0,hdS "/claim/cut.py" 935]
abbrev hd592:Obj:=hdF "_law_frames" "_law_frames" (top 41) "law_framerooms_k21_the_eldest_goes" 839 591
abbrev hd595:Obj:=hdT #[hdS "_law_model" 940,hdS "_law_ring" 941,hdS "_law_own" 942,hdS "_law_ended" 943,hdS "_law_new" 944]
abbrev hd597:Obj:=hdG "_law_turned" "_law_turned" (top 42)
abbrev hd598:Obj:=hdP "_law_turned" "_law_turned" 937 305 2 593 945
abbrev hd599:Obj:=hdF "_law_turned" "_law_turned" (top 42) "law_framerooms_k21_the_eldest_goes" 839 598
abbrev hd602:Obj:=hdT #[hdS "_law_box_here" 951,hdS "_law_house_here" 952,hdS "_law_model" 953,hdS "_law_rings" 954,hdS "_law_rows" 955,hdS "_law_act" 956,hdS "_law_at" 957,hdS "_law_near" 958,hdS "_law_frame" 959,hdS "_law_size" 960,hdS "_law_found" 961]
abbrev hd604:Obj:=hdG "_law_deed" "_law_deed" (top 43)
abbrev hd605:Obj:=hdP "_law_deed" "_law_deed" 948 313 5 600 962
abbrev hd606:Obj:=hdF "_law_deed" "_law_deed" (top 43) "law_framerooms_k21_the_eldest_goes" 839 605
abbrev hd609:Obj:=hdT #[hdS "_law_house_here" 968,hdS "_law_way" 969,hdS "_law_found" 970,hdS "e" 971]
abbrev hd611:Obj:=hdG "_law_touched" "_law_touched" (top 44)
abbrev hd612:Obj:=hdP "_law_touched" "_law_touched" 965 334 2 607 972
abbrev hd613:Obj:=hdF "_law_touched" "_law_touched" (top 44) "law_framerooms_k21_the_eldest_goes" 839 612
abbrev hd616:Obj:=hdG "_law_right" "_law_right" (top 45)
abbrev hd617:Obj:=hdO #[hdS "_law_right" 975,hdS "_law_right" 976,hdS "/claim/cut.py" 977,.int 341 0,.int 4 0,.int 0 0,.int 0 0,.int 3 0,.ref 614,.bool true,.int 181 0,.ref 615,.none,.none,.none,.ref 616,.int 978 0,.int 341 0,hdS "/claim/cut.py" 979]
abbrev hd618:Obj:=hdF "_law_right" "_law_right" (top 45) "law_framerooms_k21_the_eldest_goes" 839 617
abbrev hd621:Obj:=hdT #[hdS "_law_box_here" 984,hdS "_law_flat" 985,hdS "_law_house_here" 986,hdS "_law_model" 987,hdS "_law_rings" 988,hdS "_law_rows" 989,hdS "_law_turn" 990,hdS "_law_outer" 991,hdS "_law_many" 992]
abbrev hd623:Obj:=hdG "_law_begun" "_law_begun" (top 46)
abbrev hd624:Obj:=hdP "_law_begun" "_law_begun" 981 359 1 619 993
abbrev hd625:Obj:=hdF "_law_begun" "_law_begun" (top 46) "law_framerooms_k21_the_eldest_goes" 839 624
abbrev hd628:Obj:=hdT #[hdS "_law_house_here" 999,hdS "_law_twin" 1000,hdS "_law_frame" 1001]
abbrev hd630:Obj:=hdG "_law_twinned" "_law_twinned" (top 47)
abbrev hd631:Obj:=hdP "_law_twinned" "_law_twinned" 996 376 1 626 1002
abbrev hd632:Obj:=hdF "_law_twinned" "_law_twinned" (top 47) "law_framerooms_k21_the_eldest_goes" 839 631
abbrev hd635:Obj:=hdT #[hdS "_law_script" 1008,hdS "_law_box_here" 1009,hdS "_law_both" 1010,hdS "_law_k" 1011,hdS "_law_at" 1012,hdS "_law_twins" 1013,hdS "_law_turn" 1014,hdS "_law_house_here" 1015,hdS "_law_model" 1016,hdS "_law_rings" 1017,hdS "_law_rows" 1018]
abbrev hd637:Obj:=hdG "law" "law" (top 48)
abbrev hd638:Obj:=hdP "law" "law" 1005 383 1 633 1019
abbrev hd639:Obj:=hdF "law" "law" (top 48) "law_framerooms_k21_the_eldest_goes" 839 638
def hdH_pre:Heap:=⟨⟨[boot_o_0 P,boot_o_1 P,boot_o_2 P,boot_o_3 P,boot_o_4 P,boot_o_5 P,boot_o_6 P,boot_o_7 P,boot_o_8 P,boot_o_9 P,boot_o_10 P,hd11,hd12,hd13,hd14]⟩,{}⟩
def hdH_cut9:Heap:=⟨⟨[boot_o_0 P,boot_o_1 P,boot_o_2 P,hd3 P,boot_o_4 P,boot_o_5 P,boot_o_6 P,boot_o_7 P,boot_o_8 P,boot_o_9 P,boot_o_10 P,hd11,hd12x,hd13,hd14,hd11,hd12,hd17,hd11,hd19,hd20,hd21,hd22,hd23,hd24 P,hd11,hd26,hd27,hd28,hd11,hd12,hd31,hd11,hd33,hd34,hd35,hd11,hd37 P,hd38,hd39,hd40,hd41,hd42,hd23,hd44 P,hd11,hd46,hd47,hd48,hd11,hd12,hd51,hd11,hd53,hd54,hd55,hd56,hd57 P,hd58,hd59,hd60,hd42,hd23,hd63 P,hd11,hd65,hd66,hd67,hd11,hd12,hd70,hd11,hd72,hd73,hd74,hd75,hd76 P,hd77,hd78,hd79,hd42,hd23,hd82 P,hd11,hd84,hd85,hd86,hd11,hd12,hd89,hd11,hd91,hd92,hd93,hd94,hd95 P,hd96,hd97,hd98,hd42,hd23,hd101 P,hd11,hd103,hd104,hd105,hd11,hd12,hd108,hd11,hd110,hd111,hd112,hd11,hd114 P,hd115,hd116,hd117,hd42,hd23,hd120 P,hd11,hd122,hd123,hd124,hd11,hd12,hd127,hd11,hd129,hd130,hd131,hd132,hd133 P,hd134,hd135,hd136,hd42,hd23,hd139 P,hd11,hd141,hd142,hd143,hd11,hd12,hd146,hd11,hd148,hd149,hd150,hd151,hd152 P,hd153,hd154,hd155,hd42,hd23,hd158 P,hd11,hd160,hd161,hd162,hd11,hd12,hd165,hd11,hd167,hd168,hd169,hd170,hd171 P,hd172,hd173,hd174]⟩,{}⟩
def hdH_cut22:Heap:=⟨⟨[boot_o_0 P,boot_o_1 P,boot_o_2 P,hd3x P,boot_o_4 P,boot_o_5 P,boot_o_6 P,boot_o_7 P,boot_o_8 P,boot_o_9 P,boot_o_10 P,hd11,hd12xx,hd13,hd14,hd11,hd12,hd17,hd11,hd19,hd20,hd21,hd22,hd23,hd24 P,hd11,hd26,hd27,hd28,hd11,hd12,hd31,hd11,hd33,hd34,hd35,hd11,hd37 P,hd38x,hd39,hd40,hd41,hd42,hd23,hd44 P,hd11,hd46,hd47,hd48,hd11,hd12,hd51,hd11,hd53,hd54,hd55,hd56,hd57 P,hd58,hd59,hd60,hd42,hd23,hd63 P,hd11,hd65,hd66,hd67,hd11,hd12,hd70,hd11,hd72,hd73,hd74,hd75,hd76 P,hd77,hd78,hd79,hd42,hd23,hd82 P,hd11,hd84,hd85,hd86,hd11,hd12,hd89,hd11,hd91,hd92,hd93,hd94,hd95 P,hd96,hd97,hd98,hd42,hd23,hd101 P,hd11,hd103,hd104,hd105,hd11,hd12,hd108,hd11,hd110,hd111,hd112,hd11,hd114 P,hd115,hd116,hd117,hd42,hd23,hd120 P,hd11,hd122,hd123,hd124,hd11,hd12,hd127,hd11,hd129,hd130,hd131,hd132,hd133 P,hd134,hd135,hd136,hd42,hd23,hd139 P,hd11,hd141,hd142,hd143,hd11,hd12,hd146,hd11,hd148,hd149,hd150,hd151,hd152 P,hd153,hd154,hd155,hd42,hd23,hd158 P,hd11,hd160,hd161,hd162,hd11,hd12,hd165,hd11,hd167,hd168,hd169,hd170,hd171 P,hd172,hd173,hd174,hd42,hd23,hd177 P,hd11,hd179,hd180,hd181,hd11,hd12,hd184,hd11,hd186,hd187,hd188,hd189,hd190 P,hd191,hd192,hd193,hd11,hd12,hd196,hd11,hd198,hd199,hd200,hd11,hd12,hd203,hd11,hd205,hd206,hd207,hd11,hd12,hd210,hd11,hd212,hd213,hd214,hd11,hd12,hd217,hd11,hd219,hd220,hd221,hd11,hd23,hd224 P,hd11,hd226,hd227,hd228,hd11,hd12,hd231,hd11,hd233,hd234,hd235,hd11,hd12,hd238,hd11,hd240,hd241,hd242,hd11,hd12,hd245,hd246,hd247,hd11,hd12,hd250,hd11,hd252,hd253,hd254,hd255,hd256 P,hd257,hd258,hd259,hd260,hd261,hd11,hd23,hd264 P,hd11,hd266,hd267,hd268,hd11,hd12,hd271,hd11,hd273,hd274,hd275,hd11,hd12,hd278,hd11,hd280,hd281,hd282,hd11,hd12,hd285,hd11,hd287,hd288,hd289,hd11,hd12,hd292,hd293,hd294,hd11,hd12,hd297,hd11,hd299,hd300,hd301,hd11,hd12,hd304,hd11,hd306,hd307,hd308,hd11,hd12,hd311,hd312,hd313,hd11,hd12,hd316,hd11,hd318,hd319,hd320,hd11,hd12,hd323,hd11,hd325,hd326,hd327,hd11,hd12,hd330,hd331,hd332,hd11,hd12,hd335,hd11,hd337,hd338,hd339,hd11,hd12,hd342,hd11,hd344,hd345,hd346,hd11,hd12,hd349,hd11,hd351,hd352,hd353,hd11,hd12,hd356,hd11,hd358,hd359,hd360,hd11,hd12,hd363,hd11,hd365,hd366,hd367,hd11,hd12,hd370,hd11,hd372,hd373,hd374,hd375,hd376 P,hd377,hd378,hd379,hd380,hd381]⟩,{}⟩
def hdH_last:Heap:=⟨⟨[boot_o_0 P,boot_o_1 P,boot_o_2 P,hd3xx P,boot_o_4 P,boot_o_5 P,boot_o_6 P,boot_o_7 P,boot_o_8 P,boot_o_9 P,boot_o_10 P,hd11,hd12xxx,hd13,hd14,hd11,hd12,hd17,hd11,hd19,hd20,hd21,hd22,hd23,hd24 P,hd11,hd26,hd27,hd28,hd11,hd12,hd31,hd11,hd33,hd34,hd35,hd11,hd37 P,hd38x,hd39,hd40,hd41,hd42,hd23,hd44 P,hd11,hd46,hd47,hd48,hd11,hd12,hd51,hd11,hd53,hd54,hd55,hd56,hd57 P,hd58,hd59,hd60,hd42,hd23,hd63 P,hd11,hd65,hd66,hd67,hd11,hd12,hd70,hd11,hd72,hd73,hd74,hd75,hd76 P,hd77,hd78,hd79,hd42,hd23,hd82 P,hd11,hd84,hd85,hd86,hd11,hd12,hd89,hd11,hd91,hd92,hd93,hd94,hd95 P,hd96,hd97,hd98,hd42,hd23,hd101 P,hd11,hd103,hd104,hd105,hd11,hd12,hd108,hd11,hd110,hd111,hd112,hd11,hd114 P,hd115,hd116,hd117,hd42,hd23,hd120 P,hd11,hd122,hd123,hd124,hd11,hd12,hd127,hd11,hd129,hd130,hd131,hd132,hd133 P,hd134,hd135,hd136,hd42,hd23,hd139 P,hd11,hd141,hd142,hd143,hd11,hd12,hd146,hd11,hd148,hd149,hd150,hd151,hd152 P,hd153,hd154,hd155,hd42,hd23,hd158 P,hd11,hd160,hd161,hd162,hd11,hd12,hd165,hd11,hd167,hd168,hd169,hd170,hd171 P,hd172,hd173,hd174,hd42,hd23,hd177 P,hd11,hd179,hd180,hd181,hd11,hd12,hd184,hd11,hd186,hd187,hd188,hd189,hd190 P,hd191,hd192,hd193,hd11,hd12,hd196,hd11,hd198,hd199,hd200,hd11,hd12,hd203,hd11,hd205,hd206,hd207,hd11,hd12,hd210,hd11,hd212,hd213,hd214,hd11,hd12,hd217,hd11,hd219,hd220,hd221,hd11,hd23,hd224 P,hd11,hd226,hd227,hd228,hd11,hd12,hd231,hd11,hd233,hd234,hd235,hd11,hd12,hd238,hd11,hd240,hd241,hd242,hd11,hd12,hd245,hd246,hd247,hd11,hd12,hd250,hd11,hd252,hd253,hd254,hd255,hd256 P,hd257,hd258,hd259,hd260,hd261,hd11,hd23,hd264 P,hd11,hd266,hd267,hd268,hd11,hd12,hd271,hd11,hd273,hd274,hd275,hd11,hd12,hd278,hd11,hd280,hd281,hd282,hd11,hd12,hd285,hd11,hd287,hd288,hd289,hd11,hd12,hd292,hd293,hd294,hd11,hd12,hd297,hd11,hd299,hd300,hd301,hd11,hd12,hd304,hd11,hd306,hd307,hd308,hd11,hd12,hd311,hd312,hd313,hd11,hd12,hd316,hd11,hd318,hd319,hd320,hd11,hd12,hd323,hd11,hd325,hd326,hd327,hd11,hd12,hd330,hd331,hd332,hd11,hd12,hd335,hd11,hd337,hd338,hd339,hd11,hd12,hd342,hd11,hd344,hd345,hd346,hd11,hd12,hd349,hd11,hd351,hd352,hd353,hd11,hd12,hd356,hd11,hd358,hd359,hd360,hd11,hd12,hd363,hd11,hd365,hd366,hd367,hd11,hd12,hd370,hd11,hd372,hd373,hd374,hd375,hd376 P,hd377x,hd378,hd379,hd380,hd381,hd382,hd23,hd384 P,hd11,hd386,hd387,hd388,hd11,hd12,hd391,hd11,hd393,hd394,hd395,hd11,hd12,hd398,hd11,hd400,hd401,hd402,hd11,hd12,hd405,hd11,hd407,hd408,hd409,hd11,hd12,hd412,hd11,hd414,hd415,hd416,hd11,hd12,hd419,hd11,hd421,hd422,hd423,hd11,hd12,hd426,hd11,hd428,hd429,hd430,hd11,hd12,hd433,hd434,hd435,hd11,hd12,hd438,hd11,hd440,hd441,hd442,hd11,hd12,hd445,hd11,hd447,hd448,hd449,hd11,hd12,hd452,hd11,hd454,hd455,hd456,hd11,hd12,hd459,hd460,hd461,hd11,hd12,hd464,hd11,hd466,hd467,hd468,hd11,hd12,hd471,hd11,hd473,hd474,hd475,hd11,hd12,hd478,hd479,hd480,hd11,hd12,hd483,hd11,hd485,hd486,hd487,hd11,hd12,hd490,hd11,hd492,hd493,hd494,hd11,hd12,hd497,hd11,hd499,hd500,hd501,hd502,hd503 P,hd504,hd505,hd506,hd11,hd12,hd509,hd11,hd511,hd512,hd513,hd11,hd12,hd516,hd11,hd518,hd519,hd520,hd11,hd12,hd523,hd11,hd525,hd526,hd527,hd11,hd12,hd530,hd11,hd532,hd533,hd534,hd11,hd12,hd537,hd11,hd539,hd540,hd541,hd11,hd12,hd544,hd545,hd546,hd11,hd12,hd549,hd11,hd551,hd552,hd553,hd11,hd12,hd556,hd11,hd558,hd559,hd560,hd11,hd12,hd563,hd564,hd565,hd11,hd12,hd568,hd569,hd570,hd11,hd12,hd573,hd574,hd575,hd11,hd12,hd578,hd579,hd580,hd11,hd12,hd583,hd11,hd585,hd586,hd587,hd11,hd12,hd590,hd591,hd592,hd11,hd12,hd595,hd11,hd597,hd598,hd599,hd11,hd12,hd602,hd11,hd604,hd605,hd606,hd11,hd12,hd609,hd11,hd611,hd612,hd613,hd11,hd12,hd616,hd617,hd618,hd11,hd12,hd621,hd11,hd623,hd624,hd625,hd11,hd12,hd628,hd11,hd630,hd631,hd632,hd11,hd12,hd635,hd11,hd637,hd638,hd639]⟩,{}⟩
end
noncomputable abbrev hdPr:Program:=PySem.Challenge.rw_framerooms_k21_the_eldest_goes.row.prog
noncomputable def hdEnv:Env:={scope:=hdPr.main.scope,locals:=mainNs,globals:=mainNs,cells:=[],code:=Value.ref 13,frame:=some 14}
noncomputable def hdB:List Stmt:=behindTheImports hdPr
noncomputable def hdC:Code:=Code.body hdB hdEnv
def hdAnn:Option Value:=some (Value.ref 6)
abbrev hdQ:Pos:={line:=0,col:=0,endLine:=0,endCol:=0}
theorem hdRunPre(w:World)(os:OsState):topGo treeTable hdPr w 11 hdAnn 12 ⟨boot_heap w.params,⟨[]⟩,boot_drawn,boot_toks,os⟩ (topStub hdPr)=some (⟨hdH_pre w.params,⟨[]⟩,{},187,os⟩,⟨denote treeTable hdC,hdC,{line:=0,col:=0,endLine:=0,endCol:=0},[topFrame hdQ]⟩):=by kernel_rfl
theorem hdRunBlock(w:World)(os:OsState):segRun treeTable hdPr w 11 hdAnn 1 1 ⟨hdH_pre w.params,⟨[]⟩,{},187,os⟩ (blockOf hdB hdEnv hdC {line:=0,col:=0,endLine:=0,endCol:=0} [topFrame hdQ])=some (.next,⟨hdH_pre w.params,⟨[]⟩,{},187,os⟩,hdC,{line:=0,col:=0,endLine:=0,endCol:=0}):=by kernel_rfl
theorem hdRun9(w:World)(os:OsState):segRun treeTable hdPr w 11 hdAnn 1 1973 ⟨hdH_pre w.params,⟨[]⟩,{},187,os⟩ (piecesOf ((hdB.drop 0).take 10) hdEnv hdC {line:=0,col:=0,endLine:=0,endCol:=0} [topFrame hdQ])=some (.next,⟨hdH_cut9 w.params,⟨[]⟩,{},399,os⟩,hdC,{line:=40,col:=0,endLine:=44,endCol:=26}):=by kernel_rfl
theorem hdRun22(w:World)(os:OsState):segRun treeTable hdPr w 11 hdAnn 1 1432 ⟨hdH_cut9 w.params,⟨[]⟩,{},399,os⟩ (piecesOf ((hdB.drop 10).take 13) hdEnv hdC {line:=40,col:=0,endLine:=44,endCol:=26} [topFrame hdQ])=some (.next,⟨hdH_cut22 w.params,⟨[]⟩,{},670,os⟩,hdC,{line:=93,col:=0,endLine:=164,endCol:=26}):=by kernel_rfl
theorem hdRun48(w:World)(os:OsState):segRun treeTable hdPr w 11 hdAnn 1 1427 ⟨hdH_cut22 w.params,⟨[]⟩,{},670,os⟩ (piecesOf ((hdB.drop 23).take 26) hdEnv hdC {line:=93,col:=0,endLine:=164,endCol:=26} [topFrame hdQ])=some (.next,⟨hdH_last w.params,⟨[]⟩,{},1022,os⟩,hdC,{line:=383,col:=0,endLine:=399,endCol:=15}):=by kernel_rfl
theorem hdRunFin(w:World)(os:OsState):topRun treeTable hdPr w 11 hdAnn 2 ⟨hdH_last w.params,⟨[]⟩,{},1022,os⟩ ⟨doneF .next,hdC,{line:=383,col:=0,endLine:=399,endCol:=15},[topFrame hdQ]⟩=some ⟨hdH_last w.params,⟨[]⟩,{},1022,os⟩:=by kernel_rfl
theorem hdEnd(w:World)(os:OsState):topRun treeTable hdPr w 11 hdAnn 2 ⟨hdH_last w.params,⟨[]⟩,{},1022,os⟩ (restOf [] hdEnv hdC {line:=383,col:=0,endLine:=399,endCol:=15} [topFrame hdQ])=some ⟨hdH_last w.params,⟨[]⟩,{},1022,os⟩:=piece_nil (hdRunFin w os)
theorem hdNil:hdB.drop 49=[]:=by kernel_rfl
theorem hdSplit48:((hdB.drop 23).take 26)++([])=hdB.drop 23:=by rw[←hdNil];have:=List.take_append_drop 26 (hdB.drop 23);rwa[List.drop_drop] at this
theorem hdFrom48(w:World)(os:OsState):topRun treeTable hdPr w 11 hdAnn (1427+2) ⟨hdH_cut22 w.params,⟨[]⟩,{},670,os⟩ (restOf (hdB.drop 23) hdEnv hdC {line:=93,col:=0,endLine:=164,endCol:=26} [topFrame hdQ])=some ⟨hdH_last w.params,⟨[]⟩,{},1022,os⟩:=by rw[←hdSplit48];exact piece_app (hdRun48 w os) (hdEnd w os)
theorem hdSplit22:((hdB.drop 10).take 13)++(hdB.drop 23)=hdB.drop 10:=by have:=List.take_append_drop 13 (hdB.drop 10);rwa[List.drop_drop] at this
theorem hdFrom22(w:World)(os:OsState):topRun treeTable hdPr w 11 hdAnn (1432+(1427+2)) ⟨hdH_cut9 w.params,⟨[]⟩,{},399,os⟩ (restOf (hdB.drop 10) hdEnv hdC {line:=40,col:=0,endLine:=44,endCol:=26} [topFrame hdQ])=some ⟨hdH_last w.params,⟨[]⟩,{},1022,os⟩:=by rw[←hdSplit22];exact piece_app (hdRun22 w os) (hdFrom48 w os)
theorem hdSplit9:((hdB.drop 0).take 10)++(hdB.drop 10)=hdB.drop 0:=by have:=List.take_append_drop 10 (hdB.drop 0);rwa[List.drop_drop] at this
theorem hdFrom9(w:World)(os:OsState):topRun treeTable hdPr w 11 hdAnn (1973+(1432+(1427+2))) ⟨hdH_pre w.params,⟨[]⟩,{},187,os⟩ (restOf (hdB.drop 0) hdEnv hdC {line:=0,col:=0,endLine:=0,endCol:=0} [topFrame hdQ])=some ⟨hdH_last w.params,⟨[]⟩,{},1022,os⟩:=by rw[←hdSplit9];exact piece_app (hdRun9 w os) (hdFrom22 w os)
theorem hdBody(w:World)(os:OsState):topRun treeTable hdPr w 11 hdAnn (1+(1973+(1432+(1427+2)))) ⟨hdH_pre w.params,⟨[]⟩,{},187,os⟩ ⟨denote treeTable hdC,hdC,{line:=0,col:=0,endLine:=0,endCol:=0},[topFrame hdQ]⟩=some ⟨hdH_last w.params,⟨[]⟩,{},1022,os⟩:=piece_block (hdRunBlock w os) (hdFrom9 w os)
theorem hdAll(w:World)(os:OsState):topRun treeTable hdPr w 11 hdAnn (12+(1+(1973+(1432+(1427+2))))) ⟨boot_heap w.params,⟨[]⟩,boot_drawn,boot_toks,os⟩ (topStub hdPr)=some ⟨hdH_last w.params,⟨[]⟩,{},1022,os⟩:=go_top (hdRunPre w os) (hdBody w os)
end hd
noncomputable def hdHeap:PySem.Params→PySem.W.Frag:=fun P=>(nat_lit 2,PySem.W.boot_o_2 P)::(nat_lit 3,hd3xx P)::(nat_lit 15,hd11)::(nat_lit 17,hd17)::(nat_lit 18,hd11)::(nat_lit 20,hd20)::(nat_lit 21,hd21)::(nat_lit 22,hd22)::(nat_lit 29,hd11)::(nat_lit 31,hd31)::(nat_lit 32,hd11)::(nat_lit 34,hd34)::(nat_lit 35,hd35)::(nat_lit 36,hd11)::(nat_lit 37,hd37 P)::(nat_lit 38,hd38x)::(nat_lit 39,hd39)::(nat_lit 42,hd42)::(nat_lit 49,hd11)::(nat_lit 51,hd51)::(nat_lit 52,hd11)::(nat_lit 54,hd54)::(nat_lit 55,hd55)::(nat_lit 56,hd56)::(nat_lit 57,hd57 P)::(nat_lit 58,hd58)::(nat_lit 61,hd42)::(nat_lit 68,hd11)::(nat_lit 70,hd70)::(nat_lit 71,hd11)::(nat_lit 73,hd73)::(nat_lit 74,hd74)::(nat_lit 75,hd75)::(nat_lit 76,hd76 P)::(nat_lit 77,hd77)::(nat_lit 80,hd42)::(nat_lit 87,hd11)::(nat_lit 89,hd89)::(nat_lit 90,hd11)::(nat_lit 92,hd92)::(nat_lit 93,hd93)::(nat_lit 94,hd94)::(nat_lit 95,hd95 P)::(nat_lit 96,hd96)::(nat_lit 99,hd42)::(nat_lit 106,hd11)::(nat_lit 108,hd108)::(nat_lit 109,hd11)::(nat_lit 111,hd111)::(nat_lit 112,hd112)::(nat_lit 113,hd11)::(nat_lit 114,hd114 P)::(nat_lit 115,hd115)::(nat_lit 118,hd42)::(nat_lit 125,hd11)::(nat_lit 127,hd127)::(nat_lit 128,hd11)::(nat_lit 130,hd130)::(nat_lit 131,hd131)::(nat_lit 132,hd132)::(nat_lit 133,hd133 P)::(nat_lit 134,hd134)::(nat_lit 137,hd42)::(nat_lit 144,hd11)::(nat_lit 146,hd146)::(nat_lit 147,hd11)::(nat_lit 149,hd149)::(nat_lit 150,hd150)::(nat_lit 151,hd151)::(nat_lit 152,hd152 P)::(nat_lit 153,hd153)::(nat_lit 156,hd42)::(nat_lit 163,hd11)::(nat_lit 165,hd165)::(nat_lit 166,hd11)::(nat_lit 168,hd168)::(nat_lit 169,hd169)::(nat_lit 170,hd170)::(nat_lit 171,hd171 P)::(nat_lit 172,hd172)::(nat_lit 175,hd42)::(nat_lit 182,hd11)::(nat_lit 184,hd184)::(nat_lit 185,hd11)::(nat_lit 187,hd187)::(nat_lit 188,hd188)::(nat_lit 189,hd189)::(nat_lit 190,hd190 P)::(nat_lit 191,hd191)::(nat_lit 194,hd11)::(nat_lit 196,hd196)::(nat_lit 197,hd11)::(nat_lit 199,hd199)::(nat_lit 200,hd200)::(nat_lit 201,hd11)::(nat_lit 203,hd203)::(nat_lit 204,hd11)::(nat_lit 206,hd206)::(nat_lit 207,hd207)::(nat_lit 208,hd11)::(nat_lit 210,hd210)::(nat_lit 211,hd11)::(nat_lit 213,hd213)::(nat_lit 214,hd214)::(nat_lit 215,hd11)::(nat_lit 217,hd217)::(nat_lit 218,hd11)::(nat_lit 220,hd220)::(nat_lit 221,hd221)::(nat_lit 229,hd11)::(nat_lit 231,hd231)::(nat_lit 232,hd11)::(nat_lit 234,hd234)::(nat_lit 235,hd235)::(nat_lit 236,hd11)::(nat_lit 238,hd238)::(nat_lit 239,hd11)::(nat_lit 241,hd241)::(nat_lit 242,hd242)::(nat_lit 243,hd11)::(nat_lit 246,hd246)::(nat_lit 247,hd247)::(nat_lit 248,hd11)::(nat_lit 250,hd250)::(nat_lit 251,hd11)::(nat_lit 253,hd253)::(nat_lit 254,hd254)::(nat_lit 255,hd255)::(nat_lit 256,hd256 P)::(nat_lit 257,hd257)::(nat_lit 258,hd258)::(nat_lit 259,hd259)::(nat_lit 269,hd11)::(nat_lit 271,hd271)::(nat_lit 272,hd11)::(nat_lit 274,hd274)::(nat_lit 275,hd275)::(nat_lit 276,hd11)::(nat_lit 278,hd278)::(nat_lit 279,hd11)::(nat_lit 281,hd281)::(nat_lit 282,hd282)::(nat_lit 283,hd11)::(nat_lit 285,hd285)::(nat_lit 286,hd11)::(nat_lit 288,hd288)::(nat_lit 289,hd289)::(nat_lit 290,hd11)::(nat_lit 293,hd293)::(nat_lit 294,hd294)::(nat_lit 295,hd11)::(nat_lit 297,hd297)::(nat_lit 298,hd11)::(nat_lit 300,hd300)::(nat_lit 301,hd301)::(nat_lit 302,hd11)::(nat_lit 304,hd304)::(nat_lit 305,hd11)::(nat_lit 307,hd307)::(nat_lit 308,hd308)::(nat_lit 309,hd11)::(nat_lit 312,hd312)::(nat_lit 313,hd313)::(nat_lit 314,hd11)::(nat_lit 316,hd316)::(nat_lit 317,hd11)::(nat_lit 319,hd319)::(nat_lit 320,hd320)::(nat_lit 321,hd11)::(nat_lit 323,hd323)::(nat_lit 324,hd11)::(nat_lit 326,hd326)::(nat_lit 327,hd327)::(nat_lit 328,hd11)::(nat_lit 331,hd331)::(nat_lit 332,hd332)::(nat_lit 333,hd11)::(nat_lit 335,hd335)::(nat_lit 336,hd11)::(nat_lit 338,hd338)::(nat_lit 339,hd339)::(nat_lit 340,hd11)::(nat_lit 342,hd342)::(nat_lit 343,hd11)::(nat_lit 345,hd345)::(nat_lit 346,hd346)::(nat_lit 347,hd11)::(nat_lit 349,hd349)::(nat_lit 350,hd11)::(nat_lit 352,hd352)::(nat_lit 353,hd353)::(nat_lit 354,hd11)::(nat_lit 356,hd356)::(nat_lit 357,hd11)::(nat_lit 359,hd359)::(nat_lit 360,hd360)::(nat_lit 361,hd11)::(nat_lit 363,hd363)::(nat_lit 364,hd11)::(nat_lit 366,hd366)::(nat_lit 367,hd367)::(nat_lit 368,hd11)::(nat_lit 370,hd370)::(nat_lit 371,hd11)::(nat_lit 373,hd373)::(nat_lit 374,hd374)::(nat_lit 375,hd375)::(nat_lit 376,hd376 P)::(nat_lit 377,hd377x)::(nat_lit 378,hd378)::(nat_lit 379,hd379)::(nat_lit 382,hd382)::(nat_lit 389,hd11)::(nat_lit 391,hd391)::(nat_lit 392,hd11)::(nat_lit 394,hd394)::(nat_lit 395,hd395)::(nat_lit 396,hd11)::(nat_lit 398,hd398)::(nat_lit 399,hd11)::(nat_lit 401,hd401)::(nat_lit 402,hd402)::(nat_lit 403,hd11)::(nat_lit 405,hd405)::(nat_lit 406,hd11)::(nat_lit 408,hd408)::(nat_lit 409,hd409)::(nat_lit 410,hd11)::(nat_lit 412,hd412)::(nat_lit 413,hd11)::(nat_lit 415,hd415)::(nat_lit 416,hd416)::(nat_lit 417,hd11)::(nat_lit 419,hd419)::(nat_lit 420,hd11)::(nat_lit 422,hd422)::(nat_lit 423,hd423)::(nat_lit 424,hd11)::(nat_lit 426,hd426)::(nat_lit 427,hd11)::(nat_lit 429,hd429)::(nat_lit 430,hd430)::(nat_lit 431,hd11)::(nat_lit 434,hd434)::(nat_lit 435,hd435)::(nat_lit 436,hd11)::(nat_lit 438,hd438)::(nat_lit 439,hd11)::(nat_lit 441,hd441)::(nat_lit 442,hd442)::(nat_lit 443,hd11)::(nat_lit 445,hd445)::(nat_lit 446,hd11)::(nat_lit 448,hd448)::(nat_lit 449,hd449)::(nat_lit 450,hd11)::(nat_lit 452,hd452)::(nat_lit 453,hd11)::(nat_lit 455,hd455)::(nat_lit 456,hd456)::(nat_lit 457,hd11)::(nat_lit 460,hd460)::(nat_lit 461,hd461)::(nat_lit 462,hd11)::(nat_lit 464,hd464)::(nat_lit 465,hd11)::(nat_lit 467,hd467)::(nat_lit 468,hd468)::(nat_lit 469,hd11)::(nat_lit 471,hd471)::(nat_lit 472,hd11)::(nat_lit 474,hd474)::(nat_lit 475,hd475)::(nat_lit 476,hd11)::(nat_lit 479,hd479)::(nat_lit 480,hd480)::(nat_lit 481,hd11)::(nat_lit 483,hd483)::(nat_lit 484,hd11)::(nat_lit 486,hd486)::(nat_lit 487,hd487)::(nat_lit 488,hd11)::(nat_lit 490,hd490)::(nat_lit 491,hd11)::(nat_lit 493,hd493)::(nat_lit 494,hd494)::(nat_lit 495,hd11)::(nat_lit 497,hd497)::(nat_lit 498,hd11)::(nat_lit 500,hd500)::(nat_lit 501,hd501)::(nat_lit 502,hd502)::(nat_lit 503,hd503 P)::(nat_lit 504,hd504)::(nat_lit 507,hd11)::(nat_lit 509,hd509)::(nat_lit 510,hd11)::(nat_lit 512,hd512)::(nat_lit 513,hd513)::(nat_lit 514,hd11)::(nat_lit 516,hd516)::(nat_lit 517,hd11)::(nat_lit 519,hd519)::(nat_lit 520,hd520)::(nat_lit 521,hd11)::(nat_lit 523,hd523)::(nat_lit 524,hd11)::(nat_lit 526,hd526)::(nat_lit 527,hd527)::(nat_lit 528,hd11)::(nat_lit 530,hd530)::(nat_lit 531,hd11)::(nat_lit 533,hd533)::(nat_lit 534,hd534)::(nat_lit 535,hd11)::(nat_lit 537,hd537)::(nat_lit 538,hd11)::(nat_lit 540,hd540)::(nat_lit 541,hd541)::(nat_lit 542,hd11)::(nat_lit 545,hd545)::(nat_lit 546,hd546)::(nat_lit 547,hd11)::(nat_lit 549,hd549)::(nat_lit 550,hd11)::(nat_lit 552,hd552)::(nat_lit 553,hd553)::(nat_lit 554,hd11)::(nat_lit 556,hd556)::(nat_lit 557,hd11)::(nat_lit 559,hd559)::(nat_lit 560,hd560)::(nat_lit 561,hd11)::(nat_lit 564,hd564)::(nat_lit 565,hd565)::(nat_lit 566,hd11)::(nat_lit 569,hd569)::(nat_lit 570,hd570)::(nat_lit 571,hd11)::(nat_lit 574,hd574)::(nat_lit 575,hd575)::(nat_lit 576,hd11)::(nat_lit 579,hd579)::(nat_lit 580,hd580)::(nat_lit 581,hd11)::(nat_lit 583,hd583)::(nat_lit 584,hd11)::(nat_lit 586,hd586)::(nat_lit 587,hd587)::(nat_lit 588,hd11)::(nat_lit 591,hd591)::(nat_lit 592,hd592)::(nat_lit 593,hd11)::(nat_lit 595,hd595)::(nat_lit 596,hd11)::(nat_lit 598,hd598)::(nat_lit 599,hd599)::(nat_lit 600,hd11)::(nat_lit 602,hd602)::(nat_lit 603,hd11)::(nat_lit 605,hd605)::(nat_lit 606,hd606)::(nat_lit 607,hd11)::(nat_lit 609,hd609)::(nat_lit 610,hd11)::(nat_lit 612,hd612)::(nat_lit 613,hd613)::(nat_lit 614,hd11)::(nat_lit 617,hd617)::(nat_lit 618,hd618)::(nat_lit 619,hd11)::(nat_lit 621,hd621)::(nat_lit 622,hd11)::(nat_lit 624,hd624)::(nat_lit 625,hd625)::(nat_lit 626,hd11)::(nat_lit 628,hd628)::(nat_lit 629,hd11)::(nat_lit 631,hd631)::(nat_lit 632,hd632)::(nat_lit 633,hd11)::(nat_lit 635,hd635)::(nat_lit 636,hd11)::(nat_lit 638,hd638)::(nat_lit 639,hd639)::[]
def hdAs:List Addr:=[2,3,15,17,18,20,21,22,29,31,32,34,35,36,37,38,39,42,49,51,52,54,55,56,57,58,61,68,70,71,73,74,75,76,77,80,87,89,90,92,93,94,95,96,99,106,108,109,111,112,113,114,115,118,125,127,128,130,131,132,133,134,137,144,146,147,149,150,151,152,153,156,163,165,166,168,169,170,171,172,175,182,184,185,187,188,189,190,191,194,196,197,199,200,201,203,204,206,207,208,210,211,213,214,215,217,218,220,221,229,231,232,234,235,236,238,239,241,242,243,246,247,248,250,251,253,254,255,256,257,258,259,269,271,272,274,275,276,278,279,281,282,283,285,286,288,289,290,293,294,295,297,298,300,301,302,304,305,307,308,309,312,313,314,316,317,319,320,321,323,324,326,327,328,331,332,333,335,336,338,339,340,342,343,345,346,347,349,350,352,353,354,356,357,359,360,361,363,364,366,367,368,370,371,373,374,375,376,377,378,379,382,389,391,392,394,395,396,398,399,401,402,403,405,406,408,409,410,412,413,415,416,417,419,420,422,423,424,426,427,429,430,431,434,435,436,438,439,441,442,443,445,446,448,449,450,452,453,455,456,457,460,461,462,464,465,467,468,469,471,472,474,475,476,479,480,481,483,484,486,487,488,490,491,493,494,495,497,498,500,501,502,503,504,507,509,510,512,513,514,516,517,519,520,521,523,524,526,527,528,530,531,533,534,535,537,538,540,541,542,545,546,547,549,550,552,553,554,556,557,559,560,561,564,565,566,569,570,571,574,575,576,579,580,581,583,584,586,587,588,591,592,593,595,596,598,599,600,602,603,605,606,607,609,610,612,613,614,617,618,619,621,622,624,625,626,628,629,631,632,633,635,636,638,639]
theorem hdAs_ok:∀P,hdAs=(hdHeap P).map (·.1):=fun _=>by kernel_rfl
noncomputable def hdView:PySem.Program:={PySem.Challenge.pw_framerooms_k21_the_eldest_goes with main:={PySem.Challenge.pw_framerooms_k21_the_eldest_goes.main with body:=[top 0,top 2,top 3,top 4,top 5,top 6,top 7,top 8,top 9,top 10,top 12,top 13,top 14,top 15,top 17,top 18,top 20,top 21,top 22,top 24,top 25,top 26,top 27,top 29,top 30,top 31,top 32,top 33,top 34,top 35,top 36,top 37,top 38,top 39,top 40,top 41,top 42,top 43,top 44,top 45,top 46,top 47,top 48]}}
noncomputable abbrev hdHook:PySem.W.Hook:=PySem.W.kHook hdHeap hdAs hdAs_ok
theorem hdLooks(w:PySem.World):(fun os:PySem.OsState=>((PySem.W.staticsOk (importedModules hdPr.main.body) (PySem.W.boot_heap w.params) (hdH_last w.params)&&PySem.W.namesBound hdPr (hdH_last w.params)&&PySem.W.gensDone ⟨hdH_last w.params,⟨[]⟩,{},1022,os⟩&&PySem.W.laidKept (PySem.W.boot_heap w.params) (hdH_last w.params)),PySem.W.openSeen hdView [] (importedModules hdPr.main.body) (fun s=>PySem.W.xlAt hdView [] s&&PySem.W.recOk (PySem.W.RowW.records PySem.Challenge.rw_framerooms_k21_the_eldest_goes.row.toRowW) s) true ⟨hdH_last w.params,⟨[]⟩,{},1022,os⟩,hdHook.obs ⟨hdH_last w.params,⟨[]⟩,{},1022,os⟩))=fun _=>(true,PySem.W.openGood hdView [],hdHook.val w):=by kernel_rfl
theorem hdLeft:PySem.W.LeftO PySem.Challenge.rw_framerooms_k21_the_eldest_goes.row.prog hdView [] (fun s=>PySem.W.xlAt hdView [] s&&PySem.W.recOk (PySem.W.RowW.records PySem.Challenge.rw_framerooms_k21_the_eldest_goes.row.toRowW) s) hdHook.obs hdHook.val 9784:=PySem.W.LeftO.of_pieces (H₀:=PySem.W.boot_heap) (H₁:=hdH_last) (gs₁:=⟨[]⟩) (d₁:={}) (k₁:=1022) (m₀:=11) (ann:=hdAnn) (PySem.W.boot_open rfl (by decide) (fun _=>rfl)) (fun _=>by kernel_rfl) hdAll (by decide) hdLooks
abbrev fS(n q:Str)(s:Stmt)(kV dc pm:Value)(an:Option Addr)(cd ct:Value):FuncData:=PySem.W.fnOf n q (defArgs s) (defBody s) (defScope s) .none kV dc pm an cd ct
end My
namespace L2
open PySem PySem.Spec PyProof.Rows
abbrev Key:=Sum Int Str
def keyIs:Key→Value→Bool
  | .inl k,v=>Value.isInt k v
  | .inr x,v=>Value.isStrOf x v
def keyH (w:World):Key→Int
  | .inl k=>hashInt k
  | .inr x=>hashStr w x
theorem keyIs_shape:∀{k:Key} {v:Value},keyIs k v=true→(∃i t,k=Sum.inl i∧v=Value.int i t)∨(∃x t,k=Sum.inr x∧v=Value.str x t)
  | .inl i,v,h=>by
    obtain⟨t,e⟩:=Value.isInt_shape (k:=i) (v:=v) h;exact .inl ⟨i,t,rfl,e⟩
  | .inr x,v,h=>by
    obtain⟨t,e⟩:=Value.isStrOf_shape (x:=x) (v:=v) h;exact .inr ⟨x,t,rfl,e⟩
theorem keyIs_int(i:Int)(t:Tok):keyIs (.inl i) (.int i t)=true:=by simp[keyIs,Value.isInt]
theorem keyIs_str(x:Str)(t:Tok):keyIs (.inr x) (.str x t)=true:=by simp[keyIs,Value.isStrOf]
theorem key_ll (a b:Int):decide ((Sum.inl a:Key)=Sum.inl b)=(a==b):=by
  by_cases e:a=b
  · subst e;simp
  · have h:¬(Sum.inl a:Key)=Sum.inl b:=fun q=>e (Sum.inl.inj q)
    rw[decide_eq_false h];exact(beq_eq_false_iff_ne.mpr e).symm
theorem key_rr (a b:Str):decide ((Sum.inr a:Key)=Sum.inr b)=decide (a=b):=by
  by_cases e:a=b
  · subst e;simp
  · have h:¬(Sum.inr a:Key)=Sum.inr b:=fun q=>e (Sum.inr.inj q)
    rw[decide_eq_false h,decide_eq_false e]
theorem key_lr(a:Int)(b:Str):decide ((Sum.inl a:Key)=Sum.inr b)=false:=decide_eq_false (fun q=>nomatch q)
theorem key_rl(a:Str)(b:Int):decide ((Sum.inr a:Key)=Sum.inl b)=false:=decide_eq_false (fun q=>nomatch q)
def mixKind (prog:Program) (w:World):PySem.KeyKind prog w Key where
  is:=keyIs
  hash:=keyH w
  inj :=fun v a b ha hb=>by
    rcases keyIs_shape ha with⟨i,t,rfl,rfl⟩|⟨x,t,rfl,rfl⟩
    · rcases keyIs_shape hb with⟨j,u,rfl,e⟩|⟨y,u,rfl,e⟩
      · injection e with e1 _;rw[e1]
      · exact nomatch e
    · rcases keyIs_shape hb with⟨j,u,rfl,e⟩|⟨y,u,rfl,e⟩
      · exact nomatch e
      · injection e with e1 _;rw[e1]
  byValue:=fun k v h=>by
    rcases keyIs_shape h with⟨i,t,rfl,rfl⟩|⟨x,t,rfl,rfl⟩<;>rfl
  pyHash:=fun hv h=>by
    rcases keyIs_shape hv with⟨i,t,rfl,rfl⟩|⟨x,t,rfl,rfl⟩
    · exact wpAny_pyHash_int h
    · exact wpAny_pyHash_str h
  eqBool:=fun hu hv h=>by
    rcases keyIs_shape hu with⟨i,t,rfl,rfl⟩|⟨x,t,rfl,rfl⟩
    · rcases keyIs_shape hv with⟨j,u,rfl,rfl⟩|⟨y,u,rfl,rfl⟩
      · rw[key_ll] at h;exact wpAny_eqBool_int h
      · rw[key_lr] at h;exact SeqAt.EqAt.int_str i t y u _ _ _ _ h
    · rcases keyIs_shape hv with⟨j,u,rfl,rfl⟩|⟨y,u,rfl,rfl⟩
      · rw[key_rl] at h;exact SeqAt.EqAt.str_int x t j u _ _ _ _ h
      · rw[key_rr] at h;exact wpAny_eqBool_str h
  «strs» :=fun k x t v h=>by
    rcases keyIs_shape h with⟨i,u,rfl,e⟩|⟨y,u,rfl,e⟩
    · exact nomatch e
    · injection e with e1 _
      subst e1;cases v<;>rfl
theorem mixKind_int(prog:Program)(w:World)(i:Int)(t:Tok):(mixKind prog w).is (.inl i) (.int i t)=true:=keyIs_int i t
theorem mixKind_str(prog:Program)(w:World)(x:Str)(t:Tok):(mixKind prog w).is (.inr x) (.str x t)=true:=keyIs_str x t
end L2
namespace L2
open PySem PySem.Spec PyProof.Rows
inductive V where
  |non|bl (b:Bool)|int (i:Int)|str (x:Str)|byt (b:Array UInt8)|flt (b:UInt64)|ref (a:Addr)|ty (n:String)
  deriving DecidableEq
def RelV:V→Value→Prop
  | .non,u=>u=Value.none
  | .bl b,u=>u=Value.bool b
  | .int i,u=>∃t,u=Value.int i t
  | .str x,u=>∃t,u=Value.str x t
  | .byt b,u=>∃t,u=Value.bytes b t
  | .flt b,u=>∃t,u=Value.float b t
  | .ref a,u=>u=Value.ref a
  | .ty n,u=>u=Value.type n
abbrev Vals:List V→List Value→Prop:=Paired RelV
theorem Vals.length{xs:List V}{us:List Value}(r:Vals xs us):xs.length=us.length:=Paired.length r
theorem Vals.get:∀{xs:List V} {us:List Value} {i:Nat} {x:V},Vals xs us→xs[i]? =some x→∃u,us[i]? =some u∧RelV x u
  |_,_,_,_,.nil,e=>by simp at e
  |_,_,0,_,.cons r _,e=>by simp at e;subst e;exact⟨_,rfl,r⟩
  | _,_,i+1,x,.cons _ t,e=>by
    obtain⟨u,h1,h2⟩:=Vals.get (i:=i) (x:=x) t (by simpa using e);exact⟨u,by simpa using h1,h2⟩
theorem Vals.set {x:V} {u:Value} (r:RelV x u):∀{xs:List V} {us:List Value} (i:Nat),Vals xs us→Vals (xs.set i x) (us.set i u)
  |_,_,_,.nil=> .nil
  |_,_,0,.cons _ t=> .cons r t
  |_,_,i+1,.cons q t=> .cons q (Vals.set r i t)
theorem Vals.append:∀{xs ys:List V} {us ws:List Value},Vals xs us→Vals ys ws→Vals (xs++ys) (us++ws)
  |_,_,_,_,.nil,s=>s
  |_,_,_,_,.cons r t,s=> .cons r (Vals.append t s)
theorem Vals.take:∀{xs:List V} {us:List Value} (n:Nat),Vals xs us→Vals (xs.take n) (us.take n)
  |_,_,0,_=> .nil
  |_,_,_+1,.nil=> .nil
  |_,_,n+1,.cons r t=> .cons r (Vals.take n t)
theorem Vals.drop:∀{xs:List V} {us:List Value} (n:Nat),Vals xs us→Vals (xs.drop n) (us.drop n)
  |_,_,0,r=>r
  |_,_,_+1,.nil=> .nil
  |_,_,n+1,.cons _ t=>Vals.drop n t
theorem Vals.none_of:∀{xs:List V} {us:List Value} {i:Nat},Vals xs us→xs[i]? =none→us[i]? =none:=fun{xs us i} r e=>by
  have h1:=r.length;have h2:xs.length≤i:=List.getElem?_eq_none_iff.mp e;exact List.getElem?_eq_none_iff.mpr (by omega)
def RelO:Option V→Option Value→Prop
  |some v,some u=>RelV v u
  |none,none=>True
  |_,_=>False
def KV{κ:Type}:List (κ×V)→List (κ×Value)→Prop:=Paired fun(p:κ×V) (q:κ×Value)=>p.1=q.1∧RelV p.2 q.2
def kV:Key→V
  | .inl i=> .int i
  | .inr x=> .str x
inductive HO where
  |lst (xs:List V)
  |tup (xs:List V)
  |dK (kvs:List (Key×V))|dT (kvs:List (List Key×V))
  |set (S:Int→Bool) (n:Nat)
  |ins (C dx:Addr) (fs:List (Str×V))
  |own (x:Addr)
  |xd (fs:List (Str×V))
  |met (f x:Addr)
  |rng (lo hi:Int)
  |frz (o:Obj) (u:HO)
  |tbl (ps:Array Value)
  |ext (φ:Heap→Prop)
abbrev Hp:=Addr→Option HO
def upd(H:Hp)(a:Addr)(o:HO):Hp:=fun b=>if b=a then some o else H b
theorem upd_same{H:Hp}{a:Addr}{o:HO}:upd H a o a=some o:=by unfold upd;rw[if_pos rfl]
theorem upd_ne{H:Hp}{a b:Addr}{o:HO}(h:b≠a):upd H a o b=H b:=by unfold upd;rw[if_neg h]
theorem upd_upd {H:Hp} {a:Addr} {o u:HO}:upd (upd H a o) a u=upd H a u:=by
  funext b;unfold upd;split<;>rfl
theorem ne_of {H:Hp} {a b:Addr} {o u:HO} (h:H a=some o) (h' :H b=some u) (d:o≠u):a≠b:=by
  intro e;subst e;rw[h] at h';exact d (Option.some.inj h')
theorem ne_of_none {H:Hp} {a b:Addr} {o:HO} (h:H a=some o) (h' :H b=none):a≠b:=by
  intro e;subst e;rw[h] at h';cases h'
section
variable(P:Program)(w:World)
def ObjOk (H:Hp) (h:Heap) (a:Addr):HO→Prop
  | .lst xs=>xs.length≤sizeLine∧∃(its:List Value) (n:Nat),Vals xs its∧h.get? a=some {cls:= .type "list",data:= .seq its.toArray n}
  | .tup xs=>xs.length≤sizeLine∧∃its:List Value,Vals xs its∧IsTup h a its.toArray
  | .dK kvs=>kvs.length≤sizeLine∧(a==sysModules)=false∧∃vs,KV kvs vs∧h.DictOf (mixKind P w) a vs
  | .dT kvs=>kvs.length≤sizeLine∧(a==sysModules)=false∧∃xs:List (List Key×Addr×Value),
      Paired (fun(p:List Key×V) (q:List Key×Addr×Value)=>p.1=q.1∧H q.2.1=some (.tup (p.1.map kV))∧RelV p.2 q.2.2) kvs xs∧
      ∃o es ep,h.get? a=some o∧o.ExactDict∧o.data= .dict es ep∧es.toList=xs.map (entryOfKey (tupleKind (mixKind P w)))∧(xs.map (·.1)).Nodup
  | .set S n=>h.SetOf (intKind P w) a S n
  | .ins C dx fs=>H dx=some (.own a)∧fs.length≤1000∧dx≠a∧h.get? a=some (PySem.W.instObj C dx)∧
      ∃mA,h.Ns1 dx mA∧(∀f,RelO (fs.lookup f) (mA f))∧PySem.Within mA (fs.map (·.1))
  | .own _=>∃o,h.get? a=some o
  | .xd fs=>∃mA,h.Ns1 a mA∧∀f,RelO (fs.lookup f) (mA f)
  | .rng lo hi=>∃t u v,h.get? a=some {cls:= .type "range",data:= .fields #[.int lo t,.int hi u,.int 1 v]}
  | .frz o u=>h.get? a=some o∧ObjOk H h a u
  | .tbl ps=>h.get? a=some {cls:= .none,data:= .fields ps}
  | .met f x=>h.get? a=some (PySem.W.methodObj (.ref f) (.ref x))
  | .ext φ=>φ h∧(∃o,h.get? a=some o)∧∀h1 h2:Heap,φ h1→(∀o,h1.get? a=some o→h2.get? a=some o)→φ h2
def HOk(H:Hp)(h:Heap):Prop:=∀a o,H a=some o→ObjOk P w H h a o
end
section
variable{P:Program}{w:World}{H H' :Hp}{h h' :Heap}{a:Addr}{o:HO}
theorem ObjOk.lt (x:ObjOk P w H h a o):a<h.objs.size:=by
  cases o with
  |lst xs=>obtain⟨_,_,_,_,e⟩:=x;exact Heap.lt_size e
  |tup xs=>obtain⟨_,_,_,p⟩:=x;exact p.lt
  |dK kvs=>obtain⟨_,_,_,_,o,_,_,e,_⟩:=x;exact Heap.lt_size e
  |dT kvs=>obtain⟨_,_,_,_,o,_,_,e,_⟩:=x;exact Heap.lt_size e
  |set S n=>obtain⟨o,_,_,_,e,_⟩:=x;exact Heap.lt_size e
  |ins C dx fs=>obtain⟨_,_,_,e,_⟩:=x;exact Heap.lt_size e
  |own y=>obtain⟨_,e⟩:=x;exact Heap.lt_size e
  |xd fs=>obtain⟨_,⟨_,_,_,e,_⟩,_⟩:=x;exact Heap.lt_size e
  |rng lo hi=>obtain⟨_,_,_,e⟩:=x;exact Heap.lt_size e
  |frz ob u=>obtain⟨e,_⟩:=x;exact Heap.lt_size e
  |tbl ps=>exact Heap.lt_size (show h.get? a=some _ from x)
  |met f y=>exact Heap.lt_size (show h.get? a=some _ from x)
  |ext φ=>obtain⟨_,⟨_,e⟩,_⟩:=x;exact Heap.lt_size e
theorem Paired.mapP {α β:Type} {F G:α→β→Prop}:∀{l₁:List α} {l₂:List β},Paired F l₁ l₂→(∀a b,F a b→G a b)→Paired G l₁ l₂
  |_,_,.nil,_=> .nil
  |_,_,.cons r t,f=> .cons (f _ _ r) (Paired.mapP t f)
theorem ObjOk.stay (x:ObjOk P w H h a o) (k:∀b u,(b=a∨H b=some (.own a))→h.get? b=some u→h'.get? b=some u)
    (ho:∀b,H b=some (.own a)→H' b=some (.own a)) (ht:∀b xs,H b=some (.tup xs)→H' b=some (.tup xs)):ObjOk P w H' h' a o:=by
  induction o with
  |lst xs=>obtain⟨z,its,n,r,e⟩:=x;exact⟨z,its,n,r,k _ _ (.inl rfl) e⟩
  |tup xs=>obtain⟨z,its,r,ob,e,c⟩:=x;exact⟨z,its,r,ob,k _ _ (.inl rfl) e,c⟩
  |dK kvs=>obtain⟨z,y,vs,r,ob,es,ep,e,c⟩:=x;exact⟨z,y,vs,r,ob,es,ep,k _ _ (.inl rfl) e,c⟩
  | dT kvs=>
    obtain⟨z,y,xs,r,ob,es,ep,e,c⟩:=x;exact⟨z,y,xs,Paired.mapP r fun p q z=>⟨z.1,ht _ _ z.2.1,z.2.2⟩,ob,es,ep,k _ _ (.inl rfl) e,c⟩
  |set S n=>obtain⟨ob,es,ep,t,e,c⟩:=x;exact⟨ob,es,ep,t,k _ _ (.inl rfl) e,c⟩
  | ins C dx fs=>
    obtain⟨d,z,ne,e,mA,⟨od,es,ep,e2,c⟩,r⟩:=x;exact⟨ho _ d,z,ne,k _ _ (.inl rfl) e,mA,⟨od,es,ep,k _ _ (.inr d) e2,c⟩,r⟩
  |own y=>obtain⟨ob,e⟩:=x;exact⟨ob,k _ _ (.inl rfl) e⟩
  |xd fs=>obtain⟨mA,⟨od,es,ep,e,c⟩,r⟩:=x;exact⟨mA,⟨od,es,ep,k _ _ (.inl rfl) e,c⟩,r⟩
  |rng lo hi=>obtain⟨t,u,v,e⟩:=x;exact⟨t,u,v,k _ _ (.inl rfl) e⟩
  |frz ob u ih=>obtain⟨e,q⟩:=x;exact⟨k _ _ (.inl rfl) e,ih q⟩
  | tbl ps=>
    have e:h.get? a=some {cls:= .none,data:= .fields ps}:=x;show h'.get? a=some {cls:= .none,data:= .fields ps};exact k a _ (.inl rfl) e
  | met f y=>
    have e:h.get? a=some (PySem.W.methodObj (.ref f) (.ref y)):=x;show h'.get? a=some (PySem.W.methodObj (.ref f) (.ref y));exact k a _ (.inl rfl) e
  |ext φ=>obtain⟨p,⟨o,e⟩,st⟩:=x;exact⟨st _ _ p fun o q=>k _ _ (.inl rfl) q,⟨o,k _ _ (.inl rfl) e⟩,st⟩
theorem HOk.lt(x:HOk P w H h)(e:H a=some o):a<h.objs.size:=(x a o e).lt
theorem HOk.fresh (x:HOk P w H h) (e:h.objs.size≤a):H a=none:=by
  cases q:H a with
  |none=>rfl
  |some u=>exact absurd (Nat.lt_of_lt_of_le (x.lt q) e) (Nat.lt_irrefl _)
theorem HOk.kept (x:HOk P w H h) (k:∀b u,h.get? b=some u→h'.get? b=some u):HOk P w H h' :=fun a o e=>
  (x a o e).stay (fun b u _ q=>k b u q) (fun _ q=>q) fun _ _ q=>q
theorem HOk.laid (x:HOk P w H h) (k:∀b u,h.get? b=some u→h'.get? b=some u) (hp:h.objs.size≤a) (new:ObjOk P w (upd H a o) h' a o):HOk P w (upd H a o) h' :=fun b u e=>by
  have hn:=x.fresh hp;by_cases hb:b=a
  · subst hb;rw[upd_same] at e;cases e;exact new
  · rw[upd_ne hb] at e
    exact(x b u e).stay (fun c v _ q=>k c v q) (fun c q=>by rw[upd_ne (ne_of_none q hn)];exact q) fun c xs q=>by rw[upd_ne (ne_of_none q hn)];exact q
end
def Rd(H:Hp)(a:Addr)(u:HO):Prop:=H a=some u∨∃o,H a=some (.frz o u)
theorem Rd.of{H:Hp}{a:Addr}{u:HO}(h:H a=some u):Rd H a u:= .inl h
theorem Rd.ok {P:Program} {w:World} {H:Hp} {h:Heap} {a:Addr} {u:HO} (r:Rd H a u) (x:HOk P w H h):ObjOk P w H h a u:=by
  rcases r with r|⟨o,r⟩
  · exact x a u r
  · obtain⟨_,q⟩:=x a _ r
    exact q
def Mut:Option HO→Prop
  |some (.lst _)=>True
  |some (.dK _)=>True
  |some (.dT _)=>True
  |some (.set _ _)=>True
  |some (.ins _ _ _)=>True
  |some (.ext _)=>True
  |_=>False
section
variable{P:Program}{w:World}{H:Hp}{h h' :Heap}{x e:Addr}{o' :HO}
theorem HOk.write (ok:HOk P w H h) (mu:Mut (H x)) (he:e=x∨H e=some (.own x)) (k:∀b u,b≠e→h.get? b=some u→h'.get? b=some u) (heo:∃u,h'.get? e=some u)
    (new:ObjOk P w (upd H x o') h' x o'):HOk P w (upd H x o') h' :=fun b u q=>by
  have nown:∀c y,H c=some (.own y)→c≠x:=fun c y r z=>by subst z;rw[r] at mu;exact mu
  have ntup:∀c xs,H c=some (.tup xs)→c≠x:=fun c xs r z=>by subst z;rw[r] at mu;exact mu
  by_cases hb:b=x
  · subst hb;rw[upd_same] at q;cases q;exact new
  · rw [upd_ne hb] at q
    by_cases hbe:b=e
    · have q' :H b=some (.own x):=by
        rcases he with z|z
        · exact absurd (hbe.trans z) hb
        · rw[hbe];exact z
      rw[q] at q';cases q'
      obtain⟨v,hv⟩:=heo;exact⟨v,by rw[hbe];exact hv⟩
    · refine(ok b u q).stay (fun c v hc r=>k c v ?_ r) (fun c r=>by rw[upd_ne (nown c b r)];exact r) fun c xs r=>by rw[upd_ne (ntup c xs r)];exact r
      rcases hc with rfl|hc
      · exact hbe
      · rintro rfl
        rcases he with z|z
        · exact nown c b hc z
        · rw[hc] at z;cases z;exact hb rfl
end
structure Un (fs ex:List Addr) (H H' :Hp) (h h' :Heap):Prop where
  keep:∀b o,h.get? b=some o→H b=none→b∉fs→b∉ex→h'.get? b=some o
  slot:∀b o,h.get? b=some o→H b=none→b∈fs→b∉ex→∃sl,h'.get? b=some {o with slots:=sl}
  free:∀b o,h.get? b=some o→H b=none→b∉ex→H' b=none
  there:∀b o,h.get? b=some o→b∉ex→∃o',h'.get? b=some o'
  tups:∀b xs,H b=some (.tup xs)→H' b=some (.tup xs)
  frzs:∀b o u,H b=some (.frz o u)→H' b=some (.frz o u)
  tbls:∀b ps,H b=some (.tbl ps)→∃more,H' b=some (.tbl (ps++more))
section
variable{fs fs' ex ex' :List Addr}{H H1 H2:Hp}{h h1 h2 h' :Heap}{a x e:Addr}{o:HO}
theorem Un.any (u:Un fs ex H H1 h h1) {b:Addr} {ob:Obj} (q:h.get? b=some ob) (n:H b=none) (hx:b∉ex):∃sl,h1.get? b=some {ob with slots:=sl}:=by
  by_cases hb:b∈fs
  · exact u.slot b ob q n hb hx
  · exact⟨ob.slots,u.keep b ob q n hb hx⟩
theorem Un.trans (a:Un fs ex H H1 h h1) (b:Un fs ex H1 H2 h1 h2):Un fs ex H H2 h h2 where
  keep:=fun c ob q n hc hx=>b.keep c ob (a.keep c ob q n hc hx) (a.free c ob q n hx) hc hx
  slot:=fun c ob q n hc hx=>by
    obtain⟨sl,e1⟩:=a.slot c ob q n hc hx;obtain⟨sl',e2⟩:=b.slot c _ e1 (a.free c ob q n hx) hc hx;exact⟨sl',e2⟩
  free:=fun c ob q n hx=>by
    obtain⟨o',e1⟩:=a.there c ob q hx;exact b.free c o' e1 (a.free c ob q n hx) hx
  there:=fun c ob q hx=>by
    obtain⟨o',e1⟩:=a.there c ob q hx;exact b.there c o' e1 hx
  tups:=fun c xs q=>b.tups c xs (a.tups c xs q)
  frzs:=fun c ob xs q=>b.frzs c ob xs (a.frzs c ob xs q)
  tbls:=fun c ps q=>by
    obtain⟨m1,e1⟩:=a.tbls c ps q;obtain⟨m2,e2⟩:=b.tbls c _ e1;exact⟨m1++m2,by rw[e2,Array.append_assoc]⟩
theorem Un.kept (k:∀b u,h.get? b=some u→h'.get? b=some u):Un fs ex H H h h' :=
  ⟨fun b ob q _ _ _=>k b ob q,fun b ob q _ _ _=>⟨ob.slots,k b ob q⟩,fun _ _ _ n _=>n,fun b ob q _=>⟨ob,k b ob q⟩,fun _ _ q=>q,fun _ _ _ q=>q,fun _ ps q=>⟨#[],by rw[q];simp⟩⟩
theorem Un.refl:Un fs ex H H h h:=Un.kept fun _ _ q=>q
theorem Un.laid (k:∀b u,h.get? b=some u→h'.get? b=some u) (hp:h.objs.size≤a) (hn:H a=none):Un fs ex H (upd H a o) h h' where
  keep:=fun b u q _ _ _=>k b u q
  slot:=fun b u q _ _ _=>⟨u.slots,k b u q⟩
  free:=fun b u q n _=>by rw[upd_ne (Nat.ne_of_lt (Nat.lt_of_lt_of_le (Heap.lt_size q) hp))];exact n
  there:=fun b u q _=>⟨u,k b u q⟩
  tups:=fun b xs q=>by rw[upd_ne (ne_of_none q hn)];exact q
  frzs:=fun b u xs q=>by rw[upd_ne (ne_of_none q hn)];exact q
  tbls:=fun b ps q=>⟨#[],by rw[upd_ne (ne_of_none q hn),q];simp⟩
theorem Un.write (mu:Mut (H x)) (he:e=x∨H e=some (.own x)) (k:∀b u,b≠e→h.get? b=some u→h'.get? b=some u) (heo:∃u,h'.get? e=some u):Un fs ex H (upd H x o) h h' :=by
  have hx:∀b,H b=none→b≠x:=fun b n z=>by subst z;rw[n] at mu;exact mu
  have hb:∀b,H b=none→b≠e:=fun b n z=>by
    subst z;rcases he with r|r
    · exact hx b n r
    · rw[n] at r;cases r
  have hm:∀b u,H b=some u→¬Mut (some u)→b≠x:=fun b u q nm z=>by subst z;rw[q] at mu;exact nm mu
  refine⟨fun b u q n _ _=>k b u (hb b n) q,fun b u q n _ _=>⟨u.slots,k b u (hb b n) q⟩,fun b u q n _=>by rw[upd_ne (hx b n)];exact n,fun b u q _=> ?_,
    fun b xs q=>by rw[upd_ne (hm b _ q fun z=>z)];exact q,fun b u xs q=>by rw[upd_ne (hm b _ q fun z=>z)];exact q,fun b ps q=>⟨#[],by rw[upd_ne (hm b _ q fun z=>z),q];simp⟩⟩
  by_cases hbe:b=e
  · subst hbe;exact heo
  · exact⟨u,k b u hbe q⟩
theorem Un.mono (u:Un fs ex H H1 h h1) (hs:∀b∈fs,b∈fs') (hx:∀b∈ex,b∈ex'):Un fs' ex' H H1 h h1:=
  ⟨fun b ob q n hb he=>u.keep b ob q n (fun z=>hb (hs b z)) fun z=>he (hx b z),fun _ _ q n _ he=>u.any q n fun z=>he (hx _ z),fun b ob q n he=>u.free b ob q n fun z=>he (hx b z),fun b ob q he=>u.there b ob q fun z=>he (hx b z),u.tups,u.frzs,u.tbls⟩
end
def trk(h:Heap)(H:Hp):List Addr:=(List.range h.objs.size).filter fun a=>(H a).isSome
def hidT(h:Heap)(H:Hp):Heap:=PySem.W.hideAll h (trk h H)
theorem hidT_size(h:Heap)(H:Hp):(hidT h H).objs.size=h.objs.size:=PySem.W.hideAll_size _ _
theorem hidT_get {h:Heap} {H:Hp} {b:Addr} {o:Obj} (e:h.get? b=some o) (n:H b=none):(hidT h H).get? b=some o:=
  PySem.W.hideAll_get _ e fun hm=>by
    have q:(H b).isSome=true:=(List.mem_filter.mp hm).2;rw[n] at q;simp at q
theorem of_hidT {h:Heap} {H:Hp} {b:Addr} {o:Obj} (e:(hidT h H).get? b=some o):h.get? b=some o∧H b=none:=by
  have e' :h.get? b=some o:=PySem.W.of_hideAll (trk h H) e;refine⟨e',?_⟩
  cases q:H b with
  |none=>rfl
  | some x=>
    have hm:b∈trk h H:=List.mem_filter.mpr ⟨List.mem_range.mpr (Heap.lt_size e'),by simp[q]⟩;have z:(hidT h H).get? b=none:=PySem.W.hideAll_none (trk h H) hm;rw[z] at e;cases e
def allNews(g h:Heap)(L:Addr):List (Addr×Obj):=(List.range h.objs.size).filterMap fun a=>if a=L∨(g.get? a).isSome=true then none else(h.get? a).map fun o=>(a,o)
def rest(g h:Heap)(L d:Addr):List (Addr×Obj):=(allNews g h L).filter fun p=>decide (p.1≠d)
end L2
namespace L2
open PySem PySem.Spec PyProof.Rows
structure Mod (K:PySem.W.Frag) (mg:Str→Option Value) (base:Heap):Prop where
  kin:K.In base
  glob:base.Ns mainGlobals mg
  blt:∃mb,base.Ns builtinsNs mb∧∀x:Str,x≠ "__name__" →mb x=bootBuiltins x
  nolimit:base.NoLimit
structure Cx where
  prog:Program
  w:World
  K:PySem.W.Frag
  mg:Str→Option Value
  base:Heap
  A:Around
  N:List Str
  s₀:Shared
  H₀:Hp
  env:Env
  outer:List Env
  stack:List Env
  ex:List Addr
  fn:Str→Bool
  calm:Bool
  pn:List (Addr×Obj)
  xe:Value→Shared→Prop
def frs(l:List Env):List Addr:=l.filterMap (·.frame)
abbrev Cx.fs(X:Cx):List Addr:=frs X.outer
def Vis(sc:Scope)(x:Str):Prop:=sc.names.lookup x=some .local∨sc.names.lookup x=some .cell∨sc.names.lookup x=some .free
def Loc(sc:Scope)(x:Str):Prop:=sc.names.lookup x=some .local∨sc.names.lookup x=some .cell
def Look (env:Env) (h:Heap) (m:Str→Option Value) (x:Str) (u:Value):Prop:=
  (env.kindOf x=some .local∧m x=some u)∨((env.kindOf x=some .cell∨env.kindOf x=some .free)∧∃c,env.cells.lookup x=some c∧h.IsCell c (some u))
structure Cx.Ok (X:Cx):Prop where
  mod:Mod X.K X.mg X.base
  kind:X.env.scope.kind= .function
  glob:X.env.globals=mainGlobals
  blt:X.env.builtins=builtinsNs
  above:X.s₀.heap.objs.size≤X.env.locals
  inj:∀x y c,X.env.cells.lookup x=some c→X.env.cells.lookup y=some c→x=y
  has:∀x,(X.env.kindOf x=some .cell∨X.env.kindOf x=some .free)→∃c,X.env.cells.lookup x=some c
  cab:∀x c,X.fn x=true→X.env.cells.lookup x=some c→X.s₀.heap.objs.size≤c
  hd:X.calm=true→X.A.handled=none
  frames:X.A.frames=some X.stack
  stk:X.stack=X.outer∨(X.stack=X.env::X.outer∧X.env.frame=some X.env.locals)
  exf:∀b∈X.ex,b≠X.env.locals∧∀x c,X.env.cells.lookup x=some c→c≠b
  bs:∀b o,X.base.get? b=some o→X.s₀.heap.get? b=some o∧X.H₀ b=none
  bsz:X.base.objs.size≤X.s₀.heap.objs.size
  noex:∀b o,X.base.get? b=some o→b∉X.ex
  exfs:∀b∈X.ex,b∉X.fs
  funs:X.s₀.heap.FunFrames X.base X.outer
  frf:∀b∈X.fs,X.H₀ b=none
structure Inv (X:Cx) (pins:List (Addr×Obj)) (σ:List (Option V)) (H:Hp) (s:Shared):Prop where
  ok:X.Ok
  os:s.os=X.s₀.os
  bare:AllBare s.gens
  base:Un X.fs X.ex X.H₀ H X.s₀.heap s.heap
  loc:∃m,s.heap.Ns X.env.locals m∧∀(i:Nat) (x:Str) (v:V),X.N[i]? =some x→σ[i]? =some (some v)→Vis X.env.scope x→∃u,RelV v u∧Look X.env s.heap m x u
  cell:∀x c,X.env.cells.lookup x=some c→∃v,s.heap.IsCell c v
  free:H X.env.locals=none
  freeC:∀x c,X.env.cells.lookup x=some c→H c=none
  pin:∀p∈X.pn++pins,s.heap.get? p.1=some p.2∧H p.1=none∧p.1≠X.env.locals∧p.1∉X.fs∧∀v,p.2.data≠.cell v
  hok:HOk X.prog X.w H s.heap
  len:σ.length=X.N.length
section
variable{X:Cx}{pins:List (Addr×Obj)}{σ:List (Option V)}{H H' :Hp}{s:Shared}{h' :Heap}
theorem Cx.Ok.nofr (ok:X.Ok) {b:Addr} {o:Obj} (e:X.base.get? b=some o):b∉X.fs:=fun hb=>by
  have:=(ok.funs.mem hb).1;rw[e] at this;cases this
theorem Inv.bs (I:Inv X pins σ H s):∀b o,X.base.get? b=some o→s.heap.get? b=some o∧H b=none:=fun b o e=>
  ⟨I.base.keep b o (I.ok.bs b o e).1 (I.ok.bs b o e).2 (I.ok.nofr e) (I.ok.noex b o e),I.base.free b o (I.ok.bs b o e).1 (I.ok.bs b o e).2 (I.ok.noex b o e)⟩
theorem Inv.bk(I:Inv X pins σ H s):∀b o,X.base.get? b=some o→s.heap.get? b=some o:=fun b o e=>(I.bs b o e).1
theorem Inv.mod(I:Inv X pins σ H s):Mod X.K X.mg X.base:=I.ok.mod
theorem Inv.kIn(I:Inv X pins σ H s):X.K.In s.heap:=I.ok.mod.kin.keeps I.bk
theorem Inv.nolimit(I:Inv X pins σ H s):s.heap.NoLimit:=I.ok.mod.nolimit.keeps I.bk
theorem Inv.fr (I:Inv X pins σ H s):∃m,Fr X.base X.env.locals s.heap m:=
  let⟨m,hn,_⟩:=I.loc
  ⟨m,hn,I.bk,Nat.le_trans I.ok.bsz I.ok.above⟩
theorem Inv.lt(I:Inv X pins σ H s):X.env.locals<s.heap.objs.size:=let⟨_,hn,_⟩:=I.loc;hn.lt
theorem Inv.sz(I:Inv X pins σ H s):X.s₀.heap.objs.size≤s.heap.objs.size:=Nat.le_trans I.ok.above (Nat.le_of_lt I.lt)
theorem Inv.nofs (I:Inv X pins σ H s) {a:Addr} (h:s.heap.objs.size≤a):a∉X.fs:=fun hb=>by
  obtain⟨_,o,ho,_⟩:=I.ok.funs.mem hb;exact absurd (Nat.lt_of_lt_of_le (Heap.lt_size ho) (Nat.le_trans I.sz h)) (Nat.lt_irrefl _)
theorem Inv.cne (I:Inv X pins σ H s):∀x c,X.env.cells.lookup x=some c→c≠X.env.locals:=fun x c e z=>by
  obtain⟨v,o,ho,hd⟩:=I.cell x c e;obtain⟨m,⟨o',es,ep,ho',hd',_⟩,_⟩:=I.loc;rw[z,ho'] at ho;cases ho;rw[hd'] at hd;cases hd
theorem Inv.funs (I:Inv X pins σ H s):s.heap.FunFrames X.base X.outer:=by
  have all:∀(l:List Env),(∀b∈frs l,b∈X.fs)→X.s₀.heap.FunFrames X.base l→s.heap.FunFrames X.base l:=by
    intro l
    induction l with
    |nil=>intro _ _;trivial
    | cons env r ih=>
      intro hs hl;obtain⟨hk,⟨L,o,hf,hn,ho,hd⟩,hr⟩:=hl;have hL:L∈X.fs:=hs L (by unfold frs;rw[List.filterMap_cons,hf];exact List.mem_cons_self);obtain⟨sl,e⟩:=I.base.slot L o ho (I.ok.frf L hL) hL fun z=>I.ok.exfs L z hL;exact⟨hk,⟨L,_,hf,hn,e,hd⟩,ih (fun b hb=>hs b (by unfold frs;rw[List.filterMap_cons,hf];exact List.mem_cons_of_mem _ hb)) hr⟩
  exact all X.outer (fun _ hb=>hb) I.ok.funs
theorem Inv.stack (I:Inv X pins σ H s):s.heap.FunFrames X.base X.stack:=by
  rcases I.ok.stk with e|⟨e,hf⟩
  · rw[e];exact I.funs
  · rw[e]
    obtain⟨m,hn,_⟩:=I.loc;refine .cons (by rw[I.ok.kind];decide) hf hn ?_ I.funs;exact Heap.get?_none_of_le (Nat.le_trans I.ok.bsz I.ok.above)
theorem Inv.stkSub (I:Inv X pins σ H s):∀b∈frs X.stack,b∈X.env.locals::X.fs:=fun b hb=>by
  rcases I.ok.stk with e|⟨e,hf⟩
  · rw[e] at hb;exact List.mem_cons_of_mem _ hb
  · rw[e] at hb
    unfold frs at hb;rw[List.filterMap_cons,hf] at hb;exact hb
theorem Inv.stkFree (I:Inv X pins σ H s):∀b∈frs X.stack,H b=none:=fun b hb=>by
  rcases List.mem_cons.mp (I.stkSub b hb) with e|hb
  · rw[e];exact I.free
  · obtain⟨_,o,ho,_⟩:=I.ok.funs.mem hb
    exact I.base.free b o ho (I.ok.frf b hb) fun z=>I.ok.exfs b z hb
theorem Inv.step {g' :Array GenState} {t' :Nat} {d' :Drawn} {ch:List Addr} (I:Inv X pins σ H s)
    (hch:∀b∈ch,(b∈X.ex∨X.s₀.heap.objs.size≤b)∧b≠X.env.locals∧(∀x c,X.env.cells.lookup x=some c→c≠b)∧∀p∈X.pn++pins,p.1≠b)
    (keep:∀b o,b≠X.env.locals→b∉X.fs→b∉ch→s.heap.get? b=some o→H b=none→h'.get? b=some o)
    (slot:∀b o,b≠X.env.locals→b∈X.fs→b∉ch→s.heap.get? b=some o→H b=none→∃sl,h'.get? b=some {o with slots:=sl}) (free:∀b o,b∉ch→s.heap.get? b=some o→H b=none→H' b=none)
    (there:∀b o,b∉ch→s.heap.get? b=some o→∃o',h'.get? b=some o')
    (tups:∀b xs,H b=some (.tup xs)→H' b=some (.tup xs)) (frzs:∀b o u,H b=some (.frz o u)→H' b=some (.frz o u)) (tbls:∀b ps,H b=some (.tbl ps)→∃more,H' b=some (.tbl (ps++more)))
    (ns:∀m,s.heap.Ns X.env.locals m→h'.Ns X.env.locals m) (hok:HOk X.prog X.w H' h') (hg:AllBare g'):
    Inv X pins σ H' {s with heap:=h',gens:=g',drawn:=d',toks:=t'}:=by
  have neL:∀b o,X.s₀.heap.get? b=some o→b≠X.env.locals:=fun b o e=>Nat.ne_of_lt (Nat.lt_of_lt_of_le (Heap.lt_size e) I.ok.above)
  have neC:∀b o,X.s₀.heap.get? b=some o→b∉X.ex→b∉ch:=fun b o e hx hb=>by
    rcases(hch b hb).1 with z|z
    · exact hx z
    · exact absurd (Nat.lt_of_lt_of_le (Heap.lt_size e) z) (Nat.lt_irrefl _)
  have cellK:∀x c,X.env.cells.lookup x=some c→∀v,s.heap.IsCell c v→h'.IsCell c v:=fun x c e v ⟨o,ho,hd⟩=>by
    have nch:c∉ch:=fun z=>(hch c z).2.2.1 x c e rfl;by_cases hc:c∈X.fs
    · obtain⟨sl,q⟩:=slot c o (I.cne x c e) hc nch ho (I.freeC x c e)
      exact⟨_,q,hd⟩
    · exact⟨o,keep c o (I.cne x c e) hc nch ho (I.freeC x c e),hd⟩
  refine⟨I.ok,I.os,hg,⟨fun b o e n hb hx=> ?_,fun b o e n hb hx=> ?_,fun b o e n hx=> ?_,fun b o e hx=> ?_,fun b xs e=>tups b xs (I.base.tups b xs e),fun b o xs e=>frzs b o xs (I.base.frzs b o xs e),fun b ps e=> ?_⟩,?_,fun x c e=> ?_,?_,fun x c e=> ?_,fun p hp=> ?_,hok,I.len⟩
  · exact keep b o (neL b o e) hb (neC b o e hx) (I.base.keep b o e n hb hx) (I.base.free b o e n hx)
  · obtain⟨sl,e1⟩:=I.base.slot b o e n hb hx
    obtain⟨sl',e2⟩:=slot b _ (neL b o e) hb (neC b o e hx) e1 (I.base.free b o e n hx);exact⟨sl',e2⟩
  · obtain⟨o',e1⟩:=I.base.there b o e hx
    exact free b o' (neC b o e hx) e1 (I.base.free b o e n hx)
  · obtain⟨o',e1⟩:=I.base.there b o e hx
    exact there b o' (neC b o e hx) e1
  · obtain⟨m1,e1⟩:=I.base.tbls b ps e
    obtain⟨m2,e2⟩:=tbls b _ e1;exact⟨m1++m2,by rw[e2,Array.append_assoc]⟩
  · obtain⟨m,hn,hl⟩:=I.loc
    refine⟨m,ns m hn,fun i x v e1 e2 e3=> ?_⟩;obtain⟨u,r,l⟩:=hl i x v e1 e2 e3;refine⟨u,r,?_⟩;rcases l with l|⟨k,c,e,z⟩
    · exact .inl l
    · exact .inr ⟨k,c,e,cellK x c e _ z⟩
  · obtain⟨v,z⟩:=I.cell x c e
    exact⟨v,cellK x c e v z⟩
  · obtain⟨m,⟨o,_,_,ho,_⟩,_⟩:=I.loc
    exact free _ o (fun z=>(hch _ z).2.1 rfl) ho I.free
  · obtain⟨v,o,ho,hd⟩:=I.cell x c e
    exact free c o (fun z=>(hch c z).2.2.1 x c e rfl) ho (I.freeC x c e)
  · obtain⟨e,n,ne,nf,d⟩:=I.pin p hp
    have nch:p.1∉ch:=fun z=>(hch p.1 z).2.2.2 p hp rfl;exact⟨keep p.1 p.2 ne nf nch e n,free p.1 p.2 nch e n,ne,nf,d⟩
theorem Inv.un {t' :Nat} (I:Inv X pins σ H s) (u:Un X.fs [] H H' s.heap h') (hok:HOk X.prog X.w H' h'):Inv X pins σ H' {s with heap:=h',toks:=t'}:=by
  obtain⟨m,⟨o,es,ep,ho,r⟩,_⟩:=id I.loc;obtain⟨sl,hL⟩:=u.any ho I.free (by simp)
  exact I.step (g' :=s.gens) (d' :=s.drawn) (ch:=[]) (fun _ z=>nomatch z) (fun b o _ hb _ e n=>u.keep b o e n hb (by simp)) (fun b o _ hb _ e n=>u.slot b o e n hb (by simp)) (fun b o _ e n=>u.free b o e n (by simp)) (fun b o _ e=>u.there b o e (by simp)) u.tups u.frzs u.tbls (fun m' hm=>by
    obtain⟨o',es',ep',ho',r'⟩:=hm;rw[ho] at ho';cases ho'
    exact⟨_,es',ep',hL,r'⟩) hok I.bare
theorem Inv.call {g' :Array GenState} {t' :Nat} {d' :Drawn} {ch:List Addr} (I:Inv X pins σ H s) (u:Un (frs X.stack) ch H H' s.heap h') (hok:HOk X.prog X.w H' h') (hg:AllBare g')
    (hch:∀b∈ch,(b∈X.ex∨X.s₀.heap.objs.size≤b)∧b≠X.env.locals∧(∀x c,X.env.cells.lookup x=some c→c≠b)∧∀p∈X.pn++pins,p.1≠b):
    Inv X pins σ H' {s with heap:=h',gens:=g',drawn:=d',toks:=t'}:=by
  obtain⟨m,⟨o,es,ep,ho,r⟩,_⟩:=id I.loc;obtain⟨sl,hL⟩:=u.any ho I.free fun z=>(hch _ z).2.1 rfl
  exact I.step (ch:=ch) hch (fun b o hL hb hc e n=>u.keep b o e n (fun z=>(List.mem_cons.mp (I.stkSub b z)).elim hL hb) hc) (fun b o _ _ hc e n=>u.any e n hc) (fun b o hc e n=>u.free b o e n hc) (fun b o hc e=>u.there b o e hc) u.tups u.frzs u.tbls (fun m' hm=>by
    obtain⟨o',es',ep',ho',r'⟩:=hm;rw[ho] at ho';cases ho'
    exact⟨_,es',ep',hL,r'⟩) hok hg
theorem Inv.turned {t' :Nat} {it:Addr} (I:Inv X pins σ H s) (k:∀b o,b≠it→s.heap.get? b=some o→h'.get? b=some o) (hn:H it=none) (hL:it≠X.env.locals)
    (h1:it∈X.ex∨X.s₀.heap.objs.size≤it) (h2:∀x c,X.env.cells.lookup x=some c→c≠it) (h3:∀p∈X.pn++pins,p.1≠it):Inv X pins σ H {s with heap:=h',toks:=t'}:=by
  have nit:∀b u,H b=some u→b≠it:=fun b u e z=>by rw[z,hn] at e;cases e
  refine I.step (g' :=s.gens) (d' :=s.drawn) (ch:=[it]) (fun b hb=> ?_) (fun b o _ _ hc e _=>k b o (fun z=>hc (by simp[z])) e) (fun b o _ _ hc e _=>⟨o.slots,k b o (fun z=>hc (by simp[z])) e⟩) (fun _ _ _ _ n=>n)
    (fun b o hc e=>⟨o,k b o (fun z=>hc (by simp[z])) e⟩) (fun _ _ e=>e) (fun _ _ _ e=>e) (fun b ps e=>⟨#[],by rw[e];simp⟩) (fun m hm=> ?_) (fun b u e=> ?_) I.bare
  · have e:b=it:=by simpa using hb
    subst e;exact⟨h1,hL,h2,h3⟩
  · obtain⟨o,es,ep,ho,r⟩:=hm
    exact⟨o,es,ep,k _ o (Ne.symm hL) ho,r⟩
  · refine(I.hok b u e).stay (fun c v hc q=>k c v ?_ q) (fun _ q=>q) fun _ _ q=>q
    rcases hc with z|z
    · rw[z];exact nit b u e
    · exact nit c _ z
theorem Inv.tok(I:Inv X pins σ H s)(t:Nat):Inv X pins σ H {s with toks:=t}:=I.un (h' :=s.heap) (t' :=t) Un.refl I.hok
theorem Inv.kept{t' :Nat}(I:Inv X pins σ H s)(k:∀b u,s.heap.get? b=some u→h'.get? b=some u):Inv X pins σ H {s with heap:=h',toks:=t'}:=I.un (Un.kept k) (I.hok.kept k)
theorem Inv.laid {a:Addr} {o:HO} {t' :Nat} (I:Inv X pins σ H s) (k:∀b u,s.heap.get? b=some u→h'.get? b=some u) (hp:s.heap.objs.size≤a) (new:ObjOk X.prog X.w (upd H a o) h' a o):
    Inv X pins σ (upd H a o) {s with heap:=h',toks:=t'}:=I.un (Un.laid k hp (I.hok.fresh hp)) (I.hok.laid k hp new)
theorem Inv.write {x e:Addr} {o:HO} {t' :Nat} (I:Inv X pins σ H s) (mu:Mut (H x)) (he:e=x∨H e=some (.own x)) (k:∀b u,b≠e→s.heap.get? b=some u→h'.get? b=some u) (heo:∃u,h'.get? e=some u)
    (new:ObjOk X.prog X.w (upd H x o) h' x o):Inv X pins σ (upd H x o) {s with heap:=h',toks:=t'}:=I.un (Un.write mu he k heo) (I.hok.write mu he k heo new)
theorem Inv.weak {σ' :List (Option V)} (I:Inv X pins σ H s) (hl:σ'.length=σ.length) (w:∀(i:Nat) v,σ'[i]? =some (some v)→σ[i]? =some (some v)):Inv X pins σ' H s:=
  ⟨I.ok,I.os,I.bare,I.base,let⟨m,hn,hl'⟩:=I.loc;⟨m,hn,fun i x v e1 e2 e3=>hl' i x v e1 (w i v e2) e3⟩,I.cell,I.free,I.freeC,I.pin,I.hok,hl.trans I.len⟩
theorem Inv.pins_of {pins' :List (Addr×Obj)} (I:Inv X pins σ H s) (h:∀p∈pins',s.heap.get? p.1=some p.2∧H p.1=none∧p.1≠X.env.locals∧p.1∉X.fs∧∀v,p.2.data≠.cell v):Inv X pins' σ H s:=
  ⟨I.ok,I.os,I.bare,I.base,I.loc,I.cell,I.free,I.freeC,fun p hp=>(List.mem_append.mp hp).elim (fun z=>I.pin p (List.mem_append_left _ z)) (h p),I.hok,I.len⟩
theorem nodup_ix {N:List Str} (hN:N.Nodup) {i j:Nat} {x:Str} (a:N[i]? =some x) (b:N[j]? =some x):i=j:=by
  obtain⟨h1,e1⟩:=List.getElem?_eq_some_iff.mp a;obtain⟨h2,e2⟩:=List.getElem?_eq_some_iff.mp b;exact(List.getElem_inj hN).mp (e1.trans e2.symm)
theorem store_ok2 {M:Model} {A:Around} {E:Value→Shared→Prop} {i:Nat} {x:Str} {v:V} {u:Value} {Q:Unit→Shared→Prop} (I:Inv X pins σ H s) (hN:X.N.Nodup) (hi:X.N[i]? =some x) (hx:Loc X.env.scope x) (r:RelV v u)
    (h:∀s',Inv X pins (σ.set i (some v)) H s'→(∃a,Heap.SameBut a s.heap s'.heap∧(a=X.env.locals∨X.env.cells.lookup x=some a))→Q () s') (hf:X.fn x=true∨X.env.scope.names.lookup x=some .local:=by first|exact .inl rfl|exact .inr rfl|assumption):wpAny M A (storeName X.env x u) Q E s:=by
  obtain⟨m,hn,hl⟩:=id I.loc;have hcls:(X.env.scope.kind== .class||(X.env.scope.kind== .module&&X.env.locals !=X.env.globals))=false:=by rw[I.ok.kind];rfl
  have hiσ:i<σ.length:=by rw[I.len];exact(List.getElem?_eq_some_iff.mp hi).1
  have cne:=I.cne
  have tracked:∀{a:Addr} {h' :Heap},(∃o,s.heap.get? a=some o∧H a=none)→Heap.SameBut a s.heap h'→HOk X.prog X.w H h' :=fun{a h'} ha hs b ob e=>by
    obtain⟨_,_,hfree⟩:=ha;refine(I.hok b ob e).stay (fun c w' hc q=>(hs.2 c ?_).trans q) (fun _ q=>q) fun _ _ q=>q
    rintro rfl
    rcases hc with rfl|hc
    · rw[hfree] at e;cases e
    · rw[hfree] at hc;cases hc
  rcases hx with hk|hk
  · refine wpAny_storeName_local hk hn (fun h' hn' hs=> ?_) hcls
    obtain⟨oL,_,_,hoL,_⟩:=id hn;refine h _ ⟨I.ok,I.os,I.bare,⟨fun b o e n hb hx=> ?_,fun b o e n hb hx=> ?_,I.base.free,fun b o e hx=> ?_,I.base.tups,I.base.frzs,I.base.tbls⟩,⟨_,hn',fun j y v' e1 e2 e3=> ?_⟩,fun y c e=> ?_,I.free,I.freeC,fun p hp=> ?_,tracked ⟨oL,hoL,I.free⟩ hs,by simpa using I.len⟩ ⟨_,hs,.inl rfl⟩
    · exact(hs.2 b (Nat.ne_of_lt (Nat.lt_of_lt_of_le (Heap.lt_size e) I.ok.above))).trans (I.base.keep b o e n hb hx)
    · obtain⟨sl,e1⟩:=I.base.slot b o e n hb hx
      exact⟨sl,(hs.2 b (Nat.ne_of_lt (Nat.lt_of_lt_of_le (Heap.lt_size e) I.ok.above))).trans e1⟩
    · obtain⟨o',e1⟩:=I.base.there b o e hx
      exact⟨o',(hs.2 b (Nat.ne_of_lt (Nat.lt_of_lt_of_le (Heap.lt_size e) I.ok.above))).trans e1⟩
    · by_cases hj:j=i
      · subst hj
        rw[hi] at e1;cases e1
        rw[List.getElem?_set_self hiσ] at e2;cases e2;exact⟨u,r,.inl ⟨hk,by simp⟩⟩
      · rw[List.getElem?_set_ne (Ne.symm hj)] at e2
        obtain⟨u',r',q⟩:=hl j y v' e1 e2 e3;refine⟨u',r',?_⟩;rcases q with⟨k,e⟩|⟨k,c,e,z⟩
        · refine .inl ⟨k,?_⟩
          have:y≠x:=fun e=>hj (nodup_ix hN e1 (e▸hi));simp[this,e]
        · exact .inr ⟨k,c,e,z.sameBut hs (cne y c e)⟩
    · obtain⟨w',z⟩:=I.cell y c e
      exact⟨w',z.sameBut hs (cne y c e)⟩
    · obtain⟨e,n,ne,nf,d⟩:=I.pin p hp
      exact⟨(hs.2 p.1 ne).trans e,n,ne,nf,d⟩
  · have hfn:X.fn x=true:=by
      rcases hf with z|z
      · exact z
      · rw[z] at hk;cases hk
    obtain⟨c,hc⟩:=I.ok.has x (.inl hk);obtain⟨w',z⟩:=I.cell x c hc;refine wpAny_storeName_cell I.ok.kind hk hc z (fun h' hc' hs=> ?_);obtain⟨oc,hoc,hocd⟩:=id z;refine h {s with heap:=h'} ⟨I.ok,I.os,I.bare,⟨fun b o e n hb hx=> ?_,fun b o e n hb hx=> ?_,I.base.free,fun b o e hx=> ?_,I.base.tups,I.base.frzs,I.base.tbls⟩,⟨m,hn.sameBut hs (Ne.symm (cne x c hc)),fun j y v' e1 e2 e3=> ?_⟩,fun y c' e=> ?_,I.free,I.freeC,fun p hp=> ?_,tracked ⟨oc,hoc,I.freeC x c hc⟩ hs,by simpa using I.len⟩ ⟨c,hs,.inr hc⟩
    · exact(hs.2 b (Nat.ne_of_lt (Nat.lt_of_lt_of_le (Heap.lt_size e) (I.ok.cab x c hfn hc)))).trans (I.base.keep b o e n hb hx)
    · obtain⟨sl,e1⟩:=I.base.slot b o e n hb hx
      exact⟨sl,(hs.2 b (Nat.ne_of_lt (Nat.lt_of_lt_of_le (Heap.lt_size e) (I.ok.cab x c hfn hc)))).trans e1⟩
    · obtain⟨o',e1⟩:=I.base.there b o e hx
      exact⟨o',(hs.2 b (Nat.ne_of_lt (Nat.lt_of_lt_of_le (Heap.lt_size e) (I.ok.cab x c hfn hc)))).trans e1⟩
    · by_cases hj:j=i
      · subst hj
        rw[hi] at e1;cases e1
        rw[List.getElem?_set_self hiσ] at e2;cases e2;exact⟨u,r,.inr ⟨.inl hk,c,hc,hc'⟩⟩
      · rw[List.getElem?_set_ne (Ne.symm hj)] at e2
        obtain⟨u',r',q⟩:=hl j y v' e1 e2 e3;refine⟨u',r',?_⟩;rcases q with q|⟨k,c',e,z'⟩
        · exact .inl q
        · refine .inr ⟨k,c',e,z'.sameBut hs ?_⟩
          rintro rfl
          exact hj (nodup_ix hN e1 (I.ok.inj _ _ _ e hc▸hi))
    · by_cases hcc:c' =c
      · subst hcc;exact⟨_,hc'⟩
      · obtain⟨w2,z2⟩:=I.cell y c' e
        exact⟨w2,z2.sameBut hs hcc⟩
    · obtain⟨e,n,ne,nf,d⟩:=I.pin p hp
      refine⟨(hs.2 p.1 ?_).trans e,n,ne,nf,d⟩;intro q;rw[q,hoc] at e;have q' :oc=p.2:=Option.some.inj e;exact d w' (by rw[←q'];exact hocd)
theorem store_ok {M:Model} {A:Around} {E:Value→Shared→Prop} {i:Nat} {x:Str} {v:V} {u:Value} {Q:Unit→Shared→Prop} (I:Inv X pins σ H s) (hN:X.N.Nodup) (hi:X.N[i]? =some x) (hx:Loc X.env.scope x) (r:RelV v u)
    (h:∀s',Inv X pins (σ.set i (some v)) H s'→Q () s') (hf:X.fn x=true∨X.env.scope.names.lookup x=some .local:=by first|exact .inl rfl|exact .inr rfl|assumption):wpAny M A (storeName X.env x u) Q E s:=
  store_ok2 I hN hi hx r (fun s' I' _=>h s' I') hf
theorem Inv.call' {s' :Shared} {ch:List Addr} (I:Inv X pins σ H s) (ho:s'.os=s.os) (u:Un (frs X.stack) ch H H' s.heap s'.heap) (hok:HOk X.prog X.w H' s'.heap) (hg:AllBare s'.gens)
    (hch:∀b∈ch,(b∈X.ex∨X.s₀.heap.objs.size≤b)∧b≠X.env.locals∧(∀x c,X.env.cells.lookup x=some c→c≠b)∧∀p∈X.pn++pins,p.1≠b):Inv X pins σ H' s' :=by
  obtain⟨h',g',d',t',o'⟩:=s';have e:o' =s.os:=ho;subst e;exact I.call (g' :=g') (t' :=t') (d' :=d') u hok hg hch
end
abbrev XK:=Value→Option Addr→Hp→Prop
abbrev St:=List (Option V)
abbrev VK:=V→Hp→Prop
abbrev TE:=St→Hp→VK→Prop
abbrev TT:=St→Hp→(Bool→Hp→Prop)→Prop
abbrev TA:=St→Hp→(List V→Hp→Prop)→Prop
structure Ends where
  nx:St→Hp→Prop
  rt:VK
  bk:St→Hp→Prop:=fun _ _=>False
  ct:St→Hp→Prop:=fun _ _=>False
abbrev TS:=Ends→St→Hp→Prop
def EP(X:Cx)(pins:List (Addr×Obj))(σ:St)(Q:VK)(u:Value)(s' :Shared):Prop:=∃v H',Inv X pins σ H' s'∧RelV v u∧Q v H'
def TP(X:Cx)(pins:List (Addr×Obj))(σ:St)(Q:Bool→Hp→Prop)(b:Bool)(s' :Shared):Prop:=∃H',Inv X pins σ H' s'∧Q b H'
def AP(X:Cx)(pins:List (Addr×Obj))(σ:St)(Q:List V→Hp→Prop)(us:List Value)(s' :Shared):Prop:=∃vs H',Inv X pins σ H' s'∧Vals vs us∧Q vs H'
def SP (X:Cx) (pins:List (Addr×Obj)) (D:Ends) (f:Flow) (s' :Shared):Prop:=
  match f with
  | .next=>∃σ' H',Inv X pins σ' H' s'∧D.nx σ' H'
  | .brk=>∃σ' H',Inv X pins σ' H' s'∧D.bk σ' H'
  | .cont=>∃σ' H',Inv X pins σ' H' s'∧D.ct σ' H'
  | .ret u=>∃v σ' H',Inv X pins σ' H' s'∧RelV v u∧D.rt v H'
def PE (X:Cx) (e:Expr) (t:TE):Prop:=
  ∀(pins:List (Addr×Obj)) (s:Shared) (σ:St) (H:Hp) (Q:VK),Inv X pins σ H s→t σ H Q→wpAny (model X.prog X.w) X.A (eval e X.env) (EP X pins σ Q) X.xe s
def PT (X:Cx) (e:Expr) (t:TT):Prop:=
  ∀(pins:List (Addr×Obj)) (s:Shared) (σ:St) (H:Hp) (Q:Bool→Hp→Prop),Inv X pins σ H s→t σ H Q→wpAny (model X.prog X.w) X.A (isTrue e X.env (eval e X.env)) (TP X pins σ Q) X.xe s
def PW (X:Cx) (e:Expr) (t:TT):Prop:=
  ∀(whole:Sem Value) (pins:List (Addr×Obj)) (s:Shared) (σ:St) (H:Hp) (Q:Bool→Hp→Prop),Inv X pins σ H s→t σ H Q→wpAny (model X.prog X.w) X.A (isTrue e X.env whole) (TP X pins σ Q) X.xe s
theorem PW.pt{X:Cx}{e:Expr}{t:TT}(h:PW X e t):PT X e t:=h _
def PA (X:Cx) (es:List Expr) (t:TA):Prop:=
  ∀(pos:Pos) (pins:List (Addr×Obj)) (s:Shared) (σ:St) (H:Hp) (Q:List V→Hp→Prop),Inv X pins σ H s→t σ H Q→wpAny (model X.prog X.w) X.A (spliced (backTo pos (starEach es X.env))) (AP X pins σ Q) X.xe s
def PS (X:Cx) (st:Stmt) (t:TS):Prop:=
  ∀(pins:List (Addr×Obj)) (s:Shared) (σ:St) (H:Hp) (D:Ends),Inv X pins σ H s→t D σ H→wpAny (model X.prog X.w) X.A (exec st X.env) (SP X pins D) X.xe s
def PSs (X:Cx) (st:List Stmt) (t:TS):Prop:=
  ∀(pins:List (Addr×Obj)) (s:Shared) (σ:St) (H:Hp) (D:Ends),Inv X pins σ H s→t D σ H→wpAny (model X.prog X.w) X.A (execs st X.env) (SP X pins D) X.xe s
theorem thn{α:Type}{t:Sem α}{Q Q' :α→Shared→Prop}{M:Model}{A:Around}{E:Value→Shared→Prop}{s:Shared}(h:wpAny M A t Q E s)(hQ:∀a s,Q a s→Q' a s):wpAny M A t Q' E s:=wpAny_mono h hQ fun _ _ x=>x
end L2
namespace L2
open PySem PySem.Spec PyProof.Rows
section
variable{X:Cx}
theorem bin {a b:Expr} {ta tb:TE} (ha:PE X a ta) (hb:PE X b tb) {pins:List (Addr×Obj)} {s:Shared} {σ:St} {H:Hp} {R:V→V→Hp→Prop} (I:Inv X pins σ H s) (h:ta σ H fun x H1=>tb σ H1 fun y H2=>R x y H2)
    {α:Type} {Q:α→Shared→Prop} {f:Value→Value→Sem α}
    (hf:∀v u s2 x y H2,Inv X pins σ H2 s2→RelV x v→RelV y u→R x y H2→wpAny (model X.prog X.w) X.A (f v u) Q X.xe s2):
    wpAny (model X.prog X.w) X.A (eval a X.env) (fun v s₁=>wpAny (model X.prog X.w) X.A (eval b X.env) (fun u s₂=>wpAny (model X.prog X.w) X.A (f v u) Q X.xe s₂) X.xe s₁) X.xe s:=by
  refine thn (ha pins s σ H _ I h) fun v s1 ⟨x,H1,I1,r1,q1⟩=> ?_;refine thn (hb pins s1 σ H1 _ I1 q1) fun u s2 ⟨y,H2,I2,r2,q2⟩=> ?_;exact hf v u s2 x y H2 I2 r1 r2 q2
def tVar(i:Nat):TE:=fun σ H Q=>∃v,σ[i]? =some (some v)∧Q v H
def tC(v:V):TE:=fun _ H Q=>Q v H
theorem pe_var {i:Nat} {x:Str} {pos:Pos} (hN:X.N[i]? =some x) (hv:Vis X.env.scope x) (hd:(x==("__debug__" :Str))=false:=by decide) (hcd:(x==("__classdict__" :Str))=false:=by decide):PE X (.Name x pos) (tVar i):=by
  intro pins s σ H Q I h;obtain⟨v,e,h⟩:=h;obtain⟨m,hn,hl⟩:=I.loc;obtain⟨u,r,l⟩:=hl i x v hN e hv;have fin:EP X pins σ Q u s:=⟨v,H,I,r,h⟩;rcases l with⟨hk,hm⟩|⟨hk,c,hc,hcell⟩
  · exact wpAny_Name (wpAny_loadName_local I.ok.kind hk hn hm fin) hd
  · rcases hk with hk|hk
    · exact wpAny_Name (wpAny_loadName_cell I.ok.kind hk hc hcell fin) hd
    · exact wpAny_Name (wpAny_loadName_free I.ok.kind hk hc hcell fin hcd) hd
theorem pe_int{i j pos}:PE X (.Constant (.int i) j pos) (tC (.int i)):=fun _ _ _ H _ I h=>wpAny_Constant_int ⟨.int i,H,I.tok _,⟨_,rfl⟩,h⟩
theorem pe_bl{b j pos}:PE X (.Constant (.bool b) j pos) (tC (.bl b)):=fun _ _ _ H _ I h=>Constant_bool ⟨.bl b,H,I,rfl,h⟩
theorem pe_non{j pos}:PE X (.Constant .none j pos) (tC .non):=fun _ _ _ H _ I h=>Constant_none ⟨.non,H,I,rfl,h⟩
theorem pe_str{x j pos}:PE X (.Constant (.str x) j pos) (tC (.str x)):=fun _ _ _ H _ I h=>Calls.Constant_str ⟨.str x,H,I.tok _,⟨_,rfl⟩,h⟩
def Gl(X:Cx)(x:Str):Prop:=X.env.kindOf x=some .globalImplicit
theorem ld_glob {E:Value→Shared→Prop} {pins:List (Addr×Obj)} {s:Shared} {σ:St} {H:Hp} {x:Str} {u:Value} {pos:Pos} {Q:Value→Shared→Prop} (I:Inv X pins σ H s) (hg:Gl X x) (hm:X.mg x=some u) (h:Q u s)
    (hd:(x==("__debug__" :Str))=false:=by decide):wpAny (model X.prog X.w) X.A (eval (.Name x pos) X.env) Q E s:=
  Calls.Name_function_global I.ok.kind hg (Calls.loadGlobal_global (by rw[I.ok.glob];exact I.mod.glob.keeps I.bk) hm h) hd
theorem ld_blt {E:Value→Shared→Prop} {pins:List (Addr×Obj)} {s:Shared} {σ:St} {H:Hp} {x:Str} {u:Value} {pos:Pos} {Q:Value→Shared→Prop} (I:Inv X pins σ H s) (hg:Gl X x) (hm:X.mg x=none) (hv:bootBuiltins x=some u) (h:Q u s)
    (hn:x≠ "__name__":=by decide) (hd:(x==("__debug__" :Str))=false:=by decide):wpAny (model X.prog X.w) X.A (eval (.Name x pos) X.env) Q E s:=by
  obtain⟨mb,h1,h2⟩:=I.mod.blt;exact Calls.Name_function_global I.ok.kind hg (Calls.loadGlobal_builtin (by rw[I.ok.glob];exact I.mod.glob.keeps I.bk) hm (by rw[I.ok.blt];exact h1.keeps I.bk) ((h2 x hn).trans hv) h) hd
theorem pe_glob {x:Str} {v:V} {u:Value} {pos:Pos} (hg:Gl X x) (hm:X.mg x=some u) (r:RelV v u) (hd:(x==("__debug__" :Str))=false:=by decide):PE X (.Name x pos) (tC v):=
  fun _ _ _ H _ I h=>ld_glob I hg hm ⟨v,H,I,r,h⟩ hd
theorem pe_bltn {x:Str} {v:V} {u:Value} {pos:Pos} (hg:Gl X x) (hm:X.mg x=none) (hv:bootBuiltins x=some u) (r:RelV v u) (hn:x≠ "__name__":=by decide) (hd:(x==("__debug__" :Str))=false:=by decide):PE X (.Name x pos) (tC v):=
  fun _ _ _ H _ I h=>ld_blt I hg hm hv ⟨v,H,I,r,h⟩ hn hd
variable{a b:Expr}{ta tb:TE}{pos:Pos}
def PC (X:Cx) (op:CmpOp) (a b:Expr) (t:TE):Prop:=
  ∀ (pins:List (Addr×Obj)) (s:Shared) (σ:St) (H:Hp) (Q:VK),Inv X pins σ H s→t σ H Q→
    wpAny (model X.prog X.w) X.A (eval a X.env) (fun v s₁=>wpAny (model X.prog X.w) X.A (eval b X.env) (fun u s₂=>wpAny (model X.prog X.w) X.A (compareOp op v u) (EP X pins σ Q) X.xe s₂) X.xe s₁) X.xe s
theorem nobehind (b:Expr) {op:CmpOp} (h:op≠.In) (h2:op≠.NotIn):behindInMarks op b=false:=by
  have e1:(op==CmpOp.In)=false:=by cases op<;>first|rfl|exact absurd rfl h
  have e2:(op==CmpOp.NotIn)=false:=by cases op<;>first|rfl|exact absurd rfl h2
  cases b<;>simp[behindInMarks,e1,e2]
def tB(t:TE):TT:=fun σ H Q=>t σ H fun x H1=>∃c,x= .bl c∧Q c H1
theorem pe_cmp{op:CmpOp}{t:TE}(h:PC X op a b t)(h1:behindInMarks op b=false:=by first|exact nobehind _ (by decide) (by decide)|rfl):PE X (.Compare a [op] [b] pos) t:=fun pins s σ H Q I hw=>wpAny_Compare1 (h pins s σ H Q I hw) h1
theorem pt_cmp {op:CmpOp} {t:TE} (h:PC X op a b t) (h1:behindInMarks op b=false:=by first|exact nobehind _ (by decide) (by decide)|rfl):PT X (.Compare a [op] [b] pos) (tB t):=by
  intro pins s σ H Q I hw;refine wpAny_isTrue_Compare1 (thn (h pins s σ H _ I hw) fun v s1 h1=>thn h1 fun u s2 h2=>thn h2 fun c s3 ⟨x,H1,I1,r1,q1⟩=> ?_) h1;obtain⟨d,rfl,q⟩:=q1;cases r1;exact wpAny_truthy_bool ⟨H1,I1,q⟩
theorem pt_val {e:Expr} {t:TE} (h:PE X e t) (he:∀whole,isTrue e X.env whole=(do let v←whole;standAt e.pos;holding [v] (truthy v)):=by intro _;rfl):PT X e (tB t):=by
  intro pins s σ H Q I hw;refine isTrue_plain (thn (h pins s σ H _ I hw) fun v s1 ⟨x,H1,I1,r1,q1⟩=> ?_) (he _);obtain⟨d,rfl,q⟩:=q1;cases r1;exact wpAny_truthy_bool ⟨H1,I1,q⟩
variable{tA tB' :TT}{rest:List Expr}
def tAnd(t u:TT):TT:=fun σ H Q=>t σ H fun c H1=>if c=true then u σ H1 Q else Q false H1
def tOr(t u:TT):TT:=fun σ H Q=>t σ H fun c H1=>if c=true then Q true H1 else u σ H1 Q
def tNot(t:TT):TT:=fun σ H Q=>t σ H fun c H1=>Q (!c) H1
theorem pw_and1 (ha:PT X a tA):PW X (.BoolOp .And [a] pos) tA:=by
  intro wh pins s σ H Q I h;refine isTrue_and (thn (ha pins s σ H Q I h) fun c s1 e=> ?_)
  cases c with
  |true=>exact isTrue_and_nil e
  |false=>exact e
theorem pw_or1 (ha:PT X a tA):PW X (.BoolOp .Or [a] pos) tA:=by
  intro wh pins s σ H Q I h;refine isTrue_or (thn (ha pins s σ H Q I h) fun c s1 e=> ?_)
  cases c with
  |false=>exact isTrue_or_nil e
  |true=>exact e
theorem pw_and (ha:PT X a tA) (hb:PW X (.BoolOp .And (b::rest) pos) tB'):PW X (.BoolOp .And (a::b::rest) pos) (tAnd tA tB'):=by
  intro wh pins s σ H Q I h;refine isTrue_and (thn (ha pins s σ H _ I h) fun c s1 ⟨H1,I1,q1⟩=> ?_)
  cases c with
  |true=>exact hb wh pins s1 σ H1 Q I1 q1
  |false=>exact⟨H1,I1,q1⟩
theorem pw_or (ha:PT X a tA) (hb:PW X (.BoolOp .Or (b::rest) pos) tB'):PW X (.BoolOp .Or (a::b::rest) pos) (tOr tA tB'):=by
  intro wh pins s σ H Q I h;refine isTrue_or (thn (ha pins s σ H _ I h) fun c s1 ⟨H1,I1,q1⟩=> ?_)
  cases c with
  |true=>exact⟨H1,I1,q1⟩
  |false=>exact hb wh pins s1 σ H1 Q I1 q1
theorem pt_not (ha:PT X a tA):PT X (.UnaryOp .Not a pos) (tNot tA):=by
  intro pins s σ H Q I h;exact isTrue_not (ha pins s σ H (fun c H1=>Q (!c) H1) I h)
def tAndV(ta tb:TE):TE:=fun σ H Q=>ta σ H fun x H1=>∃c,x= .bl c∧if c=true then tb σ H1 Q else Q (.bl false) H1
def tNotV(ta:TE):TE:=fun σ H Q=>ta σ H fun x H1=>∃c,x= .bl c∧Q (.bl (!c)) H1
theorem pe_one{op}{t:TE}(h:PE X a t):PE X (.BoolOp op [a] pos) t:=fun pins s σ H Q I hw=>BoolOp_one (h pins s σ H Q I hw)
theorem pe_and (ha:PE X a ta) (hb:PE X (.BoolOp .And (b::rest) pos) tb):PE X (.BoolOp .And (a::b::rest) pos) (tAndV ta tb):=by
  intro pins s σ H Q I h;refine BoolOp_and (thn (ha pins s σ H _ I h) fun v s1 ⟨x,H1,I1,r1,q1⟩=> ?_);obtain⟨c,rfl,q1⟩:=q1;cases r1;refine wpAny_truthy_bool ?_
  cases c with
  |true=>exact hb pins s1 σ H1 Q I1 q1
  |false=>exact⟨.bl false,H1,I1,rfl,q1⟩
theorem pe_not (ha:PE X a ta):PE X (.UnaryOp .Not a pos) (tNotV ta):=by
  intro pins s σ H Q I h;refine UnaryOp_ (thn (ha pins s σ H _ I h) fun v s1 ⟨x,H1,I1,r1,q1⟩=> ?_);obtain⟨c,rfl,q1⟩:=q1;cases r1;exact not_of (wpAny_truthy_bool ⟨.bl (!c),H1,I1,rfl,q1⟩)
def tIf(t:TT)(ta tb:TE):TE:=fun σ H Q=>t σ H fun c H1=>if c=true then ta σ H1 Q else tb σ H1 Q
theorem pe_ifExp {c:Expr} (hc:PT X c tA) (ha:PE X a ta) (hb:PE X b tb):PE X (.IfExp c a b pos) (tIf tA ta tb):=by
  intro pins s σ H Q I h;refine wpAny_IfExp (thn (hc pins s σ H _ I h) fun d s1 ⟨H1,I1,q1⟩=> ?_)
  cases d with
  |true=>exact ha pins s1 σ H1 Q I1 q1
  |false=>exact hb pins s1 σ H1 Q I1 q1
end
end L2
namespace L2
open PySem PySem.Spec PyProof.Rows
def SqL (K:PySem.W.Frag) (H:Hp) (a:Addr) (xs:List V):Prop:=
  Rd H a (.lst xs)∨
    ∃(o:Obj) (its:Array Value) (n:Nat),K.lookup a=some o∧o.cls= .type "list" ∧o.dict=none∧o.data= .seq its n∧its.size≤sizeLine∧Vals xs its.toList
def SqT (K:PySem.W.Frag) (H:Hp) (a:Addr) (xs:List V):Prop:=
  Rd H a (.tup xs)∨
    ∃(o:Obj) (its:Array Value) (n:Nat),K.lookup a=some o∧o.cls= .type "tuple" ∧o.data= .seq its n∧its.size≤sizeLine∧Vals xs its.toList
def absV:Value→Option V
  | .none=>some .non
  | .bool b=>some (.bl b)
  | .int i _=>some (.int i)
  | .str x _=>some (.str x)
  | .bytes b _=>some (.byt b)
  | .float b _=>some (.flt b)
  | .ref a=>some (.ref a)
  | .type n=>some (.ty n)
  |_=>none
theorem RelV.abs {x:V} {u:Value} (r:RelV x u):absV u=some x:=by
  cases x with
  |non=>cases r;rfl
  |bl _=>cases r;rfl
  |int _=>obtain⟨t,rfl⟩:=r;rfl
  |str _=>obtain⟨t,rfl⟩:=r;rfl
  |byt _=>obtain⟨t,rfl⟩:=r;rfl
  |flt _=>obtain⟨t,rfl⟩:=r;rfl
  |ref _=>cases r;rfl
  |ty _=>cases r;rfl
theorem RelV.inj{x y:V}{u:Value}(r:RelV x u)(q:RelV y u):x=y:=Option.some.inj (r.abs.symm.trans q.abs)
theorem Vals.inj:∀{xs ys:List V} {us:List Value},Vals xs us→Vals ys us→xs=ys
  |_,_,_,.nil,.nil=>rfl
  |_,_,_,.cons r t,.cons r' t' =>by rw[r.inj r',Vals.inj t t']
section
variable{X:Cx}{pins:List (Addr×Obj)}{σ:St}{H:Hp}{s:Shared}{a:Addr}{xs ys:List V}
theorem SqL.of{K:PySem.W.Frag}(h:H a=some (.lst xs)):SqL K H a xs:= .inl (.inl h)
theorem SqT.of{K:PySem.W.Frag}(h:H a=some (.tup xs)):SqT K H a xs:= .inl (.inl h)
theorem Inv.list (I:Inv X pins σ H s) (h:SqL X.K H a xs):∃its:List Value,Vals xs its∧PlainL s.heap a its.toArray∧xs.length≤sizeLine:=by
  rcases h with h|⟨o,its,n,hk,hc,hd,hs,hz,r⟩
  · obtain⟨z,its,n,r,e⟩:=h.ok I.hok
    exact⟨its,r,⟨_,n,e,rfl,rfl,rfl⟩,z⟩
  · refine⟨its.toList,r,⟨o,n,I.kIn a o hk,hc,hd,by simpa using hs⟩,?_⟩
    have e:=r.length;simp only[Array.length_toList] at e;omega
theorem Inv.tuple (I:Inv X pins σ H s) (h:SqT X.K H a xs):∃its:List Value,Vals xs its∧IsTup s.heap a its.toArray∧xs.length≤sizeLine:=by
  rcases h with h|⟨o,its,n,hk,hc,hs,hz,r⟩
  · obtain⟨z,its,r,p⟩:=h.ok I.hok
    exact⟨its,r,p,z⟩
  · refine⟨its.toList,r,⟨o,I.kIn a o hk,hc,n,by simpa using hs⟩,?_⟩
    have e:=r.length;simp only[Array.length_toList] at e;omega
theorem Inv.list_inj (I:Inv X pins σ H s) (h:SqL X.K H a xs) (h' :SqL X.K H a ys):xs=ys:=by
  obtain⟨its,r,⟨o,n,e,_,_,d⟩,_⟩:=I.list h;obtain⟨its',r',⟨o',n',e',_,_,d'⟩,_⟩:=I.list h';rw[e] at e';cases e'
  rw[d] at d';injection d' with d1 _;have:its=its' :=by simpa using congrArg Array.toList d1
  subst this;exact r.inj r'
end
abbrev Cx.wish(X:Cx)(E:Value→Shared→Prop):Cx:={X with xe:=E}
abbrev Cx.nox(X:Cx):Cx:=X.wish fun _ _=>False
theorem Cx.Ok.wish {X:Cx} (ok:X.Ok) (E:Value→Shared→Prop):(X.wish E).Ok:=
  ⟨ok.mod,ok.kind,ok.glob,ok.blt,ok.above,ok.inj,ok.has,ok.cab,ok.hd,ok.frames,ok.stk,ok.exf,ok.bs,ok.bsz,ok.noex,ok.exfs,ok.funs,ok.frf⟩
theorem Cx.Ok.unwish {X:Cx} {E:Value→Shared→Prop} (ok:(X.wish E).Ok):X.Ok:=
  ⟨ok.mod,ok.kind,ok.glob,ok.blt,ok.above,ok.inj,ok.has,ok.cab,ok.hd,ok.frames,ok.stk,ok.exf,ok.bs,ok.bsz,ok.noex,ok.exfs,ok.funs,ok.frf⟩
section
variable{X:Cx}{pins:List (Addr×Obj)}{σ:St}{H:Hp}{s:Shared}{E:Value→Shared→Prop}
theorem Inv.wish(I:Inv X pins σ H s)(E:Value→Shared→Prop):Inv (X.wish E) pins σ H s:=⟨I.ok.wish E,I.os,I.bare,I.base,I.loc,I.cell,I.free,I.freeC,I.pin,I.hok,I.len⟩
theorem Inv.unwish(I:Inv (X.wish E) pins σ H s):Inv X pins σ H s:=⟨I.ok.unwish,I.os,I.bare,I.base,I.loc,I.cell,I.free,I.freeC,I.pin,I.hok,I.len⟩
theorem SP.unwish {D:Ends} {f:Flow} {s' :Shared} (h:SP (X.wish E) pins D f s'):SP X pins D f s' :=by
  cases f with
  |next=>obtain⟨σ',H',I,q⟩:=h;exact⟨σ',H',I.unwish,q⟩
  |brk=>obtain⟨σ',H',I,q⟩:=h;exact⟨σ',H',I.unwish,q⟩
  |cont=>obtain⟨σ',H',I,q⟩:=h;exact⟨σ',H',I.unwish,q⟩
  |ret u=>obtain⟨v,σ',H',I,r,q⟩:=h;exact⟨v,σ',H',I.unwish,r,q⟩
theorem PE.nox {e:Expr} {t:TE} (h:PE X.nox e t):PE X e t:=fun pins s σ H Q I hw=>
  wpAny_mono (h pins s σ H Q (I.wish _) hw) (fun _ _ ⟨v,H',I',r,q⟩=>⟨v,H',I'.unwish,r,q⟩) fun _ _ z=>False.elim z
theorem PT.nox {e:Expr} {t:TT} (h:PT X.nox e t):PT X e t:=fun pins s σ H Q I hw=>
  wpAny_mono (h pins s σ H Q (I.wish _) hw) (fun _ _ ⟨H',I',q⟩=>⟨H',I'.unwish,q⟩) fun _ _ z=>False.elim z
theorem PSs.nox {st:List Stmt} {t:TS} (h:PSs X.nox st t):PSs X st t:=fun pins s σ H D I hw=>
  wpAny_mono (h pins s σ H D (I.wish _) hw) (fun _ _ q=>q.unwish) fun _ _ z=>False.elim z
end
section
variable{X:Cx}{st:Stmt}{rest:List Stmt}{t u:TS}{e:Expr}{te:TE}{pos:Pos}
def tNext:TS:=fun D σ H=>D.nx σ H
def tSeq(t u:TS):TS:=fun D σ H=>t {D with nx:=u D} σ H
theorem pss_nil:PSs X [] tNext:=fun _ _ σ H _ I h=>wpAny_execs_nil ⟨σ,H,I,h⟩
theorem pss_cons (h1:PS X st t) (h2:PSs X rest u):PSs X (st::rest) (tSeq t u):=by
  intro pins s σ H D I h;refine wpAny_execs_cons (thn (h1 pins s σ H {D with nx:=u D} I h) fun f s1 q=> ?_)
  cases f with
  | next=>
    obtain⟨σ',H',I',q⟩:=q;exact h2 pins s1 σ' H' D I' q
  |ret v=>exact q
  |brk=>exact q
  |cont=>exact q
theorem pss_one (h1:PS X st t):PSs X [st] t:=by
  intro pins s σ H D I h;refine wpAny_execs_cons (thn (h1 pins s σ H D I h) fun f s1 q=> ?_)
  cases f with
  |next=>exact wpAny_execs_nil q
  |ret v=>exact q
  |brk=>exact q
  |cont=>exact q
theorem Inv.quiet{pins:List (Addr×Obj)}{σ:St}{H:Hp}{s:Shared}(I:Inv X pins σ H s):interactive X.env=false:=by simp[interactive,I.ok.kind]
def tDrop(te:TE):TS:=fun D σ H=>te σ H fun _ H1=>D.nx σ H1
theorem ps_expr (he:PE X e te) (hs:swapsWith e none pos.line X.env=pure false:=by rfl):PS X (.Expr e pos) (tDrop te):=by
  intro pins s σ H D I h;exact wpAny_Expr_any (thn (he pins s σ H _ I h) fun v s1 ⟨x,H1,I1,r1,q1⟩=>⟨σ,H1,I1,q1⟩) I.quiet hs
def tRet(te:TE):TS:=fun D σ H=>te σ H D.rt
theorem ps_ret (he:PE X e te):PS X (.Return (some e) pos) (tRet te):=by
  intro pins s σ H D I h;exact wpAny_Return_some (thn (he pins s σ H _ I h) fun v s1 ⟨x,H1,I1,r1,q1⟩=>⟨x,σ,H1,I1,r1,q1⟩)
def tIfS(c:TT)(t u:TS):TS:=fun D σ H=>c σ H fun b H1=>if b=true then t D σ H1 else u D σ H1
theorem ps_if {c:Expr} {a b:List Stmt} {tc:TT} (hc:PT X c tc) (ha:PSs X a t) (hb:PSs X b u):PS X (.If c a b pos) (tIfS tc t u):=by
  intro pins s σ H D I h;refine wpAny_If (thn (hc pins s σ H _ I h) fun d s1 ⟨H1,I1,q1⟩=> ?_)
  cases d with
  |true=>exact ha pins s1 σ H1 D I1 q1
  |false=>exact hb pins s1 σ H1 D I1 q1
def tNever:TS:=fun _ _ _=>False
theorem ps_never:PS X st tNever:=fun _ _ _ _ _ _ h=>h.elim
end
abbrev TG:=V→St→Hp→(St→Hp→Prop)→Prop
abbrev TGs:=List V→St→Hp→(St→Hp→Prop)→Prop
def PG (X:Cx) (target:Expr) (t:TG):Prop:=
  ∀ (pins:List (Addr×Obj)) (s:Shared) (σ:St) (H:Hp) (v:V) (u:Value) (Q:St→Hp→Prop),Inv X pins σ H s→RelV v u→t v σ H Q→
    wpAny (model X.prog X.w) X.A (assign target X.env u) (fun _ s' =>∃σ' H',Inv X pins σ' H' s'∧Q σ' H') X.xe s
def PGs (X:Cx) (ts:List Expr) (t:TGs):Prop:=
  ∀ (pins:List (Addr×Obj)) (s:Shared) (σ:St) (H:Hp) (vs:List V) (us:List Value) (Q:St→Hp→Prop),Inv X pins σ H s→Vals vs us→t vs σ H Q→
    wpAny (model X.prog X.w) X.A (assignInOrder ((assignEach ts X.env).map (·.2)) us) (fun _ s' =>∃σ' H',Inv X pins σ' H' s'∧Q σ' H') X.xe s
abbrev TSet:=V→V→V→Hp→(Hp→Prop)→Prop
def PSet (X:Cx) (t:TSet):Prop:=
  ∀ (pins:List (Addr×Obj)) (s:Shared) (σ:St) (H:Hp) (o i v:V) (ov iv u:Value) (Q:Hp→Prop),Inv X pins σ H s→RelV o ov→RelV i iv→RelV v u→t o i v H Q→
    wpAny (model X.prog X.w) X.A (setItem ov iv u) (fun _ s' =>∃H',Inv X pins σ H' s'∧Q H') X.xe s
section
variable{X:Cx}{pos:Pos}
def gName(i:Nat):TG:=fun v σ H Q=>Q (σ.set i (some v)) H
theorem pg_name {i:Nat} {x:Str} (hN:X.N.Nodup) (hi:X.N[i]? =some x) (hx:Loc X.env.scope x) (hf:X.fn x=true∨X.env.scope.names.lookup x=some .local:=by first|exact .inl rfl|exact .inr rfl|assumption):PG X (.Name x pos) (gName i):=by
  intro pins s σ H v u Q I r h;exact wpAny_assign_Name (store_ok I hN hi hx r (fun s' I' =>⟨_,H,I',h⟩) hf)
def gNil:TGs:=fun vs σ H Q=>vs=[]∧Q σ H
def gCons(t:TG)(u:TGs):TGs:=fun vs σ H Q=>∃v r,vs=v::r∧t v σ H fun σ' H' =>u r σ' H' Q
theorem pgs_nil:PGs X [] gNil:=by
  intro pins s σ H vs us Q I r h;obtain⟨e,h⟩:=h;subst e;cases r;exact assignInOrder_nil ⟨σ,H,I,h⟩
theorem pgs_cons {e:Expr} {es:List Expr} {t:TG} {u:TGs} (h1:PG X e t) (h2:PGs X es u)
    (hs:(assignEach (e::es) X.env).map (·.2)=assign e X.env::(assignEach es X.env).map (·.2):=by rfl):PGs X (e::es) (gCons t u):=by
  intro pins s σ H vs us Q I r h;obtain⟨v,vr,e1,h⟩:=h;subst e1
  cases r with
  | cons r rr=>
    rw[hs];refine assignInOrder_cons (thn (h1 pins s σ H _ _ _ I r h) fun _ s1 ⟨σ1,H1,I1,q1⟩=> ?_);exact h2 pins s1 σ1 H1 _ _ Q I1 rr q1
def gTup(K:PySem.W.Frag)(n:Nat)(t:TGs):TG:=fun v σ H Q=>∃a xs,v= .ref a∧SqT K H a xs∧xs.length=n∧t xs σ H Q
theorem pg_tup {es:List Expr} {k:Nat} {t:TGs} {n:Nat} (hc:X.calm=true) (h:PGs X es t)
    (hn:(assignEach es X.env).length=n:=by rfl) (hst:(assignEach es X.env).findIdx? (·.1)=none:=by rfl):PG X (.Tuple es k pos) (gTup X.K n t):=by
  intro pins s σ H v u Q I r hw;obtain⟨a,xs,e1,hq,hl,hw⟩:=hw;subst e1;cases r;obtain⟨its,rv,ht,hz⟩:=I.tuple hq;refine assign_Tuple_tuple (I.ok.hd hc) ht (by simp[hn,←hl,rv.length]) hst fun h' hx=> ?_;have I1:Inv X pins σ H {s with heap:=h'}:=I.kept (t' :=s.toks) fun b o e=>hx b o (Nat.ne_of_lt (Heap.lt_size e)) e;exact h pins _ σ H xs _ Q I1 (by simpa using rv) hw
def gSub(to ti:TE)(t:TSet):TG:=fun v σ H Q=>to σ H fun o H1=>ti σ H1 fun i H2=>t o i v H2 fun H3=>Q σ H3
theorem pg_sub {o i:Expr} {to ti:TE} {t:TSet} (ho:PE X o to) (hi:PE X i ti) (hs:PSet X t)
    (ha:∀v,assign (.Subscript o i pos) X.env v=(do
      let ov←holding [v] (eval o X.env)
      let iv←holding [v,ov] (eval i X.env)
      standAt pos
      holding [v,ov,iv] (setItem ov iv v)
      release [v,ov,iv] []):=by intro _;rfl):PG X (.Subscript o i pos) (gSub to ti t):=by
  intro pins s σ H v u Q I r h;rw[ha];refine wpAny_bind (wpAny_holding (thn (ho pins s σ H _ I h) fun ov s1 ⟨x,H1,I1,r1,q1⟩=> ?_));refine wpAny_bind (wpAny_holding (thn (hi pins s1 σ H1 _ I1 q1) fun iv s2 ⟨y,H2,I2,r2,q2⟩=> ?_));refine wpAny_bind (wpAny_standAt (wpAny_bind (wpAny_holding (thn (hs pins s2 σ H2 x y v ov iv u _ I2 r1 r2 r q2) fun _ s3 ⟨H3,I3,q3⟩=> ?_))));exact wpAny_release ⟨σ,H3,I3,q3⟩
def tAsg(te:TE)(g:TG):TS:=fun D σ H=>te σ H fun x H1=>g x σ H1 D.nx
theorem ps_asg {tg e:Expr} {te:TE} {g:TG} (he:PE X e te) (hg:PG X tg g) (hs:swapsWithSole [tg] e pos.line X.env=pure false:=by rfl) (hw:swappedStores [tg] e X.env=pure none:=by rfl)
    (h1:(assignEach [tg] X.env).map (·.2)=[assign tg X.env]:=by rfl):PS X (.Assign [tg] e pos) (tAsg te g):=by
  intro pins s σ H D I h;refine wpAny_Assign_stores (thn (he pins s σ H _ I h) fun v s1 ⟨x,H1,I1,r1,q1⟩=> ?_) hs hw;rw[h1];exact thn (hg pins s1 σ H1 x v _ I1 r1 q1) fun _ s2 q=>q
theorem ps_set {i:Nat} {x:Str} {e:Expr} {te:TE} {pos' :Pos} (hN:X.N.Nodup) (hi:X.N[i]? =some x) (hx:Loc X.env.scope x) (he:PE X e te) (hs:swapsWith e (some (.Name x pos')) pos.line X.env=pure false:=by rfl) (hf:X.fn x=true∨X.env.scope.names.lookup x=some .local:=by first|exact .inl rfl|exact .inr rfl|assumption):
    PS X (.Assign [.Name x pos'] e pos) (tAsg te (gName i)):=by
  intro pins s σ H D I h;refine wpAny_Assign_Name (thn (he pins s σ H _ I h) fun v s1 ⟨y,H1,I1,r1,q1⟩=> ?_) hs;exact store_ok I1 hN hi hx r1 (fun s2 I2=>⟨_,H1,I2,q1⟩) hf
end
section
variable{X:Cx}{pos:Pos}
def tWhile (c:TT) (tb:TS):TS:=fun D σ H=>∃W:Nat→St→Hp→Prop,(∃m,W m σ H)∧∀m σ H,W m σ H→
  c σ H fun b H1=>if b=true then ∃N:St→Hp→Prop,(∀σ' H',N σ' H'→∃m',m' <m∧W m' σ' H')∧tb {D with nx:=N,ct:=N,bk:=D.nx} σ H1 else D.nx σ H1
theorem ps_while {c:Expr} {body:List Stmt} {tc:TT} {tb:TS} (hp:PassesOwn (model X.prog X.w) X.A X.env X.xe) (hc:PT X c tc) (hb:PSs X body tb):PS X (.While c body [] pos) (tWhile tc tb):=by
  intro pins s σ H D I h;obtain⟨W,⟨m0,w0⟩,turn⟩:=h;refine wpAny_While (codeAny_whileLoop (fun n s' =>∃σ' H',Inv X pins σ' H' s'∧W n σ' H') ?_ m0 ⟨σ,H,I,w0⟩)
  rintro n s1 ⟨σ1,H1,I1,w1⟩
  refine wpAny_passesOwn hp (thn (hc pins s1 σ1 H1 _ I1 (turn n σ1 H1 w1)) fun b s2 ⟨H2,I2,q2⟩=> ?_)
  cases b with
  | true=>
    obtain⟨N,hN,q2⟩:=q2;rw[if_pos rfl];refine wpAny_passesOwn hp (thn (hb pins s2 σ1 H2 _ I2 q2) fun f s3 q3=> ?_)
    cases f with
    | next=>
      obtain⟨σ3,H3,I3,n3⟩:=q3;obtain⟨m',hm,w3⟩:=hN σ3 H3 n3;exact⟨m',hm,σ3,H3,I3,w3⟩
    | cont=>
      obtain⟨σ3,H3,I3,n3⟩:=q3;obtain⟨m',hm,w3⟩:=hN σ3 H3 n3;exact⟨m',hm,σ3,H3,I3,w3⟩
    |brk=>exact q3
    |ret v=>exact q3
  | false=>
    rw[if_neg Bool.false_ne_true];exact wpAny_execs_nil ⟨σ1,H2,I2,q2⟩
end
structure It where
  go:Nat→Hp→Prop
  yld:Nat→Hp→V→Hp→Prop
  stop:Nat→Hp→Prop
def FpOk (X:Cx) (pins:List (Addr×Obj)) (H:Hp) (b:Addr):Prop:=
  H b=none∧b≠X.env.locals∧b∉X.fs∧(b∈X.ex∨X.s₀.heap.objs.size≤b)∧(∀x c,X.env.cells.lookup x=some c→c≠b)∧∀p∈X.pn++pins,p.1≠b
theorem Inv.fpOk {X:Cx} {pins:List (Addr×Obj)} {σ:St} {H H' :Hp} {s:Shared} {b:Addr} (I:Inv X pins σ H s) (hb:s.heap.objs.size≤b) (hn:H' b=none):FpOk X pins H' b:=by
  refine⟨hn,Nat.ne_of_gt (Nat.lt_of_lt_of_le I.lt hb),I.nofs hb,.inr (Nat.le_trans I.sz hb),fun x c e z=> ?_,fun p hp z=> ?_⟩
  · obtain⟨v,q⟩:=I.cell x c e
    exact absurd (Nat.lt_of_lt_of_le q.lt (by rw[z];exact hb)) (Nat.lt_irrefl _)
  · exact absurd (Nat.lt_of_lt_of_le (Heap.lt_size (I.pin p hp).1) (by rw[z];exact hb)) (Nat.lt_irrefl _)
structure Turn (P:Program) (w:World) (K:PySem.W.Frag) (tg:Expr) (J:It) (fp:List Addr) (it:Addr) (tn:Nat→Heap→Prop):Prop where
  mem:it∈fp
  obj:∀i h,tn i h→∀b∈fp,∃o,h.get? b=some o∧∀v,o.data≠.cell v
  keep:∀i h h',tn i h→(∀b∈fp,∀o,h.get? b=some o→h'.get? b=some o)→tn i h'
  item:∀(X:Cx),X.prog=P→X.w=w→X.K=K→X.calm=true→∀(i:Nat) (pins:List (Addr×Obj)) (s:Shared) (σ:St) (H:Hp) (E:Value→Shared→Prop),Inv X pins σ H s→(∀b∈fp,FpOk X pins H b)→tn i s.heap→J.go i H→
    wpAny (model P w) X.A (pyNext (.ref it)) (fun r s1=>∃u,r=some u∧
      wpAny (model P w) X.A (letOwnedTupleGo tg (.ref it) u) (fun _ s2=>∃x H',Inv X pins σ H' s2∧RelV x u∧J.yld i H x H'∧tn (i+1) s2.heap∧∀b∈fp,H' b=none) E s1) E s
  done:∀(X:Cx),X.prog=P→X.w=w→X.K=K→X.calm=true→∀(i:Nat) (pins:List (Addr×Obj)) (s:Shared) (σ:St) (H:Hp) (E:Value→Shared→Prop),Inv X pins σ H s→(∀b∈fp,FpOk X pins H b)→tn i s.heap→J.stop i H→
    wpAny (model P w) X.A (pyNext (.ref it)) (fun r s1=>r=none∧Inv X pins σ H s1) E s
  self:∀(A:Around) (i:Nat) (s:Shared) (Q:Value→Shared→Prop) (E:Value→Shared→Prop),tn i s.heap→Q (.ref it) s→wpAny (model P w) A (pyIter (.ref it)) Q E s
abbrev TI:=St→Hp→(It→Hp→Prop)→Prop
def PIE (X:Cx) (pins:List (Addr×Obj)) (σ:St) (tg:Expr) (R:It→Hp→Prop) (itv:Value) (s2:Shared):Prop:=
  ∃(it:Addr) (fp:List Addr) (tn:Nat→Heap→Prop) (J:It) (H' :Hp),itv= .ref it∧Inv X pins σ H' s2∧Turn X.prog X.w X.K tg J fp it tn∧tn 0 s2.heap∧(∀b∈fp,FpOk X pins H' b)∧R J H'
def PI (X:Cx) (tg iter:Expr) (wi:TI):Prop:=
  ∀ (pins:List (Addr×Obj)) (s:Shared) (σ:St) (H:Hp) (R:It→Hp→Prop),Inv X pins σ H s→wi σ H R→
    wpAny (model X.prog X.w) X.A (eval iter X.env) (fun v s1=>wpAny (model X.prog X.w) X.A (pyIter v) (PIE X pins σ tg R) X.xe s1) X.xe s
theorem go_of {M:Model} {A:Around} {E:Value→Shared→Prop} {s:Shared} {tg:Expr} {it:Addr} {u:Value} {o:Obj} {n:String} {vs:Array Value} {Q:Unit→Shared→Prop} (ho:s.heap.get? it=some o) (hc:o.cls= .type n) (hd:o.data= .fields vs)
    (hn:["enumerate","zip","dict_itemiterator","dict_reverseitemiterator","odict_iterator","itertools.zip_longest","itertools.pairwise"].contains n=false) (hQ:Q () s):wpAny M A (letOwnedTupleGo tg (.ref it) u) Q E s:=by
  unfold letOwnedTupleGo
  cases tg <;>first
    |exact wpAny_pure hQ
    | (cases u<;>first
        |exact wpAny_pure hQ
        | (refine wpAny_bind (wpAny_load ho ?_)
           rw[hc,hd];show wpAny M A (if(["enumerate","zip","dict_itemiterator","dict_reverseitemiterator","odict_iterator","itertools.zip_longest","itertools.pairwise"].contains n&&vs[0]? ==some (rawInt _))=true then _ else _) Q E s;rw[if_neg (by intro h;rw[hn,Bool.false_and] at h;cases h)];exact wpAny_pure hQ))
def Itl (K:PySem.W.Frag) (a:Addr):It:=
  ⟨fun i H=>∃xs x,SqL K H a xs∧xs[i]? =some x,fun i H x H' =>H' =H∧∀xs,SqL K H a xs→xs[i]? =some x,fun i H=>∃xs,SqL K H a xs∧xs.length≤i⟩
def Itr(lo:Int)(n:Nat):It:=⟨fun i _=>i<n,fun i H x H' =>H' =H∧x= .int (lo+i),fun i _=>n≤i⟩
theorem turn_list {P:Program} {w:World} {K:PySem.W.Frag} {tg:Expr} (a it:Addr):Turn P w K tg (Itl K a) [it] it (fun i h=>h.IsListIter it a i) where
  mem:=by simp
  obj:=fun i h st b hb=>by
    have e:b=it:=by simpa using hb
    subst e;obtain⟨o,e,c,d⟩:=st;exact⟨o,e,fun v z=>by rw[d] at z;cases z⟩
  keep:=fun i h h' st k=>st.at fun o e=>k it (by simp) o e
  item:=by
    intro X hP hw hK hc i pins s σ H E I hf st hg;subst hP hw hK;obtain⟨xs,x,hq,hx⟩:=hg;obtain⟨its,rv,p,hz⟩:=I.list hq;obtain⟨u,hu,ru⟩:=rv.get hx;obtain⟨f0,f1,f2,f3,f4,f5⟩:=hf it (by simp);refine wpAny_pyNext_list_item st p.isList (x:=u) (by simpa using hu) fun h' st' sb=> ?_;have I1:Inv X pins σ H {s with heap:=h'}:=I.turned (t' :=s.toks) (fun b o hb e=>(sb.2 b hb).trans e) f0 f1 f3 f4 f5;obtain⟨o,e,c,d⟩:=id st';exact⟨u,rfl,go_of (s:={s with heap:=h'}) e c d (by decide) ⟨x,H,I1,ru,⟨rfl,fun ys hy=>by rw[I.list_inj hy hq];exact hx⟩,st',fun b hb=>(hf b hb).1⟩⟩
  done:=by
    intro X hP hw hK hc i pins s σ H E I hf st hg;subst hP hw hK;obtain⟨xs,hq,hx⟩:=hg;obtain⟨its,rv,p,hz⟩:=I.list hq;obtain⟨f0,f1,f2,f3,f4,f5⟩:=hf it (by simp);have hl:=rv.length;exact wpAny_pyNext_list_end (I.ok.hd hc) st p.isList (by simp;omega) fun h' eb=>⟨rfl,I.turned (t' :=s.toks) (fun b o hb e=>eb b o hb e) f0 f1 f3 f4 f5⟩
  self:=fun _ _ _ _ _ st h=>wpAny_pyIter_listiter st h
theorem turn_range {P:Program} {w:World} {K:PySem.W.Frag} {tg:Expr} (it:Addr) (lo:Int) (n:Nat):Turn P w K tg (Itr lo n) [it] it (fun i h=>IsRangeIter h it (lo+(i:Nat)*1) ((n:Int) - (i:Nat)) 1) where
  mem:=by simp
  obj :=fun i h st b hb=>by
    have e:b=it:=by simpa using hb
    subst e
    exact⟨_,st,fun v z=>by
      have z' :Data.fields _=Data.cell v:=z;cases z'⟩
  keep:=fun i h h' st k=>k it (by simp) _ st
  item:=by
    intro X hP hw hK hc i pins s σ H E I hf st hg;subst hP hw hK;obtain⟨f0,f1,f2,f3,f4,f5⟩:=hf it (by simp);have W:=Walks.range (prog:=X.prog) (w:=X.w) (I.ok.hd hc) it lo 1 n;refine W.item i s _ _ hg st fun v h' tk hv st' kk=> ?_;obtain⟨t,rfl⟩:=hv;have I1:Inv X pins σ H {s with heap:=h',toks:=tk}:=I.turned (fun b o hb e=>kk b o (by simpa using hb) e) f0 f1 f3 f4 f5;refine⟨_,rfl,go_of (s:={s with heap:=h',toks:=tk}) (n:="range_iterator") st' rfl rfl (by decide) ⟨.int (lo+i),H,I1,⟨t,?_⟩,⟨rfl,rfl⟩,st',fun b hb=>(hf b hb).1⟩⟩;rw[Int.mul_one]
  done:=by
    intro X hP hw hK hc i pins s σ H E I hf st hg;subst hP hw hK;obtain⟨f0,f1,f2,f3,f4,f5⟩:=hf it (by simp);exact wpAny_pyNext_range_end (I.ok.hd hc) st (by have:n≤i:=hg;omega) fun h' eb=>⟨rfl,I.turned (t' :=s.toks) (fun b o hb e=>eb b o hb e) f0 f1 f3 f4 f5⟩
  self:=fun _ _ _ _ _ st h=>wpAny_pyIter_rangeiter st h
end L2
namespace L2
open PySem PySem.Spec PyProof.Rows
section
variable{X:Cx}{tg:Expr}
def iList(K:PySem.W.Frag)(tl:TE):TI:=fun σ H R=>tl σ H fun x H1=>∃a,x= .ref a∧(∃xs,SqL K H1 a xs)∧R (Itl K a) H1
theorem pi_list {l:Expr} {tl:TE} (hl:PE X l tl):PI X tg l (iList X.K tl):=by
  intro pins s σ H R I h;refine thn (hl pins s σ H _ I h) fun v s1 ⟨x,H1,I1,r1,q1⟩=> ?_;obtain⟨a,e,⟨xs,hq⟩,q⟩:=q1;subst e;cases r1;obtain⟨its,rv,p,hz⟩:=I1.list hq;refine wpAny_pyIter_list p.isList ?_;refine⟨s1.heap.objs.size,[s1.heap.objs.size],_,_,H1,rfl,I1.kept (t' :=s1.toks) fun b o e=>Heap.get?_push_of_some _ e,turn_list a _,⟨_,Heap.get?_push_size _ rfl,rfl,rfl⟩,fun b hb=> ?_,q⟩;have e:b=s1.heap.objs.size:=by simpa using hb
  subst e;exact I1.fpOk (Nat.le_refl _) (I1.hok.fresh (Nat.le_refl _))
theorem range_it {pins:List (Addr×Obj)} {σ:St} {H:Hp} {s:Shared} {R:It→Hp→Prop} {E:Value→Shared→Prop} {lo hi:Int} {t u v:Tok} {tk:Nat} (I:Inv X pins σ H s) (h1: -(2 ^ 62)≤lo) (h2:lo<2 ^ 62) (h3: -(2 ^ 62)≤hi) (h4:hi<2 ^ 62)
    (q:R (Itr lo (hi - lo).toNat) H):wpAny (model X.prog X.w) X.A (pyIter (.ref s.heap.objs.size)) (PIE X pins σ tg R) E {s with heap:=s.heap.push {cls:= .type "range",data:= .fields #[.int lo t,.int hi u,.int 1 v]},toks:=tk}:=by
  refine wpAny_pyIter_range (IsRange.new ..) (small_one h1 h2 h3 h4) ?_;have I1:Inv X pins σ H {s with heap:=s.heap.push {cls:= .type "range",data:= .fields #[.int lo t,.int hi u,.int 1 v]},toks:=tk}:=I.kept fun b o e=>Heap.get?_push_of_some _ e
  refine⟨(s.heap.push {cls:= .type "range",data:= .fields #[.int lo t,.int hi u,.int 1 v]}).objs.size,[(s.heap.push {cls:= .type "range",data:= .fields #[.int lo t,.int hi u,.int 1 v]}).objs.size],_,_,H,rfl,
    I1.kept (t' :=tk) fun b o e=>Heap.get?_push_of_some _ e,turn_range _ lo (hi - lo).toNat,?_,fun b hb=> ?_,q⟩
  · have e1:lo+((0:Nat):Int)*1=lo:=by simp
    have e2:(((hi - lo).toNat:Nat):Int) - ((0:Nat):Int)=Builtin.Range.rangeSize lo hi 1:=by rw[rangeSize_one];split<;>omega
    show IsRangeIter _ _ (lo+((0:Nat):Int)*1) ((((hi - lo).toNat:Nat):Int) - ((0:Nat):Int)) 1;rw[e1,e2];exact Heap.get?_push_size _ rfl
  · have e:b=(s.heap.push {cls:= .type "range",data:= .fields #[.int lo t,.int hi u,.int 1 v]}).objs.size:=by simpa using hb
    subst e;exact I1.fpOk (Nat.le_refl _) (I1.hok.fresh (Nat.le_refl _))
def iRng1(ta:TA):TI:=fun σ H R=>ta σ H fun vs H1=>∃j:Int,vs=[.int j]∧ -(2 ^ 62)≤j∧j<2 ^ 62∧R (Itr 0 j.toNat) H1
def iRng2(ta:TA):TI:=fun σ H R=>ta σ H fun vs H1=>∃i j:Int,vs=[.int i,.int j]∧(-(2 ^ 62)≤i∧i<2 ^ 62∧ -(2 ^ 62)≤j∧j<2 ^ 62)∧R (Itr i (j - i).toNat) H1
theorem pi_range1 {a:Expr} {ta:TA} {p pos:Pos} (hg:Gl X "range") (hm:X.mg "range"=none) (ha:PA X [a] ta) (hs:starEach [a] X.env=[(false,eval a X.env)]:=by rfl):PI X tg (.Call (.Name "range" p) [a] [] pos) (iRng1 ta):=by
  intro pins s σ H R I h;refine Call_ (ld_blt I hg hm boot_range (PyProof.Rows.callWith_type1 (thn (ha pos pins s σ H _ I h) fun us s1 ⟨vs,H1,I1,r1,q1⟩=> ?_) hs rfl));obtain⟨j,e,q1,q2,q⟩:=q1;subst e
  cases r1 with
  | cons r rr=>
    cases rr;obtain⟨t,rfl⟩:=r;exact call_range_1 (range_it I1 (by omega) (by omega) q1 q2 (by simpa using q))
theorem pi_range2 {a b:Expr} {ta:TA} {p pos:Pos} (hg:Gl X "range") (hm:X.mg "range"=none) (ha:PA X [a,b] ta) (hs:starEach [a,b] X.env=[(false,eval a X.env),(false,eval b X.env)]:=by rfl) (hs2:starEach [b] X.env=[(false,eval b X.env)]:=by rfl):
    PI X tg (.Call (.Name "range" p) [a,b] [] pos) (iRng2 ta):=by
  intro pins s σ H R I h;refine Call_ (ld_blt I hg hm boot_range (PyProof.Rows.callWith_type1 (thn (ha pos pins s σ H _ I h) fun us s1 ⟨vs,H1,I1,r1,q1⟩=> ?_) (by rw[hs,hs2]) (by rw[hs2];rfl)));obtain⟨i,j,e,⟨q1,q2,q3,q4⟩,q⟩:=q1;subst e
  cases r1 with
  | cons r rr=>
    cases rr with
    | cons r' rr=>
      cases rr;obtain⟨t,rfl⟩:=r;obtain⟨t',rfl⟩:=r';exact call_range_2 (range_it I1 q1 q2 q3 q4 q)
def tFor (wi:TI) (g:TG) (tb:TS):TS:=fun D σ H=>wi σ H fun J H1=>∃W:Nat→Nat→St→Hp→Prop,(∃m,W 0 m σ H1)∧∀i m σ H,W i m σ H→
  (J.stop i H∧D.nx σ H)∨(J.go i H∧∃N:St→Hp→Prop,(∀σ' H',N σ' H'→∃m',m' <m∧W (i+1) m' σ' H')∧∀x H',J.yld i H x H'→g x σ H' fun σ2 H2=>tb {D with nx:=N,ct:=N,bk:=D.nx} σ2 H2)
def pinsAt(fp:List Addr)(h:Heap):List (Addr×Obj):=fp.filterMap fun b=>(h.get? b).map fun o=>(b,o)
theorem mem_pinsAt{fp:List Addr}{h:Heap}{b:Addr}{o:Obj}(hb:b∈fp)(e:h.get? b=some o):(b,o)∈pinsAt fp h:=List.mem_filterMap.mpr ⟨b,hb,by rw[e];rfl⟩
theorem of_pinsAt {fp:List Addr} {h:Heap} {p:Addr×Obj} (hp:p∈pinsAt fp h):p.1∈fp∧h.get? p.1=some p.2:=by
  obtain⟨b,hb,e⟩:=List.mem_filterMap.mp hp
  cases q:h.get? b with
  |none=>rw[q] at e;cases e
  | some o=>
    rw[q] at e;have e' :(b,o)=p:=Option.some.inj e;subst e';exact⟨hb,q⟩
theorem Inv.pinned {pins:List (Addr×Obj)} {σ:St} {H:Hp} {s:Shared} {fp:List Addr} (I:Inv X pins σ H s) (hf:∀b∈fp,FpOk X pins H b) (ho:∀b∈fp,∃o,s.heap.get? b=some o∧∀v,o.data≠.cell v):Inv X (pins++pinsAt fp s.heap) σ H s:=
  I.pins_of fun p hp=>(List.mem_append.mp hp).elim (fun z=>I.pin p (List.mem_append_right _ z)) fun z=>by
    obtain⟨hb,e⟩:=of_pinsAt z;obtain⟨f0,f1,f2,_⟩:=hf p.1 hb;obtain⟨o,e',d⟩:=ho p.1 hb;rw[e] at e';cases e'
    exact⟨e,f0,f1,f2,d⟩
theorem Inv.unpinned{pins pl:List (Addr×Obj)}{σ:St}{H:Hp}{s:Shared}(I:Inv X (pins++pl) σ H s):Inv X pins σ H s:=I.pins_of fun p hp=>I.pin p (List.mem_append_right _ (List.mem_append_left _ hp))
theorem ps_for {iter:Expr} {body:List Stmt} {wi:TI} {g:TG} {tb:TS} {pos:Pos} (hp:PassesOwn (model X.prog X.w) X.A X.env X.xe) (hc:X.calm=true) (hi:PI X tg iter wi) (hg:PG X tg g) (hb:PSs X body tb)
    (hs:∀x,foldedSetIterable iter X.env x=pure x:=by intro _;rfl):PS X (.For tg iter body [] pos) (tFor wi g tb):=by
  intro pins s σ H D I h;refine wpAny_For (thn (hi pins s σ H _ I h) fun v s1 h1=>thn h1 fun itv s2 h2=> ?_) hs;obtain⟨it,fp,tn,J,H2,e,I2,T,st2,f2,W,⟨m0,w0⟩,turn⟩:=h2;subst e;have stat:∀{H' :Hp},(∀b∈fp,H' b=none)→∀b∈fp,FpOk X pins H' b:=fun hn b hb=>⟨hn b hb,(f2 b hb).2⟩;refine codeAny_forLoop_any (fun n s' =>∃i σ' H',Inv X pins σ' H' s'∧tn i s'.heap∧(∀b∈fp,H' b=none)∧W i n σ' H') ?_ m0 ⟨0,σ,H2,I2,st2,fun b hb=>(f2 b hb).1,w0⟩
  rintro n s3 ⟨i,σ3,H3,I3,st3,fr3,w3⟩
  rcases turn i n σ3 H3 w3 with⟨stop,qn⟩|⟨go,N,hN,step⟩
  · refine wpAny_passesOwn hp (thn (T.done X rfl rfl rfl hc i pins s3 σ3 H3 X.xe I3 (stat fr3) st3 stop) fun r s4 ⟨hr,I4⟩=> ?_)
    subst hr;exact wpAny_execs_nil ⟨σ3,H3,I4,qn⟩
  · refine wpAny_passesOwn hp (thn (T.item X rfl rfl rfl hc i pins s3 σ3 H3 X.xe I3 (stat fr3) st3 go) fun r s4 ⟨u,hr,h4⟩=> ?_)
    subst hr;refine wpAny_passesOwn hp (thn h4 fun _ s5 ⟨x,H5,I5,r5,y5,st5,fr5⟩=> ?_);have I5' :=I5.pinned (stat fr5) (T.obj _ _ st5);refine wpAny_passesOwn hp (thn (hg _ s5 σ3 H5 x u _ I5' r5 (step x H5 y5)) fun _ s6 ⟨σ6,H6,I6,q6⟩=> ?_);refine wpAny_passesOwn hp (thn (hb _ s6 σ6 H6 _ I6 q6) fun f s7 q7=> ?_)
    have again:∀{σ7:St} {H7:Hp},Inv X (pins++pinsAt fp s5.heap) σ7 H7 s7→N σ7 H7→∃m,m<n∧∃i σ' H',Inv X pins σ' H' s7∧tn i s7.heap∧(∀b∈fp,H' b=none)∧W i m σ' H' :=fun{σ7 H7} I7 n7=>by
      obtain⟨m',hm,w7⟩:=hN σ7 H7 n7;refine⟨m',hm,i+1,σ7,H7,I7.unpinned,T.keep _ _ _ st5 fun b hb o e=>(I7.pin (b,o) (List.mem_append_right _ (List.mem_append_right _ (mem_pinsAt hb e)))).1,fun b hb=> ?_,w7⟩;obtain⟨o,e,d⟩:=T.obj _ _ st5 b hb;exact(I7.pin (b,o) (List.mem_append_right _ (List.mem_append_right _ (mem_pinsAt hb e)))).2.1
    cases f with
    |next=>obtain⟨σ7,H7,I7,n7⟩:=q7;exact again I7 n7
    |cont=>obtain⟨σ7,H7,I7,n7⟩:=q7;exact again I7 n7
    |brk=>obtain⟨σ7,H7,I7,q7⟩:=q7;exact⟨σ7,H7,I7.unpinned,q7⟩
    |ret v=>obtain⟨x7,σ7,H7,I7,r7,q7⟩:=q7;exact⟨x7,σ7,H7,I7.unpinned,r7,q7⟩
end
theorem for_list {K:PySem.W.Frag} {a:Addr} {xs:List V} {g:TG} {tb:TS} {D:Ends} {σ:St} {H:Hp} (Pv:Nat→St→Hp→Prop) (h0:Pv 0 σ H) (hl:∀i σ H,i≤xs.length→Pv i σ H→SqL K H a xs)
    (hs:∀i x σ H,xs[i]? =some x→Pv i σ H→g x σ H fun σ2 H2=>tb {D with nx:=Pv (i+1),ct:=Pv (i+1),bk:=D.nx} σ2 H2) (hd:∀σ H,Pv xs.length σ H→D.nx σ H):
    ∃ W:Nat→Nat→St→Hp→Prop,(∃m,W 0 m σ H)∧∀i m σ H,W i m σ H→
      ((Itl K a).stop i H∧D.nx σ H)∨((Itl K a).go i H∧∃N:St→Hp→Prop,(∀σ' H',N σ' H'→∃m',m' <m∧W (i+1) m' σ' H')∧∀x H',(Itl K a).yld i H x H'→g x σ H' fun σ2 H2=>tb {D with nx:=N,ct:=N,bk:=D.nx} σ2 H2):=by
  refine⟨fun i m σ H=>m=xs.length - i∧i≤xs.length∧Pv i σ H,⟨xs.length,by simp,Nat.zero_le _,h0⟩,?_⟩
  rintro i m σ H ⟨rfl,hi,p⟩
  have q:=hl i σ H hi p;by_cases hlt:i<xs.length
  · refine .inr ⟨⟨xs,xs[i],q,by simp[hlt]⟩,Pv (i+1),fun σ' H' p' =>⟨xs.length - (i+1),by omega,rfl,hlt,p'⟩,fun x H' y=> ?_⟩
    obtain⟨e,y⟩:=y;subst e;exact hs i x σ _ (y xs q) p
  · have e:i=xs.length:=by omega
    subst e;exact .inl ⟨⟨xs,q,Nat.le_refl _⟩,hd σ H p⟩
theorem for_range {lo:Int} {n:Nat} {g:TG} {tb:TS} {D:Ends} {σ:St} {H:Hp} (Pv:Nat→St→Hp→Prop) (h0:Pv 0 σ H)
    (hs:∀i σ H,i<n→Pv i σ H→g (.int (lo+i)) σ H fun σ2 H2=>tb {D with nx:=Pv (i+1),ct:=Pv (i+1),bk:=D.nx} σ2 H2) (hd:∀σ H,Pv n σ H→D.nx σ H):
    ∃ W:Nat→Nat→St→Hp→Prop,(∃m,W 0 m σ H)∧∀i m σ H,W i m σ H→
      ((Itr lo n).stop i H∧D.nx σ H)∨((Itr lo n).go i H∧∃N:St→Hp→Prop,(∀σ' H',N σ' H'→∃m',m' <m∧W (i+1) m' σ' H')∧∀x H',(Itr lo n).yld i H x H'→g x σ H' fun σ2 H2=>tb {D with nx:=N,ct:=N,bk:=D.nx} σ2 H2):=by
  refine⟨fun i m σ H=>m=n - i∧i≤n∧Pv i σ H,⟨n,by simp,Nat.zero_le _,h0⟩,?_⟩
  rintro i m σ H ⟨rfl,hi,p⟩
  by_cases hlt:i<n
  · refine .inr ⟨hlt,Pv (i+1),fun σ' H' p' =>⟨n - (i+1),by omega,rfl,hlt,p'⟩,fun x H' y=> ?_⟩
    obtain⟨e,y⟩:=y;subst e y;exact hs i σ _ hlt p
  · have e:i=n:=by omega
    subst e;exact .inl ⟨Nat.le_refl _,hd σ H p⟩
end L2
namespace L2
open PySem PySem.Spec PyProof.Rows
abbrev R2:=V→V→Hp→VK→Prop
def OpR (X:Cx) (f:Value→Value→Sem Value) (r:R2):Prop:=
  ∀ (pins:List (Addr×Obj)) (s:Shared) (σ:St) (H:Hp) (x y:V) (v u:Value) (Q:VK),Inv X pins σ H s→RelV x v→RelV y u→r x y H Q→
    wpAny (model X.prog X.w) X.A (f v u) (EP X pins σ Q) X.xe s
def UnR (X:Cx) (f:Value→Sem Value) (r:V→Hp→VK→Prop):Prop:=
  ∀ (pins:List (Addr×Obj)) (s:Shared) (σ:St) (H:Hp) (x:V) (v:Value) (Q:VK),Inv X pins σ H s→RelV x v→r x H Q→
    wpAny (model X.prog X.w) X.A (f v) (EP X pins σ Q) X.xe s
def CallR (X:Cx) (f:Value) (r:List V→Hp→VK→Prop):Prop:=
  ∀ (pins:List (Addr×Obj)) (s:Shared) (σ:St) (H:Hp) (xs:List V) (us:List Value) (Q:VK),Inv X pins σ H s→Vals xs us→r xs H Q→
    wpAny (model X.prog X.w) X.A (call f us) (EP X pins σ Q) X.xe s
def TruR (X:Cx) (r:V→Hp→(Bool→Hp→Prop)→Prop):Prop:=
  ∀ (pins:List (Addr×Obj)) (s:Shared) (σ:St) (H:Hp) (x:V) (v:Value) (Q:Bool→Hp→Prop),Inv X pins σ H s→RelV x v→r x H Q→
    wpAny (model X.prog X.w) X.A (truthy v) (TP X pins σ Q) X.xe s
def tOp(r:R2)(ta tb:TE):TE:=fun σ H Q=>ta σ H fun x H1=>tb σ H1 fun y H2=>r x y H2 Q
def tUn(r:V→Hp→VK→Prop)(ta:TE):TE:=fun σ H Q=>ta σ H fun x H1=>r x H1 Q
def rI(C:Int→Int→Prop)(g:Int→Int→V):R2:=fun x y H Q=>∃i j,x= .int i∧y= .int j∧C i j∧Q (g i j) H
def rI0(g:Int→Int→V):R2:=fun x y H Q=>∃i j,x= .int i∧y= .int j∧Q (g i j) H
def rU(g:Int→V):V→Hp→VK→Prop:=fun x H Q=>∃i,x= .int i∧Q (g i) H
section
variable{X:Cx}{a b c:Expr}{ta tb tc:TE}{pos:Pos}
theorem binT (ha:PE X a ta) (hb:PE X b tb) {pins:List (Addr×Obj)} {s:Shared} {σ:St} {H:Hp} {R:V→V→Hp→Prop} (I:Inv X pins σ H s)
    (h:ta σ H fun x H1=>tb σ H1 fun y H2=>R x y H2) {Q:Value→Shared→Prop} {f:Value→Value→Sem Value}
    (hf:∀v u s2 x y H2,Inv X pins σ H2 s2→RelV x v→RelV y u→R x y H2→wpAny (model X.prog X.w) X.A (f v u) Q X.xe s2):
    wpAny (model X.prog X.w) X.A (eval a X.env) (fun v s₁=>wpAny (model X.prog X.w) X.A (eval b X.env) (fun u s₂=>wpAny (model X.prog X.w) X.A (f v u) Q X.xe s₂) X.xe s₁) X.xe s:=by
  refine thn (ha pins s σ H _ I h) fun v s1 ⟨x,H1,I1,r1,q1⟩=> ?_;refine thn (hb pins s1 σ H1 _ I1 q1) fun u s2 ⟨y,H2,I2,r2,q2⟩=> ?_;exact hf v u s2 x y H2 I2 r1 r2 q2
theorem pe_op {op:Operator} {r:R2} (ho:OpR X (binaryOp op) r) (ha:PE X a ta) (hb:PE X b tb):PE X (.BinOp a op b pos) (tOp r ta tb):=by
  intro pins s σ H Q I h;exact wpAny_BinOp (binT ha hb I h fun v u s2 x y H2 I2 rx ry q=>ho pins s2 σ H2 x y v u Q I2 rx ry q)
theorem pe_un {op:UnaryOp} {r:V→Hp→VK→Prop} (ho:UnR X (unaryOp op) r) (ha:PE X a ta):PE X (.UnaryOp op a pos) (tUn r ta):=by
  intro pins s σ H Q I h;exact UnaryOp_ (thn (ha pins s σ H _ I h) fun v s1 ⟨x,H1,I1,r1,q1⟩=>ho pins s1 σ H1 x v Q I1 r1 q1)
theorem opI {f:Value→Value→Sem Value} {C:Int→Int→Prop} {g:Int→Int→Int}
    (rule:∀(i j:Int) (t u:Tok) (s:Shared) (Q:Value→Shared→Prop) (E:Value→Shared→Prop),C i j→Q (.int (g i j) s.toks) {s with toks:=s.toks+1}→wpAny (model X.prog X.w) X.A (f (.int i t) (.int j u)) Q E s):
    OpR X f (rI C fun i j=> .int (g i j)):=by
  intro pins s σ H x y v u Q I rx ry h;obtain⟨i,j,rfl,rfl,hc,q⟩:=h;obtain⟨t,rfl⟩:=rx;obtain⟨t',rfl⟩:=ry;exact rule i j t t' s _ _ hc ⟨.int (g i j),H,I.tok _,⟨_,rfl⟩,q⟩
theorem opI0 {f:Value→Value→Sem Value} {g:Int→Int→Int}
    (rule:∀(i j:Int) (t u:Tok) (s:Shared) (Q:Value→Shared→Prop) (E:Value→Shared→Prop),Q (.int (g i j) s.toks) {s with toks:=s.toks+1}→wpAny (model X.prog X.w) X.A (f (.int i t) (.int j u)) Q E s):
    OpR X f (rI0 fun i j=> .int (g i j)):=by
  intro pins s σ H x y v u Q I rx ry h;obtain⟨i,j,rfl,rfl,q⟩:=h;obtain⟨t,rfl⟩:=rx;obtain⟨t',rfl⟩:=ry;exact rule i j t t' s _ _ ⟨.int (g i j),H,I.tok _,⟨_,rfl⟩,q⟩
theorem opB0 {f:Value→Value→Sem Value} {g:Int→Int→Bool}
    (rule:∀(i j:Int) (t u:Tok) (s:Shared) (Q:Value→Shared→Prop) (E:Value→Shared→Prop),Q (.bool (g i j)) s→wpAny (model X.prog X.w) X.A (f (.int i t) (.int j u)) Q E s):
    OpR X f (rI0 fun i j=> .bl (g i j)):=by
  intro pins s σ H x y v u Q I rx ry h;obtain⟨i,j,rfl,rfl,q⟩:=h;obtain⟨t,rfl⟩:=rx;obtain⟨t',rfl⟩:=ry;exact rule i j t t' s _ _ ⟨.bl (g i j),H,I,rfl,q⟩
def CDiv(i j:Int):Prop:=0<j∧j<1073741824
def CPow(i j:Int):Prop:=0≤j∧j≤1000000∧i.natAbs<2 ^ 64
def CMul(i j:Int):Prop:=(-(2 ^ 64)<i∧i<2 ^ 64)∨(-(2 ^ 64)<j∧j<2 ^ 64)
theorem CMul.ok {i j:Int} (h:CMul i j):IntMulOk i j:=by
  rcases h with⟨h1,h2⟩|⟨h1,h2⟩
  · exact .of_left (intBits_le_64 h1 h2)
  · exact .of_right (intBits_le_64 h1 h2)
theorem op_add:OpR X (binaryOp .Add) (rI0 fun i j=> .int (i+j)):=opI0 fun _ _ _ _ _ _ _ q=>add_int q
theorem op_sub:OpR X (binaryOp .Sub) (rI0 fun i j=> .int (i - j)):=opI0 fun _ _ _ _ _ _ _ q=>sub_int q
theorem op_mul:OpR X (binaryOp .Mult) (rI CMul fun i j=> .int (i*j)):=opI fun _ _ _ _ _ _ _ hc q=>mul_int q hc.ok
theorem op_fdiv:OpR X (binaryOp .FloorDiv) (rI CDiv fun i j=> .int (i / j)):=opI fun i j _ _ _ _ _ hc q=>by
  have h1:(0:Int)<j:=hc.1;have h2:j<1073741824:=hc.2;exact floordiv_int (by omega) (by rw[Int.fdiv_eq_ediv_of_nonneg i (by omega)];exact q) (.inl (PyProof.noPylong_small (by omega)))
theorem op_mod:OpR X (binaryOp .Mod) (rI (fun _ j=>0<j) fun i j=> .int (i % j)):=opI fun i j _ _ _ _ _ hc q=>by
  have h1:(0:Int)<j:=hc;exact mod_int' (by omega) (by rw[Int.fmod_eq_emod_of_nonneg i (by omega)];exact q)
theorem op_pow:OpR X (binaryOp .Pow) (rI CPow fun i j=> .int (i ^ j.toNat)):=opI fun _ _ _ _ _ _ _ hc q=>pow_int_small hc.1 hc.2.1 hc.2.2 q
theorem unI {f:Value→Sem Value} {g:Int→Int}
    (rule:∀(i:Int) (t:Tok) (s:Shared) (Q:Value→Shared→Prop) (E:Value→Shared→Prop),Q (.int (g i) s.toks) {s with toks:=s.toks+1}→wpAny (model X.prog X.w) X.A (f (.int i t)) Q E s):
    UnR X f (rU fun i=> .int (g i)):=by
  intro pins s σ H x v Q I rx h;obtain⟨i,rfl,q⟩:=h;obtain⟨t,rfl⟩:=rx;exact rule i t s _ _ ⟨.int (g i),H,I.tok _,⟨_,rfl⟩,q⟩
theorem un_neg:UnR X (unaryOp .USub) (rU fun i=> .int (-i)):=unI fun _ _ _ _ _ q=>neg_int q
end
def scal:V→V→Bool
  | .non,.non=>true| .non,.int _=>true| .int _,.non=>true| .non,.bl _=>true| .bl _,.non=>true| .non,.str _=>true| .str _,.non=>true
  | .int _,.int _=>true| .bl _,.bl _=>true| .str _,.str _=>true| .byt _,.byt _=>true
  | .int _,.str _=>true| .str _,.int _=>true| .bl _,.str _=>true| .str _,.bl _=>true
  |_,_=>false
def rEq:R2:=fun x y H Q=>scal x y=true∧Q (.bl (decide (x=y))) H
def rNe:R2:=fun x y H Q=>scal x y=true∧Q (.bl (!decide (x=y))) H
theorem dec_int {i j:Int}:decide (V.int i=V.int j)=(i==j):=by
  rw[Bool.eq_iff_iff];simp
theorem dec_bl {i j:Bool}:decide (V.bl i=V.bl j)=(i==j):=by
  rw[Bool.eq_iff_iff];simp
theorem dec_str {i j:Str}:decide (V.str i=V.str j)=(i==j):=by
  rw[Bool.eq_iff_iff];simp
theorem dec_byt {i j:Array UInt8}:decide (V.byt i=V.byt j)=(i.toList==j.toList):=by
  rw[Bool.eq_iff_iff];cases i;cases j;simp
section
variable{X:Cx}{a b c:Expr}{ta tb tc:TE}{pos:Pos}
theorem fin_bl {pins:List (Addr×Obj)} {σ:St} {H:Hp} {s:Shared} {Q:VK} {k k' :Bool} (I:Inv X pins σ H s) (q:Q (.bl k) H) (e:k=k'):EP X pins σ Q (.bool k') s:=by
  subst e;exact⟨.bl k,H,I,rfl,q⟩
theorem op_eq:OpR X (compareOp .Eq) rEq:=by
  intro pins s σ H x y v u Q I rx ry h;obtain⟨hs,q⟩:=h
  cases x with
  | non=>
    cases rx
    cases y with
    |non=>cases ry;exact PySem.EqNone.eq_none_none (fin_bl I q (by simp))
    |bl j=>cases ry;exact PySem.EqNone.eq_none_bool (fin_bl I q (by simp))
    |int j=>obtain⟨t',rfl⟩:=ry;exact PySem.EqNone.eq_none_int (fin_bl I q (by simp))
    |str j=>obtain⟨t',rfl⟩:=ry;exact PySem.EqNone.eq_none_str (fin_bl I q (by simp))
    |_=>exact absurd (show false=true from hs) Bool.false_ne_true
  | bl i=>
    cases rx
    cases y with
    |non=>cases ry;exact PySem.EqNone.eq_bool_none (fin_bl I q (by simp))
    |bl j=>cases ry;exact eq_bool (fin_bl I q dec_bl)
    |str j=>obtain⟨t',rfl⟩:=ry;exact PySem.EqMixed.eq_bool_str (fin_bl I q (by simp))
    |_=>exact absurd (show false=true from hs) Bool.false_ne_true
  | int i=>
    obtain⟨t,rfl⟩:=rx
    cases y with
    |non=>cases ry;exact PySem.EqNone.eq_int_none (fin_bl I q (by simp))
    |int j=>obtain⟨t',rfl⟩:=ry;exact eq_int (fin_bl I q dec_int)
    |str j=>obtain⟨t',rfl⟩:=ry;exact PySem.EqMixed.eq_int_str (fin_bl I q (by simp))
    |_=>exact absurd (show false=true from hs) Bool.false_ne_true
  | str i=>
    obtain⟨t,rfl⟩:=rx
    cases y with
    |non=>cases ry;exact PySem.EqNone.eq_str_none (fin_bl I q (by simp))
    |bl j=>cases ry;exact PySem.EqMixed.eq_str_bool (fin_bl I q (by simp))
    |int j=>obtain⟨t',rfl⟩:=ry;exact PySem.EqMixed.eq_str_int (fin_bl I q (by simp))
    |str j=>obtain⟨t',rfl⟩:=ry;exact eq_str (fin_bl I q dec_str)
    |_=>exact absurd (show false=true from hs) Bool.false_ne_true
  | byt i=>
    obtain⟨t,rfl⟩:=rx
    cases y with
    |byt j=>obtain⟨t',rfl⟩:=ry;exact PySem.W.eq_bytes (fin_bl I q dec_byt)
    |_=>exact absurd (show false=true from hs) Bool.false_ne_true
  |_=>cases y<;>exact absurd (show false=true from hs) Bool.false_ne_true
theorem op_ne:OpR X (compareOp .NotEq) rNe:=by
  intro pins s σ H x y v u Q I rx ry h;obtain⟨hs,q⟩:=h
  cases x with
  | non=>
    cases rx
    cases y with
    |non=>cases ry;exact PySem.EqNone.ne_none_none (fin_bl I q (by simp))
    |bl j=>cases ry;exact PySem.EqNone.ne_none_bool (fin_bl I q (by simp))
    |int j=>obtain⟨t',rfl⟩:=ry;exact PySem.EqNone.ne_none_int (fin_bl I q (by simp))
    |str j=>obtain⟨t',rfl⟩:=ry;exact PySem.EqNone.ne_none_str (fin_bl I q (by simp))
    |_=>exact absurd (show false=true from hs) Bool.false_ne_true
  | bl i=>
    cases rx
    cases y with
    |non=>cases ry;exact PySem.EqNone.ne_bool_none (fin_bl I q (by simp))
    |bl j=>cases ry;exact ne_bool (fin_bl I q (congrArg not dec_bl))
    |str j=>obtain⟨t',rfl⟩:=ry;exact PySem.EqMixed.ne_bool_str (fin_bl I q (by simp))
    |_=>exact absurd (show false=true from hs) Bool.false_ne_true
  | int i=>
    obtain⟨t,rfl⟩:=rx
    cases y with
    |non=>cases ry;exact PySem.EqNone.ne_int_none (fin_bl I q (by simp))
    |int j=>obtain⟨t',rfl⟩:=ry;exact ne_int (fin_bl I q (congrArg not dec_int))
    |str j=>obtain⟨t',rfl⟩:=ry;exact PySem.EqMixed.ne_int_str (fin_bl I q (by simp))
    |_=>exact absurd (show false=true from hs) Bool.false_ne_true
  | str i=>
    obtain⟨t,rfl⟩:=rx
    cases y with
    |non=>cases ry;exact PySem.EqNone.ne_str_none (fin_bl I q (by simp))
    |bl j=>cases ry;exact PySem.EqMixed.ne_str_bool (fin_bl I q (by simp))
    |int j=>obtain⟨t',rfl⟩:=ry;exact PySem.EqMixed.ne_str_int (fin_bl I q (by simp))
    |str j=>obtain⟨t',rfl⟩:=ry;exact ne_str (fin_bl I q (congrArg not dec_str))
    |_=>exact absurd (show false=true from hs) Bool.false_ne_true
  | byt i=>
    obtain⟨t,rfl⟩:=rx
    cases y with
    |byt j=>obtain⟨t',rfl⟩:=ry;exact PySem.W.ne_bytes (fin_bl I q (congrArg not dec_byt))
    |_=>exact absurd (show false=true from hs) Bool.false_ne_true
  |_=>cases y<;>exact absurd (show false=true from hs) Bool.false_ne_true
theorem op_lt:OpR X (compareOp .Lt) (rI0 fun i j=> .bl (decide (i<j))):=opB0 fun _ _ _ _ _ _ _ q=>lt_int q
theorem op_le:OpR X (compareOp .LtE) (rI0 fun i j=> .bl (decide (i≤j))):=opB0 fun _ _ _ _ _ _ _ q=>le_int q
theorem op_gt:OpR X (compareOp .Gt) (rI0 fun i j=> .bl (decide (j<i))):=opB0 fun _ _ _ _ _ _ _ q=>gt_int q
theorem op_ge:OpR X (compareOp .GtE) (rI0 fun i j=> .bl (decide (j≤i))):=opB0 fun _ _ _ _ _ _ _ q=>ge_int q
theorem op_isN:OpR X (compareOp .Is) (fun x y H Q=>y= .non∧Q (.bl (decide (x= .non))) H):=by
  intro pins s σ H x y v u Q I rx ry h;obtain⟨rfl,q⟩:=h;cases ry;refine is_none_gen (fin_bl I q ?_)
  cases x<;>first
    |(cases rx;rfl)
    |(obtain⟨t,rfl⟩:=rx;rfl)
theorem op_notN:OpR X (compareOp .IsNot) (fun x y H Q=>y= .non∧Q (.bl (!decide (x= .non))) H):=by
  intro pins s σ H x y v u Q I rx ry h;obtain⟨rfl,q⟩:=h;cases ry;refine isnot_none_gen (fin_bl I q ?_)
  cases x<;>first
    |(cases rx;rfl)
    |(obtain⟨t,rfl⟩:=rx;rfl)
theorem OpR.or {f:Value→Value→Sem Value} {r r' :R2} (h:OpR X f r) (h' :OpR X f r'):OpR X f (fun x y H Q=>r x y H Q∨r' x y H Q):=by
  intro pins s σ H x y v u Q I rx ry q;rcases q with q|q
  · exact h pins s σ H x y v u Q I rx ry q
  · exact h' pins s σ H x y v u Q I rx ry q
theorem nomark (b:Expr) {op:CmpOp} (h:op≠.In:=by decide) (h2:op≠.NotIn:=by decide):behindInMarks op b=false:=by
  have e1:(op==CmpOp.In)=false:=by cases op<;>first|rfl|exact absurd rfl h
  have e2:(op==CmpOp.NotIn)=false:=by cases op<;>first|rfl|exact absurd rfl h2
  cases b<;>simp[behindInMarks,e1,e2]
theorem pe_cmpR {op:CmpOp} {r:R2} (ho:OpR X (compareOp op) r) (ha:PE X a ta) (hb:PE X b tb) (hm:behindInMarks op b=false):PE X (.Compare a [op] [b] pos) (tOp r ta tb):=by
  intro pins s σ H Q I h;exact wpAny_Compare1 (binT ha hb I h fun v u s2 x y H2 I2 rx ry q=>ho pins s2 σ H2 x y v u Q I2 rx ry q) hm
def tTest(t:TE):TT:=fun σ H Q=>t σ H fun x H' =>∃k,x= .bl k∧Q k H'
theorem pt_cmpR {op:CmpOp} {r:R2} (ho:OpR X (compareOp op) r) (ha:PE X a ta) (hb:PE X b tb) (hm:behindInMarks op b=false):PT X (.Compare a [op] [b] pos) (tTest (tOp r ta tb)):=by
  intro pins s σ H Q I h
  refine wpAny_isTrue_Compare1 (thn (ha pins s σ H _ I h) fun v s1 ⟨x,H1,I1,r1,q1⟩=>thn (hb pins s1 σ H1 _ I1 q1) fun u s2 ⟨y,H2,I2,r2,q2⟩=>
    thn (ho pins s2 σ H2 x y v u _ I2 r1 r2 q2) fun c s3 ⟨z,H3,I3,r3,k,e,q3⟩=> ?_) hm
  subst e;cases r3;exact wpAny_truthy_bool ⟨H3,I3,q3⟩
def tChain (r r' :R2) (ta tb tc:TE):TE:=fun σ H Q=>ta σ H fun x H1=>tb σ H1 fun y H2=>r x y H2 fun z H3=>∃k,z= .bl k∧
  (if k=true then tc σ H3 fun w' H4=>r' y w' H4 Q else Q (.bl false) H3)
theorem pe_chain {op op' :CmpOp} {r r' :R2} (ho:OpR X (compareOp op) r) (ho' :OpR X (compareOp op') r') (ha:PE X a ta) (hb:PE X b tb) (hc:PE X c tc)
    (hm:lastMarks [op,op'] [b,c]=false:=by with_unfolding_all rfl):PE X (.Compare a [op,op'] [b,c] pos) (tChain r r' ta tb tc):=by
  intro pins s σ H Q I h
  refine Compare_chain (thn (ha pins s σ H _ I h) fun v s1 ⟨x,H1,I1,r1,q1⟩=>chain_link (thn (hb pins s1 σ H1 _ I1 q1) fun u s2 ⟨y,H2,I2,r2,q2⟩=>
    thn (ho pins s2 σ H2 x y v u _ I2 r1 r2 q2) fun d s3 ⟨z,H3,I3,r3,k,e,q3⟩=> ?_)) hm
  subst e;cases r3;refine wpAny_truthy_bool ?_
  cases k with
  |false=>exact ite_ff ⟨.bl false,H3,I3,rfl,q3⟩
  |true=>exact ite_tt (chain_last (thn (hc pins s3 σ H3 _ I3 q3) fun w' s4 ⟨z',H4,I4,r4,q4⟩=>ho' pins s4 σ H4 y z' u w' Q I4 r2 r4 q4))
def TruV (K:PySem.W.Frag) (x:V) (H:Hp) (k:Bool):Prop:=
  match x with
  | .non=>k=false
  | .bl b=>k=b
  | .int i=>k=(i !=0)
  | .str y=>y.length≤sizeLine∧k=((y.length:Int) !=0)
  | .byt y=>y.size≤sizeLine∧k=((y.size:Int) !=0)
  | .ref p=>(∃xs,SqL K H p xs∧k= !xs.isEmpty)∨(∃xs,SqT K H p xs∧k= !xs.isEmpty)∨∃kvs,H p=some (.dK kvs)∧k= !kvs.isEmpty
  |_=>False
theorem isEmpty_kv {κ:Type} {kvs:List (κ×V)} {vs:List (κ×Value)} (r:KV kvs vs):(!vs.isEmpty)= !kvs.isEmpty:=by
  cases r<;>rfl
theorem isEmpty_of {xs:List V} {its:List Value} (r:Vals xs its):(!its.toArray.isEmpty)= !xs.isEmpty:=by
  cases r<;>simp
theorem line63:(sizeLine:Nat)<2 ^ 63:=by rw[sizeLine_eq];decide
theorem tru_ok:TruR X (fun x H Q=>∃k,TruV X.K x H k∧Q k H):=by
  intro pins s σ H x v Q I rx h;obtain⟨k,e,q⟩:=h;have hl:=line63;have hs:sizeLine=16777216:=sizeLine_eq
  cases x with
  | non=>
    cases rx;have e' :k=false:=e;subst e';exact truthy_none ⟨H,I,q⟩
  | bl b=>
    cases rx;have e' :k=b:=e;subst e';exact wpAny_truthy_bool ⟨H,I,q⟩
  | int i=>
    obtain⟨t,rfl⟩:=rx;have e' :k=(i !=0):=e;subst e';exact PySem.P.truthy_int ⟨H,I,q⟩
  | str y=>
    obtain⟨t,rfl⟩:=rx;obtain⟨hy,e'⟩:y.length≤sizeLine∧k=((y.length:Int) !=0):=e;subst e';exact PySem.P.truthy_str (by omega) ⟨H,I.tok _,q⟩
  | byt y=>
    obtain⟨t,rfl⟩:=rx;obtain⟨hy,e'⟩:y.size≤sizeLine∧k=((y.size:Int) !=0):=e;subst e';exact PySem.W.truthy_bytes (by omega) ⟨H,I.tok _,q⟩
  | ref p=>
    cases rx;have e' :(∃xs,SqL X.K H p xs∧k= !xs.isEmpty)∨(∃xs,SqT X.K H p xs∧k= !xs.isEmpty)∨∃kvs,H p=some (.dK kvs)∧k= !kvs.isEmpty:=e;rcases e' with⟨xs,hx,e'⟩|⟨xs,hx,e'⟩|⟨kvs,hx,e'⟩
    · subst e'
      obtain⟨its,r,pl,hz⟩:=I.list hx;have hlen:=r.length;exact wpAny_truthy_list pl.isList (by simp only[List.size_toArray];omega) ⟨H,I.tok _,by rw[isEmpty_of r];exact q⟩
    · subst e'
      obtain⟨its,r,pl,hz⟩:=I.tuple hx;have hlen:=r.length;exact truthy_tuple pl (by simp only[List.size_toArray];omega) ⟨H,I.tok _,by rw[isEmpty_of r];exact q⟩
    · subst e'
      obtain⟨hz,hS,vs,r,m⟩:kvs.length≤sizeLine∧(p==sysModules)=false∧∃vs,KV kvs vs∧s.heap.DictOf (mixKind X.prog X.w) p vs:=I.hok p _ hx;have hlen:kvs.length=vs.length:=Paired.length r;exact wpAny_truthy_dict hS m (by omega) ⟨H,I.tok _,by rw[isEmpty_kv r];exact q⟩
  |_=>exact(show False from e).elim
theorem pt_truth (ha:PE X a ta) (he:∀whole,isTrue a X.env whole=(do let v←whole;standAt a.pos;holding [v] (truthy v))):
    PT X a (fun σ H Q=>ta σ H fun x H' =>∃k,TruV X.K x H' k∧Q k H'):=by
  intro pins s σ H Q I h;exact isTrue_plain (thn (ha pins s σ H _ I h) fun v s1 ⟨x,H1,I1,r1,q1⟩=>tru_ok pins s1 σ H1 x v Q I1 r1 q1) (he _)
theorem vals1 {x:V} {us:List Value} (r:Vals [x] us):∃u,us=[u]∧RelV x u:=by
  cases r with
  |cons r1 r2=>cases r2;exact⟨_,rfl,r1⟩
theorem vals2 {x y:V} {us:List Value} (r:Vals [x,y] us):∃u w',us=[u,w']∧RelV x u∧RelV y w' :=by
  cases r with
  | cons r1 r2=>
    cases r2 with
    |cons r3 r4=>cases r4;exact⟨_,_,rfl,r1,r3⟩
theorem call_max2 (hc:X.calm=true):CallR X (.builtin "max") (fun xs H Q=>∃i j,xs=[.int i,.int j]∧Q (.int (if j>i then j else i)) H):=by
  intro pins s σ H xs us Q I r h;obtain⟨i,j,rfl,q⟩:=h;obtain⟨u,w',rfl,⟨t,rfl⟩,⟨t',rfl⟩⟩:=vals2 r;refine max_two_ints (I.ok.hd hc) fun h' tk k=>⟨_,H,I.kept k,?_,q⟩;by_cases hj:j>i
  · rw[if_pos hj,if_pos hj];exact⟨_,rfl⟩
  · rw[if_neg hj,if_neg hj];exact⟨_,rfl⟩
theorem call_min2 (hc:X.calm=true):CallR X (.builtin "min") (fun xs H Q=>∃i j,xs=[.int i,.int j]∧Q (.int (if j<i then j else i)) H):=by
  intro pins s σ H xs us Q I r h;obtain⟨i,j,rfl,q⟩:=h;obtain⟨u,w',rfl,⟨t,rfl⟩,⟨t',rfl⟩⟩:=vals2 r;refine min_two_ints (I.ok.hd hc) fun h' tk k=>⟨_,H,I.kept k,?_,q⟩;by_cases hj:j<i
  · rw[if_pos hj,if_pos hj];exact⟨_,rfl⟩
  · rw[if_neg hj,if_neg hj];exact⟨_,rfl⟩
end
end L2
namespace L2
open PySem PySem.Spec PyProof.Rows
structure ObjM (h:Heap) (x dx C:Addr) (mA:Str→Option Value):Prop where
  obj:h.get? x=some (PySem.W.instObj C dx)
  ns:h.Ns1 dx mA
  ne:dx≠x
theorem lookIn_ns {h:Heap} {dx:Addr} {mA:Str→Option Value} (n:h.Ns1 dx mA):∃od,h.get? dx=some od∧∀name,PySem.W.lookIn name od=some (mA name):=by
  obtain⟨o,es,ep,ho,hd,hk,_,hm⟩:=n;refine⟨o,ho,fun name=> ?_⟩;have e:=hm name;unfold nsFind findBy at e;rw[←Array.find?_toList] at e;unfold PySem.W.lookIn;rw[hd];dsimp only
  split
  · rename_i y q
    rw[q] at e;exact congrArg some e
  · rename_i q
    rw[q] at e
    have a:es.toList.any (·.refKey)=false:=by
      rw[List.any_eq_false];intro y hy;obtain⟨z,t,hkey⟩:=hk y (Array.mem_toList_iff.mp hy);simp[DictEntry.refKey,hkey]
    have a' :¬es.toList.any (·.refKey)=true:=by rw[a];exact Bool.false_ne_true
    rw[if_neg a'];exact congrArg some e
theorem ObjM.look {h:Heap} {x dx C:Addr} {mA:Str→Option Value} (I:ObjM h x dx C mA):∃od,PySem.W.InstAt h x (PySem.W.instObj C dx) C (some od)∧∀name,PySem.W.lookIn name od=some (mA name):=
  let⟨od,ho,hl⟩:=lookIn_ns I.ns
  ⟨od,⟨I.obj,rfl,rfl,ho⟩,hl⟩
section
variable{prog:Program}{w:World}{A:Around}{E:Value→Shared→Prop}{s:Shared}{K:PySem.W.Frag}{x dx C f:Addr}{mA:Str→Option Value}{name:Str}{v:Value}
theorem get_map {expr:Bool} {Q:Value→Shared→Prop} (X:K.In s.heap) (I:ObjM s.heap x dx C mA) (hg:PySem.W.plainGet K C name=true) (hh:PySem.W.hasDictIn K C=true)
    (ha:PySem.W.findIn K (.ref C) name=some none) (hv:mA name=some v) (hv' :PySem.W.handedIn v=true) (h:Q v {s with toks:=s.toks+1}):
    wpAny (model prog w) A (getAttr (.ref x) name expr) Q E s:=by
  obtain⟨od,J,hl⟩:=I.look;exact PySem.W.get_value X J (PySem.W.plainGet_of hg).1 (PySem.W.findObj_own hh ha rfl (by rw[hl,hv])) hv' h
theorem get_meth {pl:Sem Bool} {Q:Value×List Value→Shared→Prop} (X:K.In s.heap) (I:ObjM s.heap x dx C mA) (hg:PySem.W.plainGet K C name=true)
    (hf:PySem.W.findIn K (.ref C) name=some (some (.ref f))) (ht:PySem.W.isFn K (.ref f)=true) (hv:mA name=none) (h:Q (.ref f,[.ref x]) s):
    wpAny (model prog w) A (getMethod (.ref x) name pl) Q E s:=by
  obtain⟨od,J,hl⟩:=I.look;exact PySem.W.method_fn X J (PySem.W.plainGet_of hg).1 (PySem.W.plainGet_of hg).2 hf (beq_iff_eq.mp ht) (by show(PySem.W.lookIn name od).map (·.isSome)=some false;rw[hl,hv];rfl) h
theorem set_map {ns:List Str} {Q:Unit→Shared→Prop} (X:K.In s.heap) (I:ObjM s.heap x dx C mA)
    (hs:PySem.W.findIn K (.ref C) "__setattr__"=some (some (.builtin "object.__setattr__"))) (hp:PySem.W.plainOver K C=true) (ht:PySem.W.takerIn K C name=some none) (hh:PySem.W.hasDictIn K C=true)
    (hw:PySem.Within mA ns) (hsz:ns.length≤sizeLine)
    (h:∀h',ObjM h' x dx C (fun y=>if y=name then some v else mA y)→Heap.SameBut dx s.heap h'→Q () {s with heap:=h',toks:=s.toks+2}):
    wpAny (model prog w) A (setAttr (.ref x) name v) Q E s:=by
  obtain⟨od,J,hl⟩:=I.look;refine PySem.W.set_plain X J hs (PySem.W.osa_open (s:={s with toks:=s.toks+1}) (r:=none) X J hp ht fun b=> ?_);obtain⟨cd,hc,hd'⟩:=PySem.W.any_some hh;have hx:s.heap.get? x=some ⟨.ref C,some dx,.plain,#[]⟩:=I.obj;refine wpAny_bind (wpAny_pure (wpAny_bind (wpAny_bind (wpAny_loadPart hx (wpAny_bind (PySem.W.Looks.here (s:={s with toks:=s.toks+1}) (PySem.W.looks_clsIn X hc) ?_))))));rw[hd'];refine wpAny_pure (a:=some dx) (wpAny_bind (wpAny_pure (wpAny_bind ?_)));refine wpAny_nsSet1 (s:={s with toks:=s.toks+1}) I.ns fun h' hn2 hs2=> ?_;obtain⟨oD,esD,epD,hoD,hdD,hcD⟩:=hn2.count (PySem.Within.cons name v hw);refine wpAny_bind (wpAny_lookBehind hoD (by rw[hdD];exact pastItsLine_dict (Nat.le_trans hcD (by rw[List.length_cons];omega))) ?_);exact wpAny_pure (h _ ⟨(hs2.2 _ (Ne.symm I.ne)).trans I.obj,hn2,I.ne⟩ hs2)
theorem make_map {R:Result→Shared→Prop} {vs:List Value} {kw:List (Str×Value)} (X:K.In s.heap) (hm:PySem.W.makesIn K C=true)
    (hi:PySem.W.findIn K (.ref C) "__init__"=some (some (.ref f))) (hf:PySem.W.typeIn K (.ref f)=some (.type "function"))
    (h:codeAny (model prog w) (A.under (.builtin "type.__call__" ⟨.ref C::vs,kw⟩)) (.call (.ref f) ⟨.ref (s.heap.objs.size+1)::vs,kw⟩) (PySem.W.InitBack (s.heap.objs.size+1) R)
      {s with heap:=(s.heap.push PySem.W.emptyDict).push (PySem.W.instObj C s.heap.objs.size)}):
    codeAny (model prog w) A (.call (.ref C) ⟨vs,kw⟩) R s:=by
  obtain⟨hh,g,d,t,os⟩:=s;exact PySem.W.make_core (PySem.W.makes_of X hm) (PySem.W.looks_findIn X hi) (fun self=>PySem.W.bind_fn X self hf) (.inl rfl) h
end
def putF (f:Str) (v:V):List (Str×V)→List (Str×V)
  |[]=>[(f,v)]
  |(g,x)::r=>if g=f then(g,v)::r else(g,x)::putF f v r
theorem lookup_putF (f g:Str) (v:V):∀fs:List (Str×V),(putF f v fs).lookup g=if g=f then some v else fs.lookup g
  | []=>by
    show List.lookup g [(f,v)]=_;by_cases h:g=f
    · have hb:(g==f)=true:=beq_iff_eq.mpr h
      simp only[List.lookup,hb,if_pos h]
    · have hb:(g==f)=false:=beq_eq_false_iff_ne.mpr h
      simp only[List.lookup,hb,if_neg h]
  | (k, x)::r=>by
    have ih:=lookup_putF f g v r;rw[show putF f v ((k,x)::r)=(if k=f then(k,v)::r else(k,x)::putF f v r) from rfl];by_cases hk:k=f
    · rw[if_pos hk]
      by_cases h:g=k
      · have hb:(g==k)=true:=beq_iff_eq.mpr h
        simp only[List.lookup,hb,if_pos (h.trans hk)]
      · have hb:(g==k)=false:=beq_eq_false_iff_ne.mpr h
        simp only[List.lookup,hb,if_neg (fun e:g=f=>h (e.trans hk.symm))]
    · rw[if_neg hk]
      by_cases h:g=k
      · have hb:(g==k)=true:=beq_iff_eq.mpr h
        simp only[List.lookup,hb,if_neg (fun e:g=f=>hk (h.symm.trans e))]
      · have hb:(g==k)=false:=beq_eq_false_iff_ne.mpr h
        simp only[List.lookup,hb];exact ih
theorem keys_putF (f:Str) (v:V):∀fs:List (Str×V),f∈(putF f v fs).map (·.1)∧∀g,g∈fs.map (·.1)→g∈(putF f v fs).map (·.1)
  |[]=>⟨by simp[putF],fun g h=>by simp at h⟩
  | (k, x)::r=>by
    obtain⟨i1,i2⟩:=keys_putF f v r;rw[show putF f v ((k,x)::r)=(if k=f then(k,v)::r else(k,x)::putF f v r) from rfl];by_cases hk:k=f
    · rw[if_pos hk]
      subst hk;exact⟨by simp,fun g h=>by simpa using h⟩
    · rw[if_neg hk]
      refine⟨?_,fun g h=> ?_⟩
      · rw[List.map_cons]
        exact List.mem_cons_of_mem _ i1
      · rw[List.map_cons] at h ⊢
        rcases List.mem_cons.mp h with e|e
        · exact List.mem_cons.mpr (.inl e)
        · exact List.mem_cons_of_mem _ (i2 g e)
theorem length_putF (f:Str) (v:V):∀fs:List (Str×V),(putF f v fs).length≤fs.length+1
  |[]=>by simp[putF]
  | (k,x)::r=>by
    have ih:=length_putF f v r;rw[show putF f v ((k,x)::r)=(if k=f then(k,v)::r else(k,x)::putF f v r) from rfl];by_cases hk:k=f
    · rw[if_pos hk,List.length_cons,List.length_cons];omega
    · rw[if_neg hk,List.length_cons,List.length_cons];omega
theorem RelO.some_of {v:V} {o:Option Value} (r:RelO (some v) o):∃u,o=some u∧RelV v u:=by
  cases o with
  |none=>exact(show False from r).elim
  |some u=>exact⟨u,rfl,r⟩
theorem RelO.none_of {o:Option Value} (r:RelO none o):o=none:=by
  cases o with
  |none=>rfl
  |some u=>exact(show False from r).elim
theorem handed_of {v:V} {u:Value} (r:RelV v u):PySem.W.handedIn u=true:=by
  cases v with
  |non=>cases(show u=Value.none from r);rfl
  |bl b=>cases(show u=Value.bool b from r);rfl
  |int i=>obtain⟨t,e⟩:=(show ∃t,u=Value.int i t from r);cases e;rfl
  |str x=>obtain⟨t,e⟩:=(show ∃t,u=Value.str x t from r);cases e;rfl
  |byt b=>obtain⟨t,e⟩:=(show ∃t,u=Value.bytes b t from r);cases e;rfl
  |flt b=>obtain⟨t,e⟩:=(show ∃t,u=Value.float b t from r);cases e;rfl
  |ref a=>cases(show u=Value.ref a from r);rfl
  |ty n=>cases(show u=Value.type n from r);rfl
section
variable{P:Program}{w:World}{H H' :Hp}{h h' :Heap}{a C dx:Addr}{fs fs' :List (Str×V)}
theorem ins_get (hok:HOk P w H h) (e:H a=some (.ins C dx fs)):∃mA,ObjM h a dx C mA∧(∀f,RelO (fs.lookup f) (mA f))∧PySem.Within mA (fs.map (·.1))∧fs.length≤1000∧H dx=some (.own a):=by
  obtain⟨d,z,ne,ob,mA,n,r,q⟩:=(show ObjOk P w H h a (.ins C dx fs) from hok a _ e);exact⟨mA,⟨ob,n,ne⟩,r,q,z,d⟩
end
structure Cls (K:PySem.W.Frag) (C:Addr):Prop where
  pg:PySem.W.plainGet K C Str.empty=true
  hd:PySem.W.hasDictIn K C=true
  po:PySem.W.plainOver K C=true
  sa:PySem.W.findIn K (.ref C) "__setattr__"=some (some (.builtin "object.__setattr__"))
theorem Cls.get{K:PySem.W.Frag}{C:Addr}(c:Cls K C)(f:Str):PySem.W.plainGet K C f=true:=c.pg
def NoAttr(K:PySem.W.Frag)(C:Addr)(f:Str):Prop:=PySem.W.findIn K (.ref C) f=some none
theorem NoAttr.taker {K:PySem.W.Frag} {C:Addr} {f:Str} (n:NoAttr K C f):PySem.W.takerIn K C f=some none:=by
  unfold PySem.W.takerIn;rw[show PySem.W.findIn K (.ref C) f=some none from n];rfl
structure Meth (K:PySem.W.Frag) (C:Addr) (m:Str) (f:Addr):Prop where
  at_:PySem.W.findIn K (.ref C) m=some (some (.ref f))
  fn:PySem.W.isFn K (.ref f)=true
  kp:PySem.W.keepIn K (.ref f)=true
section
variable{X:Cx}{pins:List (Addr×Obj)}{σ:St}{H:Hp}{s:Shared}{a C dx:Addr}{fs:List (Str×V)}{f:Str}{v:V}{A:Around}{E:Value→Shared→Prop}
theorem getattr_ok {b:Bool} {Q:Value→Shared→Prop} (I:Inv X pins σ H s) (e:H a=some (.ins C dx fs)) (c:Cls X.K C) (n:NoAttr X.K C f) (l:fs.lookup f=some v)
    (h:∀u s',Inv X pins σ H s'→RelV v u→Q u s'):wpAny (model X.prog X.w) A (getAttr (.ref a) f b) Q E s:=by
  obtain⟨mA,O,r,_,_,_⟩:=ins_get I.hok e;obtain⟨u,hu,ru⟩:=RelO.some_of (v:=v) (o:=mA f) (by rw[←l];exact r f);exact get_map I.kIn O (c.get f) c.hd n hu (handed_of ru) (h u _ (I.tok _) ru)
theorem getmeth_ok {m:Str} {g:Addr} {pl:Sem Bool} {Q:Value×List Value→Shared→Prop} (I:Inv X pins σ H s) (e:H a=some (.ins C dx fs)) (c:Cls X.K C) (k:Meth X.K C m g) (l:fs.lookup m=none)
    (h:Q (.ref g,[.ref a]) s):wpAny (model X.prog X.w) A (getMethod (.ref a) m pl) Q E s:=by
  obtain⟨mA,O,r,_,_,_⟩:=ins_get I.hok e;have hn:mA m=none:=RelO.none_of (by rw[←l];exact r m);exact get_meth I.kIn O (c.get m) k.at_ k.fn hn h
theorem setattr_ok {y:V} {u:Value} {Q:Unit→Shared→Prop} (I:Inv X pins σ H s) (e:H a=some (.ins C dx fs)) (c:Cls X.K C) (n:NoAttr X.K C f) (hl:fs.length<1000) (ry:RelV y u)
    (h:∀s',Inv X pins σ (upd H a (.ins C dx (putF f y fs))) s'→Q () s'):wpAny (model X.prog X.w) A (setAttr (.ref a) f u) Q E s:=by
  obtain⟨mA,O,r,wi,_,ho⟩:=ins_get I.hok e;have hz:(fs.map (·.1)).length≤sizeLine:=by rw[List.length_map,sizeLine_eq];omega
  refine set_map I.kIn O c.sa c.po n.taker c.hd wi hz fun h' O' sb=>h _ ?_;have hd:∃o,h'.get? dx=some o:=let⟨o,_,_,e',_⟩:=O'.ns;⟨o,e'⟩
  refine I.write (x:=a) (e:=dx) (by rw[e];exact True.intro) (.inr ho) (fun b q hb z=>(sb.2 b hb).trans z) hd ?_;refine⟨by rw[upd_ne O.ne];exact ho,?_,O.ne,O'.obj,_,O'.ns,fun g=> ?_,fun g hg=> ?_⟩
  · have:=length_putF f y fs;omega
  · show RelO ((putF f y fs).lookup g) (if g=f then some u else mA g)
    rw[lookup_putF];by_cases q:g=f
    · rw[if_pos q,if_pos q];exact ry
    · rw[if_neg q,if_neg q];exact r g
  · by_cases q:g=f
    · rw[q];exact(keys_putF f y fs).1
    · refine(keys_putF f y fs).2 g (wi g fun z=>hg ?_)
      show(if g=f then some u else mA g)=none;rw[if_neg q];exact z
theorem Inv.made (I:Inv X pins σ H s):Inv X pins σ (upd (upd H s.heap.objs.size (.own (s.heap.objs.size+1))) (s.heap.objs.size+1) (.ins C s.heap.objs.size []))
    {s with heap:=(s.heap.push PySem.W.emptyDict).push (PySem.W.instObj C s.heap.objs.size)}:=by
  have e1:(s.heap.push PySem.W.emptyDict).get? s.heap.objs.size=some PySem.W.emptyDict:=Heap.get?_push_size s.heap rfl
  have e2:((s.heap.push PySem.W.emptyDict).push (PySem.W.instObj C s.heap.objs.size)).get? (s.heap.objs.size+1)=some (PySem.W.instObj C s.heap.objs.size):=by
    have:=Heap.get?_push_size (s.heap.push PySem.W.emptyDict) (o:=PySem.W.instObj C s.heap.objs.size) rfl;rwa[Heap.size_push] at this
  have e3:(s.heap.push PySem.W.emptyDict).Ns s.heap.objs.size (fun _=>none):=⟨PySem.W.emptyDict,#[],_,e1,rfl,(fun e he=>absurd he (by simp)),fun _=>rfl⟩;have I1:=I.laid (a:=s.heap.objs.size) (o:= .own (s.heap.objs.size+1)) (h' :=s.heap.push PySem.W.emptyDict) (t' :=s.toks) (fun b u q=>Heap.get?_push_of_some _ q) (Nat.le_refl _) ⟨_,e1⟩;refine I1.laid (a:=s.heap.objs.size+1) (o:= .ins C s.heap.objs.size []) (t' :=s.toks) (fun b u q=>Heap.get?_push_of_some _ q) (Nat.le_of_eq (Heap.size_push _ _)) ?_;have ne:s.heap.objs.size≠s.heap.objs.size+1:=Nat.ne_of_lt (Nat.lt_succ_self _);refine⟨by rw[upd_ne ne,upd_same],Nat.zero_le _,ne,e2,fun _=>none,(Heap.Ns1.of_empty e3).at fun o q=>Heap.get?_push_of_some _ q,fun _=>True.intro,fun y hy=>absurd rfl hy⟩
theorem attr_of {prog:Program} {w:World} {env:Env} {e:Expr} {f:Str} {pos:Pos} {s:Shared} {Q:Value→Shared→Prop} (hb:attributeBase e f env (eval e env)=eval e env)
    (h:wpAny (model prog w) A (eval e env) (fun o s₁=>wpAny (model prog w) A (getAttr o f true) Q E s₁) E s):wpAny (model prog w) A (eval (.Attribute e f pos) env) Q E s:=
  Attribute_any_ h (by rw[arm_eval_Attribute,hb])
end
def tFld(K:PySem.W.Frag)(ta:TE)(f:Str):TE:=fun σ H Q=>ta σ H fun x H1=>∃a C dx fs v,x= .ref a∧H1 a=some (.ins C dx fs)∧Cls K C∧NoAttr K C f∧fs.lookup f=some v∧Q v H1
def sFld (K:PySem.W.Frag) (ta tv:TE) (f:Str):TS:=fun D σ H=>tv σ H fun y H1=>ta σ H1 fun x H2=>∃a C dx fs,x= .ref a∧H2 a=some (.ins C dx fs)∧Cls K C∧NoAttr K C f∧fs.length<1000∧
  D.nx σ (upd H2 a (.ins C dx (putF f y fs)))
section
variable{X:Cx}{o e value:Expr}{f:Str}{pos pos' tpos:Pos}{ta tv:TE}
theorem pe_fld (he:PE X e ta) (hb:attributeBase e f X.env (eval e X.env)=eval e X.env):PE X (.Attribute e f pos) (tFld X.K ta f):=by
  intro pins s σ H Q I h;refine attr_of hb (thn (he pins s σ H _ I h) fun u s1 ⟨x,H1,I1,rx,a,C,dx,fs,v,ex,ea,c,n,l,q⟩=> ?_);subst ex;obtain rfl:u=Value.ref a:=rx;exact getattr_ok I1 ea c n l fun u' s2 I2 ru=>⟨v,H1,I2,ru,q⟩
theorem ps_fld (ha:PE X o ta) (hv:PE X value tv) (hs:swapsWith value (some (.Attribute o f pos')) pos.line X.env=pure false):PS X (.Assign [.Attribute o f pos'] value pos) (sFld X.K ta tv f):=by
  intro pins s σ H D I h;refine plainObj_wpAny_Assign_Attribute (thn (hv pins s σ H _ I h) fun u s1 ⟨y,H1,I1,ry,q⟩=>thn (ha pins s1 σ H1 _ I1 q) fun ov s2 ⟨x,H2,I2,rx,a,C,dx,fs,ex,ea,c,n,l,q2⟩=> ?_) hs;subst ex;obtain rfl:ov=Value.ref a:=rx;exact setattr_ok I2 ea c n l ry fun s3 I3=>⟨σ,_,I3,q2⟩
theorem methcall_of {pl:Sem Bool} {m:Str} {apos:Pos} {args:List Expr} {pins:List (Addr×Obj)} {s:Shared} {σ:St} {H:Hp} {Q:Value→Shared→Prop} {te:TE} (he:PE X e te) (I:Inv X pins σ H s)
    (h:te σ H fun x H1=>∃a C dx fs g,x= .ref a∧H1 a=some (.ins C dx fs)∧Cls X.K C∧Meth X.K C m g∧fs.lookup m=none∧
      ∀s1,Inv X pins σ H1 s1→wpAny (model X.prog X.w) X.A (callWith pos (.ref g) [.ref a] (backTo pos (starEach args X.env)) (backToKw pos (keywordEach [] X.env))) Q X.xe s1)
    (ht:eval (.Call (.Attribute e m apos) args [] pos) X.env=(do
      let ov←eval e X.env
      standAt apos.atName
      let(f,first)←holding [ov] (getMethod ov m pl)
      callWith pos f first (backTo pos (starEach args X.env)) (backToKw pos (keywordEach [] X.env)))):
    wpAny (model X.prog X.w) X.A (eval (.Call (.Attribute e m apos) args [] pos) X.env) Q X.xe s:=by
  refine PySem.W.methodCall_KW (pl:=pl) (thn (he pins s σ H _ I h) fun u s1 ⟨x,H1,I1,rx,a,C,dx,fs,g,ex,ea,c,k,l,q⟩=> ?_) ht;subst ex;obtain rfl:u=Value.ref a:=rx;exact getmeth_ok I1 ea c k l (q s1 I1)
end
section
variable{X:Cx}{pins:List (Addr×Obj)}{σ:St}{H:Hp}{s:Shared}{A:Around}{E:Value→Shared→Prop}{Q:Value→Shared→Prop}{c:Value}{b:Bool}
inductive TyOf (K:PySem.W.Frag) (H:Hp):V→Value→Prop where
  |non:TyOf K H .non (.type "NoneType")
  |bl (x:Bool):TyOf K H (.bl x) (.type "bool")
  |int (i:Int):TyOf K H (.int i) (.type "int")
  |str (x:Str):TyOf K H (.str x) (.type "str")
  |flt (x:UInt64):TyOf K H (.flt x) (.type "float")
  |lst {a:Addr} {xs:List V} (e:H a=some (.lst xs)):TyOf K H (.ref a) (.type "list")
  |frz {a:Addr} {o:Obj} {xs:List V} (e:H a=some (.frz o (.lst xs))):TyOf K H (.ref a) (.type "list")
  |tup {a:Addr} {xs:List V} (e:H a=some (.tup xs)):TyOf K H (.ref a) (.type "tuple")
  |dK {a:Addr} {kvs:List (Key×V)} (e:H a=some (.dK kvs)):TyOf K H (.ref a) (.type "dict")
  |dT {a:Addr} {kvs:List (List Key×V)} (e:H a=some (.dT kvs)):TyOf K H (.ref a) (.type "dict")
  | ins {a C dx:Addr} {fs:List (Str×V)} (e:H a=some (.ins C dx fs)) (cl:Cls K C) (ha:PySem.W.findIn K (.ref C) "__class__"=some (some (.builtin "object.__class__")))
      (hn:PySem.W.specialIn K (.builtin "object.__class__") "__get__"=some (some (.builtin "getset_descriptor.__get__"))) (htk:PySem.W.takesIn K (.builtin "object.__class__")=some true)
      (hm:PySem.W.mroIn K C (.type "object")=some true):TyOf K H (.ref a) (.ref C)
theorem isinst_ok {x:V} {u t:Value} (I:Inv X pins σ H s) (rx:RelV x u) (ty:TyOf X.K H x t) (e:PySem.W.kitOne X.K t c=some b) (h:∀tk,Q (.bool b) {s with toks:=tk}):
    wpAny (model X.prog X.w) A (call (.builtin "isinstance") [u,c]) Q E s:=by
  cases ty with
  |non=>cases(show u=Value.none from rx);exact PySem.W.kia_one PySem.W.kitx_none I.kIn True.intro e (fun z=>nomatch z) h
  |bl y=>cases(show u=Value.bool y from rx);exact PySem.W.kia_one PySem.W.kitx_bool I.kIn True.intro e (fun z=>nomatch z) h
  |int i=>obtain⟨t,q⟩:=(show ∃t,u=Value.int i t from rx);cases q;exact PySem.W.kia_one PySem.W.kitx_int I.kIn True.intro e (fun z=>nomatch z) h
  |str y=>obtain⟨t,q⟩:=(show ∃t,u=Value.str y t from rx);cases q;exact PySem.W.kia_one PySem.W.kitx_str I.kIn True.intro e (fun z=>nomatch z) h
  |flt y=>obtain⟨t,q⟩:=(show ∃t,u=Value.float y t from rx);cases q;exact PySem.W.kia_one PySem.W.kitx_float I.kIn True.intro e (fun z=>nomatch z) h
  | @lst a xs ea=>
    cases(show u=Value.ref a from rx);obtain⟨_,_,n,_,h1⟩:=(show ObjOk X.prog X.w H s.heap a (.lst xs) from I.hok a _ ea);exact PySem.W.kia_one PySem.W.kitx_list I.kIn ⟨_,h1,rfl⟩ e (fun z=>nomatch z) h
  | @frz a ob xs ea=>
    cases(show u=Value.ref a from rx);obtain⟨_,_,_,n,_,h1⟩:=(show ObjOk X.prog X.w H s.heap a (.frz ob (.lst xs)) from I.hok a _ ea);exact PySem.W.kia_one PySem.W.kitx_list I.kIn ⟨_,h1,rfl⟩ e (fun z=>nomatch z) h
  | @tup a xs ea=>
    cases(show u=Value.ref a from rx);obtain⟨_,_,_,p⟩:=(show ObjOk X.prog X.w H s.heap a (.tup xs) from I.hok a _ ea);obtain⟨o,h1,h2,_⟩:=p;exact PySem.W.kia_one PySem.W.kitx_tuple I.kIn ⟨o,h1,h2⟩ e (fun z=>nomatch z) h
  | @dK a kvs ea=>
    cases(show u=Value.ref a from rx);obtain⟨_,_,vs,_,p⟩:=(show ObjOk X.prog X.w H s.heap a (.dK kvs) from I.hok a _ ea);obtain⟨o,es,ep,h1,h2,_⟩:=p;exact PySem.W.kia_one PySem.W.kitx_dict I.kIn ⟨o,h1,h2.1⟩ e (fun z=>nomatch z) h
  | @dT a kvs ea=>
    cases(show u=Value.ref a from rx);obtain⟨_,_,xs,_,o,es,ep,h1,h2,_⟩:=(show ObjOk X.prog X.w H s.heap a (.dT kvs) from I.hok a _ ea);exact PySem.W.kia_one PySem.W.kitx_dict I.kIn ⟨o,h1,h2.1⟩ e (fun z=>nomatch z) h
  | @ins a C dx fs ea cl ha hn htk hm=>
    cases(show u=Value.ref a from rx);obtain⟨mA,O,_⟩:=ins_get I.hok ea;obtain⟨od,J,_⟩:=O.look;exact PySem.W.kia_one (PySem.W.kitx_own (cl.get _) cl.hd ha hn htk hm) I.kIn J e (fun z=>nomatch z) h
end
end L2
namespace L2
open PySem PySem.Spec PyProof.Rows
structure Room (k:Nat) (A:Around):Prop where
  hd:A.handled=none
  dp:A.depth+3*k+5<recursionLimit
  un:A.units+16*k+200<cLine
  gd:A.guards=some []
theorem Room.mono{j k:Nat}{A:Around}(r:Room k A)(h:j≤k):Room j A:=⟨r.hd,by have:=r.dp;omega,by have:=r.un;omega,r.gd⟩
theorem Room.deeper {k:Nat} {A:Around} (r:Room (k+1) A) (env:Env):Room k (A.deeper env):=
  ⟨r.hd,by have:=r.dp;show A.depth+1+3*k+5<_;omega,by have:=r.un;show A.units+3+16*k+200<_;omega,r.gd⟩
theorem Room.in1 {k:Nat} {A:Around} (r:Room (k+1) A):Room k A.in1:=
  ⟨r.hd,by have:=r.dp;show A.depth+3*k+5<_;omega,by have:=r.un;show A.units+1+16*k+200<_;omega,r.gd⟩
theorem make_depth {A:Around} {C:Addr} {us:List Value} {kw:List (Str×Value)}:(A.under (.builtin "type.__call__" ⟨.ref C::us,kw⟩)).depth=A.depth+1:=by
  first|rfl|simp[Around.under,Code.weight,Code.isCreation,Code.isGuard,Code.isCaller,Code.frames,Code.isFrame,guardIds]
theorem make_units {A:Around} {C:Addr} {us:List Value} {kw:List (Str×Value)}:(A.under (.builtin "type.__call__" ⟨.ref C::us,kw⟩)).units=A.units+1:=by
  first|rfl|simp[Around.under,Code.cUnits,Code.frames,Code.isFrame]
theorem make_guards {A:Around} {C:Addr} {us:List Value} {kw:List (Str×Value)} {g:List Code} (h:A.guards=some g):(A.under (.builtin "type.__call__" ⟨.ref C::us,kw⟩)).guards=some g:=by
  have e:(Code.builtin "type.__call__" ⟨.ref C::us,kw⟩).guards=[]:=by first|rfl|simp[Code.guards,Code.isGuard,guardIds]
  first
    |(simp only[Around.under,e,pushGuards];exact h)
    |simp[Around.under,e,pushGuards,h]
theorem Room.make {k:Nat} {A:Around} (r:Room (k+1) A) (C:Addr) (us:List Value) (kw:List (Str×Value)):Room k (A.under (.builtin "type.__call__" ⟨.ref C::us,kw⟩)):=
  ⟨r.hd,by have:=r.dp;rw[make_depth];omega,by have:=r.un;rw[make_units];omega,make_guards r.gd⟩
theorem Room.depth{k:Nat}{A:Around}(r:Room k A):A.depth<recursionLimit:=by have:=r.dp;omega
theorem Room.units{k:Nat}{A:Around}(r:Room k A):A.units+64<cLine:=by have:=r.un;omega
theorem Room.units0{k:Nat}{A:Around}(r:Room k A):A.units<cLine:=by have:=r.un;omega
def tNil:TA:=fun _ H Q=>Q [] H
def tCons(ta:TE)(tr:TA):TA:=fun σ H Q=>ta σ H fun x H1=>tr σ H1 fun xs H2=>Q (x::xs) H2
section
variable{X:Cx}{e:Expr}{es:List Expr}{te:TE}{t:TA}{pos:Pos}
theorem pa_nil:PA X [] tNil:=fun _ _ _ _ H Q I h=>Calls.spliced_nil ⟨[],H,I,.nil,h⟩
theorem pa_cons (ha:PE X e te) (hr:PA X es t) (hs:starEach (e::es) X.env=(false,eval e X.env)::starEach es X.env:=by rfl):PA X (e::es) (tCons te t):=by
  intro pos pins s σ H Q I h;rw[hs];show wpAny _ _ (spliced ((false,eval e X.env)::backTo pos (starEach es X.env))) _ _ s;refine Calls.spliced_cons (thn (ha pins s σ H _ I h) fun u s1 ⟨x,H1,I1,r1,q1⟩=> ?_);exact thn (hr pos pins s1 σ H1 _ I1 q1) fun us s2 ⟨xs,H2,I2,r2,q2⟩=>⟨x::xs,H2,I2,.cons r1 r2,q2⟩
def tTup(t:TA):TE:=fun σ H Q=>t σ H fun xs H1=>xs.length≤sizeLine∧∀p,H1 p=none→Q (.ref p) (upd H1 p (.tup xs))
def tLst(t:TA):TE:=fun σ H Q=>t σ H fun xs H1=>xs.length≤sizeLine∧∀p,H1 p=none→Q (.ref p) (upd H1 p (.lst xs))
theorem pe_tup {x1} (h:PA X es t):PE X (.Tuple es x1 pos) (tTup t):=by
  intro pins s σ H Q I hq;refine wpAny_Tuple_spliced (thn (h pos pins s σ H _ I hq) fun us s1 ⟨xs,H1,I1,r,z,q⟩=>⟨by rw[←r.length];exact z,?_⟩);have hf:H1 s1.heap.objs.size=none:=I1.hok.fresh (Nat.le_refl _);refine⟨.ref s1.heap.objs.size,upd H1 s1.heap.objs.size (.tup xs),I1.laid (t' :=s1.toks) (fun b u e=>Heap.get?_push_of_some _ e) (Nat.le_refl _) ?_,rfl,q _ hf⟩;exact⟨z,us,r,⟨_,Heap.get?_push_size _ rfl,rfl,_,rfl⟩⟩
theorem pe_lst (h:PA X es t):PE X (.List es pos) (tLst t):=by
  intro pins s σ H Q I hq;refine wpAny_List_spliced (thn (h pos pins s σ H _ I hq) fun us s1 ⟨xs,H1,I1,r,z,q⟩=>⟨by rw[←r.length];exact z,?_⟩);have hf:H1 s1.heap.objs.size=none:=I1.hok.fresh (Nat.le_refl _);refine⟨.ref s1.heap.objs.size,upd H1 s1.heap.objs.size (.lst xs),I1.laid (t' :=s1.toks) (fun b u e=>Heap.get?_push_of_some _ e) (Nat.le_refl _) ?_,rfl,q _ hf⟩;exact⟨z,us,0,r,Heap.get?_push_size _ rfl⟩
end
abbrev Sp:=List V→Hp→VK→XK→Prop
abbrev CXT:=List Env→Hp→Shared→XK→Value→Shared→Prop
structure Env0 (P:Program) (w:World) (K:PySem.W.Frag) (mg:Str→Option Value) (base:Heap) (A:Around) (outer:List Env) (s:Shared) (H:Hp):Prop where
  frames:A.frames=some outer
  mod:Mod K mg base
  bs:∀b o,base.get? b=some o→s.heap.get? b=some o∧H b=none
  bsz:base.objs.size≤s.heap.objs.size
  funs:s.heap.FunFrames base outer
  frf:∀b∈frs outer,H b=none
  hok:HOk P w H s.heap
  bare:AllBare s.gens
def CE (outer:List Env) (P:Program) (w:World) (H:Hp) (s:Shared) (Q:VK) (u:Value) (s' :Shared):Prop:=
  ∃v H',s'.os=s.os∧AllBare s'.gens∧Un (frs outer) [] H H' s.heap s'.heap∧HOk P w H' s'.heap∧RelV v u∧Q v H'
def CR (CX:CXT) (outer:List Env) (P:Program) (w:World) (H:Hp) (s:Shared) (Q:VK) (E:XK) (r:Result) (s' :Shared):Prop:=
  match r with
  | .ok (.ret u)=>CE outer P w H s Q u s'
  | .ok _=>False
  | .error e=>CX outer H s E e s'
structure FnOk (P:Program) (w:World) (K:PySem.W.Frag) (mg:Str→Option Value) (base:Heap) (CX:CXT) (k:Nat) (f:Addr) (fd:FuncData) (ps:List Str) (sp:Sp):Prop where
  len:∀vs H Q E,sp vs H Q E→vs.length=ps.length
  run:∀(A:Around) (outer:List Env) (s:Shared) (H:Hp) (args:Args) (us:List Value) (vs:List V) (Q:VK) (E:XK),Room k A→Env0 P w K mg base A outer s H→BindsTo s fd args (ps.zip us)→Vals vs us→sp vs H Q E→
    codeAny (model P w) A (.call (.ref f) args) (CR CX outer P w H s Q E) s
theorem FnOk.mono {P:Program} {w:World} {K:PySem.W.Frag} {mg:Str→Option Value} {base:Heap} {CX:CXT} {j k:Nat} {f:Addr} {fd:FuncData} {ps:List Str} {sp:Sp} (F:FnOk P w K mg base CX j f fd ps sp) (h:j≤k):
    FnOk P w K mg base CX k f fd ps sp:=⟨F.len,fun A outer s H args us vs Q E hr=>F.run A outer s H args us vs Q E (hr.mono h)⟩
theorem FnOk.imp {P:Program} {w:World} {K:PySem.W.Frag} {mg:Str→Option Value} {base:Heap} {CX:CXT} {k:Nat} {f:Addr} {fd:FuncData} {ps:List Str} {sp sp' :Sp} (F:FnOk P w K mg base CX k f fd ps sp)
    (h:∀vs H Q E,sp' vs H Q E→sp vs H Q E):FnOk P w K mg base CX k f fd ps sp' :=
  ⟨fun vs H Q E q=>F.len vs H Q E (h _ _ _ _ q),fun A outer s H args us vs Q E hr he hb hv hs=>F.run A outer s H args us vs Q E hr he hb hv (h _ _ _ _ hs)⟩
theorem Env0.make {P:Program} {w:World} {K:PySem.W.Frag} {mg:Str→Option Value} {base:Heap} {A:Around} {outer:List Env} {s:Shared} {H:Hp} (e:Env0 P w K mg base A outer s H) (C:Addr) (us:List Value) (kw:List (Str×Value)):
    Env0 P w K mg base (A.under (.builtin "type.__call__" ⟨.ref C::us,kw⟩)) outer s H:=⟨by first|exact e.frames|(simpa[Around.under,Code.envs,Code.isFrame,pushEnvs] using e.frames),e.mod,e.bs,e.bsz,e.funs,e.frf,e.hok,e.bare⟩
theorem Env0.in1 {P:Program} {w:World} {K:PySem.W.Frag} {mg:Str→Option Value} {base:Heap} {A:Around} {outer:List Env} {s:Shared} {H:Hp} (e:Env0 P w K mg base A outer s H):
    Env0 P w K mg base A.in1 outer s H:=⟨e.frames,e.mod,e.bs,e.bsz,e.funs,e.frf,e.hok,e.bare⟩
section
variable{X:Cx}{pins:List (Addr×Obj)}{σ:St}{H:Hp}{s s' :Shared}
theorem Inv.env0 (I:Inv X pins σ H s):Env0 X.prog X.w X.K X.mg X.base X.A X.stack s H:=
  ⟨I.ok.frames,I.ok.mod,I.bs,Nat.le_trans I.ok.bsz I.sz,I.stack,I.stkFree,I.hok,I.bare⟩
theorem Inv.after {Q:VK} {u:Value} (I:Inv X pins σ H s) (h:CE X.stack X.prog X.w H s Q u s'):EP X pins σ Q u s' :=by
  obtain⟨v,H',os,bare,un,hok,r,q⟩:=h;obtain⟨hh,g,d,t,os'⟩:=s';obtain rfl:os' =s.os:=os;exact⟨v,H',I.call (h' :=hh) (g' :=g) (d' :=d) (t' :=t) (ch:=[]) un hok bare (fun b z=>absurd z (by simp)),r,q⟩
end
def tCall(sp:Sp)(dvs:List V)(E:XK)(t:TA):TE:=fun σ H Q=>t σ H fun vs H1=>sp (vs++dvs) H1 Q E
def tMeth (C:Addr) (m:Str) (sp:Sp) (dvs:List V) (E:XK) (ta:TE) (t:TA):TE:=fun σ H Q=>ta σ H fun x H1=>∃a dx fs,x= .ref a∧H1 a=some (.ins C dx fs)∧fs.lookup m=none∧
  t σ H1 fun vs H2=>sp (x::(vs++dvs)) H2 Q E
def tMake (C:Addr) (sp:Sp) (dvs:List V) (E:XK) (t:TA):TE:=fun σ H Q=>t σ H fun vs H1=>∀x dx,H1 x=none→H1 dx=none→dx≠x→
  sp (.ref x::(vs++dvs)) (upd (upd H1 dx (.own x)) x (.ins C dx [])) (fun v H2=>v= .non∧Q (.ref x) H2) E
def Binds (K:PySem.W.Frag) (fd:FuncData) (ps:List Str) (ds:List Value):Prop:=
  ∀(s:Shared) (us:List Value),K.In s.heap→(us++ds).length=ps.length→BindsTo s fd ⟨us,[]⟩ (ps.zip (us++ds))
theorem Binds.all {K:PySem.W.Frag} {fd:FuncData} {ps:List Str} (h:∀us:List Value,us.length=ps.length→bindArgs fd ⟨us,[]⟩=pure (ps.zip us)):Binds K fd ps []:=fun s us _ hl=>by
  rw[List.append_nil] at hl ⊢;exact .of_eq (h us hl)
def Passes(CX:CXT)(X:Cx)(E:XK):Prop:=∀(pins:List (Addr×Obj)) (σ:St) (H:Hp) (s:Shared) (e:Value) (s' :Shared),Inv X pins σ H s→CX X.stack H s E e s'→X.xe e s'
section
variable{X:Cx}{CX:CXT}{k:Nat}{f C:Addr}{fd:FuncData}{ps:List Str}{sp:Sp}{dvs:List V}{ds:List Value}{E:XK}{x m:Str}{p pos apos:Pos}{e o:Expr}{es:List Expr}{ta:TE}{t:TA}
theorem run_fn {pins:List (Addr×Obj)} {σ:St} {H:Hp} {s:Shared} {Q:VK} {us:List Value} {vs:List V} (F:FnOk X.prog X.w X.K X.mg X.base CX k f fd ps sp) (hr:Room k X.A) (hb:Binds X.K fd ps ds) (hd:Vals dvs ds) (hx:Passes CX X E)
    (I:Inv X pins σ H s) (r:Vals vs us) (h:sp (vs++dvs) H Q E):wpAny (model X.prog X.w) X.A (call (.ref f) us) (EP X pins σ Q) X.xe s:=by
  have r2:Vals (vs++dvs) (us++ds):=r.append hd;have hl:(us++ds).length=ps.length:=by rw[←r2.length];exact F.len _ _ _ _ h
  refine wpAny_call (codeAny_mono (F.run X.A X.stack s H ⟨us,[]⟩ (us++ds) (vs++dvs) Q E hr I.env0 (hb s us I.kIn hl) r2 h) fun r s' hq=> ?_)
  cases r with
  |error e=>exact hx pins σ H s e s' I hq
  | ok fl=>
    cases fl with
    |ret u=>exact I.after hq
    |next=>exact False.elim hq
    |brk=>exact False.elim hq
    |cont=>exact False.elim hq
theorem pe_call (F:FnOk X.prog X.w X.K X.mg X.base CX k f fd ps sp) (hr:Room k X.A) (hg:Gl X x) (hm:X.mg x=some (.ref f)) (hk:PySem.W.keepIn X.K (.ref f)=true) (hb:Binds X.K fd ps ds) (hd:Vals dvs ds) (hx:Passes CX X E)
    (ha:PA X (e::es) t) (hdb:(x==("__debug__" :Str))=false:=by decide) (he:starEach (e::es) X.env=(false,eval e X.env)::starEach es X.env:=by rfl) (hpl:(backTo pos (starEach es X.env)).any (·.1)=false:=by rfl):
    PE X (.Call (.Name x p) (e::es) [] pos) (tCall sp dvs E t):=by
  intro pins s σ H Q I h;refine wpAny_Call_Name_kw (ld_glob I hg hm ?_ hdb);refine PySem.W.callWith_K (h₀:=X.base) I.ok.mod.kin hk (thn (ha pos pins s σ H _ I h) fun us s1 ⟨vs,H1,I1,r,q⟩=>⟨I1.kIn,?_⟩) he hpl;exact run_fn F hr hb hd hx I1 r q
theorem pe_meth {pl:Sem Bool} (he:PE X o ta) (c:Cls X.K C) (hm:Meth X.K C m f) (F:FnOk X.prog X.w X.K X.mg X.base CX k f fd ps sp) (hr:Room k X.A) (hb:Binds X.K fd ps ds) (hd:Vals dvs ds) (hx:Passes CX X E) (ha:PA X (e::es) t)
    (hst:starEach (e::es) X.env=(false,eval e X.env)::starEach es X.env:=by rfl) (hpl:(backTo pos (starEach es X.env)).any (·.1)=false:=by rfl)
    (ht:eval (.Call (.Attribute o m apos) (e::es) [] pos) X.env=(do
      let ov←eval o X.env
      standAt apos.atName
      let(f,first)←holding [ov] (getMethod ov m pl)
      callWith pos f first (backTo pos (starEach (e::es) X.env)) (backToKw pos (keywordEach [] X.env))):=by rfl):
    PE X (.Call (.Attribute o m apos) (e::es) [] pos) (tMeth C m sp dvs E ta t):=by
  intro pins s σ H Q I h;refine PySem.W.methodCall_KW (pl:=pl) (thn (he pins s σ H _ I h) fun u s1 ⟨x,H1,I1,rx,a,dx,fs,ex,ea,l,q⟩=> ?_) ht;subst ex;obtain rfl:u=Value.ref a:=rx;refine getmeth_ok I1 ea c hm l ?_;refine PySem.W.callWith_K (first:=[.ref a]) (h₀:=X.base) I.ok.mod.kin hm.kp (thn (ha pos pins s1 σ H1 _ I1 q) fun us s2 ⟨vs,H2,I2,r,q2⟩=>⟨I2.kIn,?_⟩) hst hpl;exact run_fn (us:= .ref a::us) (vs:= .ref a::vs) F hr hb hd hx I2 (.cons rfl r) q2
theorem pe_meth0 {pl:Sem Bool} (he:PE X o ta) (c:Cls X.K C) (hm:Meth X.K C m f) (F:FnOk X.prog X.w X.K X.mg X.base CX k f fd ps sp) (hr:Room k X.A) (hb:Binds X.K fd ps ds) (hd:Vals dvs ds) (hx:Passes CX X E)
    (ht:eval (.Call (.Attribute o m apos) [] [] pos) X.env=(do
      let ov←eval o X.env
      standAt apos.atName
      let(f,first)←holding [ov] (getMethod ov m pl)
      callWith pos f first (backTo pos (starEach [] X.env)) (backToKw pos (keywordEach [] X.env))):=by rfl):
    PE X (.Call (.Attribute o m apos) [] [] pos) (tMeth C m sp dvs E ta tNil):=by
  intro pins s σ H Q I h;refine PySem.W.methodCall_KW (pl:=pl) (thn (he pins s σ H _ I h) fun u s1 ⟨x,H1,I1,rx,a,dx,fs,ex,ea,l,q⟩=> ?_) ht;subst ex;obtain rfl:u=Value.ref a:=rx;refine getmeth_ok I1 ea c hm l ?_;exact PySem.W.callWith_K0 (first:=[.ref a]) I1.kIn hm.kp (run_fn (us:=[.ref a]) (vs:=[.ref a]) F hr hb hd hx I1 (.cons rfl .nil) q)
structure Mk (K:PySem.W.Frag) (C f:Addr):Prop where
  makes:PySem.W.makesIn K C=true
  init:PySem.W.findIn K (.ref C) "__init__"=some (some (.ref f))
  fn:PySem.W.isFn K (.ref f)=true
  kp:PySem.W.keepIn K (.ref C)=true
theorem run_make {pins:List (Addr×Obj)} {σ:St} {H:Hp} {s:Shared} {Q:VK} {us:List Value} {vs:List V} (M:Mk X.K C f) (F:FnOk X.prog X.w X.K X.mg X.base CX k f fd ps sp) (hr:Room (k+1) X.A) (hb:Binds X.K fd ps ds) (hd:Vals dvs ds)
    (hx:Passes CX X E) (I:Inv X pins σ H s) (r:Vals vs us)
    (h:∀x dx,H x=none→H dx=none→dx≠x→sp (.ref x::(vs++dvs)) (upd (upd H dx (.own x)) x (.ins C dx [])) (fun v H2=>v= .non∧Q (.ref x) H2) E):
    wpAny (model X.prog X.w) X.A (call (.ref C) us) (EP X pins σ Q) X.xe s:=by
  have hq:=h (s.heap.objs.size+1) s.heap.objs.size (I.hok.fresh (Nat.le_succ _)) (I.hok.fresh (Nat.le_refl _)) (Nat.ne_of_lt (Nat.lt_succ_self _));have I2:=Inv.made (C:=C) I;have r2:Vals (V.ref (s.heap.objs.size+1)::(vs++dvs)) (Value.ref (s.heap.objs.size+1)::(us++ds)):= .cons rfl (r.append hd)
  have hl:(Value.ref (s.heap.objs.size+1)::us++ds).length=ps.length:=by
    have e:=r2.length;rw[F.len _ _ _ _ hq] at e;exact e.symm
  refine wpAny_call (make_map (f:=f) I.kIn M.makes M.init (beq_iff_eq.mp M.fn) (codeAny_mono (F.run _ X.stack _ _ ⟨Value.ref (s.heap.objs.size+1)::us,[]⟩ (Value.ref (s.heap.objs.size+1)::(us++ds)) _ _ E (hr.make C us [])
    (I2.env0.make C us []) (hb _ (Value.ref (s.heap.objs.size+1)::us) I2.kIn hl) r2 hq) fun r s' hq' => ?_))
  cases r with
  |error e=>exact hx pins σ _ _ e s' I2 hq'
  | ok fl=>
    cases fl with
    | ret u=>
      obtain⟨v,H',I3,rv,ev,q3⟩:=I2.after hq';subst ev;exact⟨rv,⟨V.ref (s.heap.objs.size+1),H',I3,rfl,q3⟩⟩
    |next=>exact False.elim hq'
    |brk=>exact False.elim hq'
    |cont=>exact False.elim hq'
theorem pe_make (M:Mk X.K C f) (F:FnOk X.prog X.w X.K X.mg X.base CX k f fd ps sp) (hr:Room (k+1) X.A) (hg:Gl X x) (hm:X.mg x=some (.ref C)) (hb:Binds X.K fd ps ds) (hd:Vals dvs ds) (hx:Passes CX X E)
    (ha:PA X (e::es) t) (hdb:(x==("__debug__" :Str))=false:=by decide) (he:starEach (e::es) X.env=(false,eval e X.env)::starEach es X.env:=by rfl) (hpl:(backTo pos (starEach es X.env)).any (·.1)=false:=by rfl):
    PE X (.Call (.Name x p) (e::es) [] pos) (tMake C sp dvs E t):=by
  intro pins s σ H Q I h;refine wpAny_Call_Name_kw (ld_glob I hg hm ?_ hdb);refine PySem.W.callWith_K (h₀:=X.base) I.ok.mod.kin M.kp (thn (ha pos pins s σ H _ I h) fun us s1 ⟨vs,H1,I1,r,q⟩=>⟨I1.kIn,?_⟩) he hpl;exact run_make M F hr hb hd hx I1 r q
end
section
variable{X:Cx}{CX:CXT}{k:Nat}{f C:Addr}{fd:FuncData}{ps ks:List Str}{sp:Sp}{E:XK}{x m:Str}{p pos apos kpos:Pos}{e o:Expr}{es:List Expr}{kws:List Keyword}{te ta:TE}{t tk:TA}{nm:Option Str}
variable{g:List Value→List Value→List Value}{gV:List V→List V→List V}
end
structure FnScope (N P:List Str) (sc:Scope):Prop where
  kind:sc.kind= .function
  co:sc.isCoroutine=false
  gen:sc.isGenerator=false
  nd:N.Nodup
  pre:N.take P.length=P
  par:∀x∈P,sc.names.lookup x=some .local∨sc.names.lookup x=some .cell
  nofree:∀y∈sc.names,y.2≠.free
theorem bindL_out {kindOf:Str→Option NameKind} {x:Str}:∀{binds:List (Str×Value)} {m:Str→Option Value},(∀v,(x,v)∉binds)→bindL kindOf binds m x=m x
  |[],_,_=>rfl
  | (n,v)::r,m,h=>by
    unfold bindL;rw[bindL_out fun w hw=>h w (List.mem_cons_of_mem _ hw)]
    split
    · have:x≠n:=by rintro rfl;exact h v List.mem_cons_self
      simp[this]
    · rfl
theorem bindC_out {kindOf:Str→Option NameKind} {x:Str}:∀{binds:List (Str×Value)} {m:Str→Option Value},(∀v,(x,v)∉binds)→bindC kindOf binds m x=m x
  |[],_,_=>rfl
  | (n,v)::r,m,h=>by
    unfold bindC;rw[bindC_out fun w hw=>h w (List.mem_cons_of_mem _ hw)]
    split
    · rfl
    · have:x≠n:=by rintro rfl;exact h v List.mem_cons_self
      simp[this]
theorem bindL_get {kindOf:Str→Option NameKind} {x:Str} {v:Value}:∀{P:List Str} {vs:List Value} {i:Nat} {m:Str→Option Value},P.Nodup→P[i]? =some x→vs[i]? =some v→kindOf x=some .local→
    bindL kindOf (P.zip vs) m x=some v
  |[],_,_,_,_,h,_,_=>by simp at h
  |_::_,[],_,_,_,_,h,_=>by simp at h
  | p::P,w::vs,0,m,nd,h1,h2,hk=>by
    simp at h1 h2;subst h1;subst h2
    show bindL kindOf ((p,w)::P.zip vs) m p=_;unfold bindL;rw[bindL_out fun v hv=>(List.nodup_cons.mp nd).1 (List.of_mem_zip hv).1,if_pos hk];simp
  | p::P,w::vs,i+1,m,nd,h1,h2,hk=>by
    show bindL kindOf ((p,w)::P.zip vs) m x=_;unfold bindL;exact bindL_get (i:=i) (List.nodup_cons.mp nd).2 (by simpa using h1) (by simpa using h2) hk
theorem bindC_get {kindOf:Str→Option NameKind} {x:Str} {v:Value}:∀{P:List Str} {vs:List Value} {i:Nat} {m:Str→Option Value},P.Nodup→P[i]? =some x→vs[i]? =some v→kindOf x≠some .local→
    bindC kindOf (P.zip vs) m x=some v
  |[],_,_,_,_,h,_,_=>by simp at h
  |_::_,[],_,_,_,_,h,_=>by simp at h
  | p::P,w::vs,0,m,nd,h1,h2,hk=>by
    simp at h1 h2;subst h1;subst h2
    show bindC kindOf ((p,w)::P.zip vs) m p=_;unfold bindC;rw[bindC_out fun v hv=>(List.nodup_cons.mp nd).1 (List.of_mem_zip hv).1,if_neg hk];simp
  | p::P,w::vs,i+1,m,nd,h1,h2,hk=>by
    show bindC kindOf ((p,w)::P.zip vs) m x=_;unfold bindC;exact bindC_get (i:=i) (List.nodup_cons.mp nd).2 (by simpa using h1) (by simpa using h2) hk
def start(N:List Str)(vs:List V):St:=vs.map some++List.replicate (N.length - vs.length) none
def cxOf (CX:CXT) (P:Program) (w:World) (K:PySem.W.Frag) (mg:Str→Option Value) (base:Heap) (N:List Str) (qual:Str) (scope:Scope) (f:Addr) (cd:Value) (A:Around) (outer:List Env) (s:Shared) (H:Hp) (E:XK):Cx where
  prog:=P
  w:=w
  K:=K
  mg:=mg
  base:=base
  A:=A.deeper (envOfC qual scope s.heap.objs.size f cd)
  N:=N
  s₀:=s
  H₀:=H
  env:=envOfC qual scope s.heap.objs.size f cd
  outer:=outer
  stack:=envOfC qual scope s.heap.objs.size f cd::outer
  ex:=[]
  calm:=true
  fn:=fun _=>true
  pn:=[]
  xe:=fun e s' =>wpAny (model P w) (A.deeper (envOfC qual scope s.heap.objs.size f cd)) (leaving (envOfC qual scope s.heap.objs.size f cd) e) (fun _ s'' =>CX outer H s E e s'') (fun e' s'' =>CX outer H s E e' s'') s'
theorem cell_has {sc:Scope} {n:Nat} {x:Str} (h:sc.names.lookup x=some .cell):∃c,(cellsFrom n sc.names []).lookup x=some c:=by
  have q:=PySem.W.cellsFrom_some sc.names n [] (.inl h);exact Option.isSome_iff_exists.mp q
theorem inv_start {CX:CXT} {P:Program} {w:World} {K:PySem.W.Frag} {mg:Str→Option Value} {base:Heap} {N ps:List Str} {qual:Str} {scope:Scope} {f:Addr} {cd:Value} {A:Around} {outer:List Env} {s s1:Shared} {H:Hp} {E:XK} {us:List Value} {vs:List V}
    (S:FnScope N ps scope) (hd:A.handled=none) (e0:Env0 P w K mg base A outer s H) (hl:vs.length=ps.length) (r:Vals vs us)
    (x:InCallC s s.heap.objs.size (bindL (envOfC qual scope s.heap.objs.size f cd).kindOf (ps.zip us) fun _=>none) (cellsFrom (s.heap.objs.size+1) scope.names []) (bindC (envOfC qual scope s.heap.objs.size f cd).kindOf (ps.zip us) fun _=>none) s1):
    Inv (cxOf CX P w K mg base N qual scope f cd A outer s H E) [] (start N vs) H s1:=by
  have hpl:ps.length≤N.length:=by have:=congrArg List.length S.pre;rw[List.length_take] at this;omega
  obtain⟨h1,tk,rfl,hk⟩:=x.done;have noA:∀b:Addr,b∉(cxOf CX P w K mg base N qual scope f cd A outer s H E).ex:=fun b z=>absurd (show b∈([]:List Addr) from z) (by simp)
  refine⟨⟨e0.mod,S.kind,rfl,rfl,Nat.le_refl _,fun y z c h1 h2=> ?_,fun y hy=> ?_,fun y c _ h=> ?_,fun _=>hd,Around.frames_deeper e0.frames,.inr ⟨rfl,rfl⟩,fun b z=>absurd z (noA b),e0.bs,e0.bsz,fun b _ _=>noA b,fun b z=>absurd z (noA b),e0.funs,e0.frf⟩,
    rfl,e0.bare,Un.kept hk,⟨_,x.toInCall.ns,fun i y v h1 h2 h3=> ?_⟩,fun y c h=>⟨_,x.cell y c h⟩,e0.hok.fresh (Nat.le_refl _),fun y c h=> ?_,fun p hp=>absurd (show p∈([]:List (Addr×Obj)) from hp) (by simp),e0.hok.kept hk,?_⟩
  · exact name_of_addr x.apart (PySem.mem_of_lookup h1) (PySem.mem_of_lookup h2)
  · have hy:scope.names.lookup y=some .cell∨scope.names.lookup y=some .free:=hy
    rcases hy with hy|hy
    · exact cell_has hy
    · exact absurd rfl (S.nofree _ (PySem.mem_of_lookup hy))
  · exact Nat.le_of_lt (x.above y c (PySem.mem_of_lookup h))
  · have hi:i<vs.length:=by
      unfold start at h2;by_cases hi:i<vs.length
      · exact hi
      · rw[List.getElem?_append_right (by simpa using hi)] at h2
        rw[List.getElem?_replicate] at h2
        split at h2<;>cases h2
    have ha:vs[i]? =some v:=by
      unfold start at h2;rw[List.getElem?_append_left (by simpa using hi),List.getElem?_map] at h2
      cases e:vs[i]? with
      |none=>rw[e] at h2;cases h2
      |some a=>rw[e] at h2;cases h2;rfl
    obtain⟨u,hu,rv⟩:=r.get ha
    have hp:ps[i]? =some y:=by
      rw[←S.pre,List.getElem?_take_of_lt (by omega)];exact h1
    have ndP:ps.Nodup:=by rw[←S.pre];exact S.nd.sublist (List.take_sublist _ _)
    refine⟨u,rv,?_⟩;rcases S.par y (List.mem_of_getElem? hp) with k|k
    · exact .inl ⟨k,bindL_get ndP hp hu k⟩
    · obtain⟨c,e⟩:=cell_has (n:=s.heap.objs.size+1) k
      refine .inr ⟨.inl k,c,e,?_⟩;have q:=x.cell y c e;rw[bindC_get ndP hp hu (by show scope.names.lookup y≠_;rw[k];decide)] at q;exact q
  · exact e0.hok.fresh (Nat.le_of_lt (x.above y c (PySem.mem_of_lookup h)))
  · unfold start
    show _=N.length;rw[List.length_append,List.length_map,List.length_replicate];omega
theorem fn_of {CX:CXT} {P:Program} {w:World} {K:PySem.W.Frag} {mg:Str→Option Value} {base:Heap} {k:Nat} {f:Addr} {name qual:Str} {params:Arguments} {body:List Stmt} {scope:Scope} {dV kV doc pm cdv ct oc:Value} {an od:Option Addr}
    {osl:Array (Option Value)} {N ps:List Str} {sp:Sp} (lk:K.lookup f=some ⟨oc,od,.func (PySem.W.fnOf name qual params body scope dV kV doc pm an cdv ct),osl⟩) (hcd:PySem.W.codeIn K cdv qual=true) (S:FnScope N ps scope)
    (len:∀vs H Q E,sp vs H Q E→vs.length=ps.length)
    (hbody:∀(A:Around) (outer:List Env) (s:Shared) (H:Hp) (vs:List V) (Q:VK) (E:XK),Room k (A.deeper (envOfC qual scope s.heap.objs.size f cdv))→sp vs H Q E→
      ∃t,PSs (cxOf CX P w K mg base N qual scope f cdv A outer s H E) body t∧t {nx:=fun _ H' =>Q .non H',rt:=Q} (start N vs) H):
    FnOk P w K mg base CX (k+1) f (PySem.W.fnOf name qual params body scope dV kV doc pm an cdv ct) ps sp:=by
  refine⟨len,fun A outer s H args us vs Q E hr e0 hb r hsp=> ?_⟩;have hl:=len _ _ _ _ hsp;have KX:K.In s.heap:=e0.mod.kin.keeps fun b o e=>(e0.bs b o e).1;have lim:s.heap.NoLimit:=e0.mod.nolimit.keeps fun b o e=>(e0.bs b o e).1
  have hkind:∀y∈ps.zip us,scope.names.lookup y.1=some .local∨(scope.names.lookup y.1=some .cell∧((cellsFrom (s.heap.objs.size+1) scope.names []).lookup y.1).isSome=true):=fun⟨n,v⟩ hy=>by
    rcases S.par n (List.of_mem_zip hy).1 with q|q
    · exact .inl q
    · exact .inr ⟨q,PySem.W.cellsFrom_some _ _ _ (.inl q)⟩
  refine codeAny_call_function hr.depth (KX _ _ lk) rfl S.co S.gen rfl (PySem.W.codeRec_of KX hcd) (hb _ _ _ _ ?_);refine wpAny_newFunctionEnv_cells S.kind hkind fun env he s1 x=> ?_;subst he;refine⟨lim.keeps x.toInCall.keep,codeAny_func ?_⟩;obtain⟨t,ht,hq⟩:=hbody A outer s H vs Q E (hr.deeper _) hsp;have I:Inv (cxOf CX P w K mg base N qual scope f cdv A outer s H E) [] (start N vs) H s1:=inv_start S hr.hd e0 hl r x;refine wpAny_mono (ht [] s1 (start N vs) H _ I hq) (fun fl s' hs=> ?_) fun e s' hs=>hs
  have fin:∀{σ' :St} {H' :Hp} {v:V} {u:Value},Inv (cxOf CX P w K mg base N qual scope f cdv A outer s H E) [] σ' H' s'→RelV v u→Q v H'→CE outer P w H s Q u s' :=
    fun{σ' H' v u} J rv q=>⟨v,H',J.os,J.bare,J.base,J.hok,rv,q⟩
  cases fl with
  | ret u=>
    obtain⟨v,σ',H',J,rv,q⟩:=hs;exact fin J rv q
  | next=>
    obtain⟨σ',H',J,q⟩:=hs;exact fin (v:=V.non) (u:=Value.none) J rfl q
  | brk=>
    obtain⟨_,_,_,q⟩:=hs;exact False.elim q
  | cont=>
    obtain⟨_,_,_,q⟩:=hs;exact False.elim q
end L2
namespace L2
open PySem PySem.Spec PyProof.Rows
section
variable{X:Cx}{x:Str}{p pos:Pos}{e:Expr}{es:List Expr}{t:TA}{id T:String}{r:List V→Hp→VK→Prop}
def tCB(r:List V→Hp→VK→Prop)(t:TA):TE:=fun σ H Q=>t σ H fun vs H1=>r vs H1 Q
theorem pe_callB (hc:CallR X (.builtin id) r) (hg:Gl X x) (hm:X.mg x=none) (hv:bootBuiltins x=some (.builtin id)) (ha:PA X (e::es) t) (hn:x≠ "__name__":=by decide) (hdb:(x==("__debug__" :Str))=false:=by decide)
    (he:starEach (e::es) X.env=(false,eval e X.env)::starEach es X.env:=by rfl) (hpl:(backTo pos (starEach es X.env)).any (·.1)=false:=by rfl):PE X (.Call (.Name x p) (e::es) [] pos) (tCB r t):=by
  intro pins s σ H Q I h;refine wpAny_Call_Name_kw (ld_blt I hg hm hv ?_ hn hdb);exact PyProof.Rows.callWith_builtin1 (thn (ha pos pins s σ H _ I h) fun us s1 ⟨vs,H1,I1,r1,q1⟩=>hc pins s1 σ H1 vs us Q I1 r1 q1) he hpl
theorem pe_callTy (hc:CallR X (.type T) r) (hg:Gl X x) (hm:X.mg x=none) (hv:bootBuiltins x=some (.type T)) (ha:PA X (e::es) t) (hn:x≠ "__name__":=by decide) (hdb:(x==("__debug__" :Str))=false:=by decide)
    (he:starEach (e::es) X.env=(false,eval e X.env)::starEach es X.env:=by rfl) (hpl:(backTo pos (starEach es X.env)).any (·.1)=false:=by rfl):PE X (.Call (.Name x p) (e::es) [] pos) (tCB r t):=by
  intro pins s σ H Q I h;refine wpAny_Call_Name_kw (ld_blt I hg hm hv ?_ hn hdb);exact PyProof.Rows.callWith_type1 (thn (ha pos pins s σ H _ I h) fun us s1 ⟨vs,H1,I1,r1,q1⟩=>hc pins s1 σ H1 vs us Q I1 r1 q1) he hpl
end
end L2
namespace HT
open PySem PyProof.Rows
section
open PySem.SeqAt
open PySem.AutoSeq1 (wpAny_loadPart')
open PySem.MeetsSeq PySem.MeetsSeq2 PySem.MeetsSeq3
end
section
variable{prog:Program}{w:World}{A:Around}{E:Value→Shared→Prop}{s:Shared}
def sIx (n d:Nat):Option Int→Nat
  |none=>d
  |some v=>if v<0 then(v+(n:Int)).toNat else min v.toNat n
end
end HT
namespace L2
open PySem PySem.Spec PyProof.Rows
abbrev TO:=St→Hp→(Option Int→Hp→Prop)→Prop
def PO (X:Cx) (e:Option Expr) (t:TO):Prop:=
  ∀ (pins:List (Addr×Obj)) (s:Shared) (σ:St) (H:Hp) (Q:Option Int→Hp→Prop),Inv X pins σ H s→t σ H Q→
    wpAny (model X.prog X.w) X.A (evalPart e X.env) (fun u s' =>∃o H',Inv X pins σ H' s'∧IsPart u o∧Q o H') X.xe s
def tNoPart:TO:=fun _ H Q=>Q none H
def tPart(t:TE):TO:=fun σ H Q=>t σ H fun x H1=>∃i,x= .int i∧Q (some i) H1
section
variable{X:Cx}{e:Expr}{te:TE}{lo hi:Option Expr}{tl th:TO}{pos p2:Pos}
theorem po_none:PO X none tNoPart:=by
  intro pins s σ H Q I h;rw[evalPart_none];exact wpAny_pure ⟨none,H,I,.none,h⟩
theorem po_some (h:PE X e te):PO X (some e) (tPart te):=by
  intro pins s σ H Q I hw;rw[evalPart_some];refine thn (h pins s σ H _ I hw) fun u s1 ⟨x,H1,I1,r1,q1⟩=> ?_;obtain⟨i,rfl,q⟩:=q1;obtain⟨t,rfl⟩:=r1;exact⟨some i,H1,I1,.int i t,q⟩
def SlR (X:Cx) (r:V→Option Int→Option Int→Hp→VK→Prop):Prop:=
  ∀ (pins:List (Addr×Obj)) (s:Shared) (σ:St) (H:Hp) (x:V) (v vl vu:Value) (lo hi:Option Int) (sl:Addr) (Q:VK),Inv X pins σ H s→RelV x v→s.heap.IsSliceOf sl vl vu .none→IsPart vl lo→IsPart vu hi→r x lo hi H Q→
    ∃T id,typeLookup (.type T) "__getitem__"=pure (some (.builtin id))∧s.TypeIs v T∧wpAny (model X.prog X.w) X.A (getItem v (.ref sl)) (EP X pins σ Q) X.xe s
theorem SlR.or {r r' :V→Option Int→Option Int→Hp→VK→Prop} (h:SlR X r) (h' :SlR X r'):SlR X (fun x lo hi H Q=>r x lo hi H Q∨r' x lo hi H Q):=by
  intro pins s σ H x v vl vu lo hi sl Q I rx hs pl pu q;rcases q with q|q
  · exact h pins s σ H x v vl vu lo hi sl Q I rx hs pl pu q
  · exact h' pins s σ H x v vl vu lo hi sl Q I rx hs pl pu q
def tSl(r:V→Option Int→Option Int→Hp→VK→Prop)(te:TE)(tl th:TO):TE:=fun σ H Q=>te σ H fun x H1=>tl σ H1 fun l H2=>th σ H2 fun u H3=>r x l u H3 Q
theorem pe_slice {r:V→Option Int→Option Int→Hp→VK→Prop} (hr:SlR X r) (he:PE X e te) (hl:PO X lo tl) (hu:PO X hi th):PE X (.Subscript e (.Slice lo hi none p2) pos) (tSl r te tl th):=by
  intro pins s σ H Q I h;refine Subscript_ (thn (he pins s σ H _ I h) fun v s1 ⟨x,H1,I1,r1,q1⟩=> ?_);refine wpAny_Slice (thn (hl pins s1 σ H1 _ I1 q1) fun vl s2 ⟨l,H2,I2,pl,q2⟩=>thn (hu pins s2 σ H2 _ I2 q2) fun vu s3 ⟨u,H3,I3,pu,q3⟩=> ?_);rw[evalPart_none];refine wpAny_pure ?_;have I4:Inv X pins σ H3 {s3 with heap:=s3.heap.push {cls:= .type "slice",data:= .fields #[vl,vu,.none]}}:=I3.kept (t' :=s3.toks) fun b ob q=>Heap.get?_push_of_some _ q;obtain⟨T,id,hT,ht,hg⟩:=hr pins {s3 with heap:=s3.heap.push {cls:= .type "slice",data:= .fields #[vl,vu,.none]}} σ H3 x v vl vu l u s3.heap.objs.size Q I4 r1 (Heap.IsSliceOf.new ..) pl pu q3;show wpAny (model X.prog X.w) X.A (subscriptTail e (.Slice lo hi none p2) v (.ref s3.heap.objs.size)) (EP X pins σ Q) X.xe {s3 with heap:=s3.heap.push {cls:= .type "slice",data:= .fields #[vl,vu,.none]}};exact tail_any (ops:=[.ref s3.heap.objs.size,v]) ht hT hg (by with_unfolding_all rfl)
def cutV(xs:List V)(lo hi:Option Int):List V:=(xs.drop (HT.sIx xs.length 0 lo)).take (HT.sIx xs.length xs.length hi - HT.sIx xs.length 0 lo)
theorem cutV_length (xs:List V) (lo hi:Option Int):(cutV xs lo hi).length≤xs.length:=by
  unfold cutV;rw[List.length_take,List.length_drop];omega
end
end L2
namespace L2
open PySem PySem.Spec PyProof.Rows
def ixN(n:Nat)(i:Int):Option Nat:=if 0≤i then(if i<n then some i.toNat else none) else if -(n:Int)≤i then some (i+n).toNat else none
def atI{α:Type}(xs:List α)(i:Int):Option α:=(ixN xs.length i).bind fun j=>xs[j]?
theorem ixN_seq {n:Nat} {i:Int} {j:Nat} (h:ixN n i=some j):seqIndex? i n=some j∧j<n∧ -(n:Int)≤i∧i<n:=by
  unfold ixN at h;by_cases h0:0≤i
  · rw[if_pos h0] at h
    by_cases h1:i<n
    · rw[if_pos h1] at h
      have e:i.toNat=j:=Option.some.inj h;exact⟨by rw[seqIndex_of h0 h1,e],by omega,by omega,h1⟩
    · rw[if_neg h1] at h;cases h
  · rw[if_neg h0] at h
    by_cases h1: -(n:Int)≤i
    · rw[if_pos h1] at h
      have e:(i+n).toNat=j:=Option.some.inj h;exact⟨by rw[seqIndex_neg (by omega) h1,e],by omega,h1,by omega⟩
    · rw[if_neg h1] at h;cases h
theorem atI_get {α:Type} {xs:List α} {i:Int} {v:α} (h:atI xs i=some v):∃j,seqIndex? i xs.length=some j∧xs[j]? =some v∧j<xs.length∧ -(xs.length:Int)≤i∧i<xs.length:=by
  unfold atI at h
  cases e:ixN xs.length i with
  |none=>rw[e] at h;cases h
  | some j=>
    rw[e] at h;obtain⟨h1,h2,h3,h4⟩:=ixN_seq e;exact⟨j,h1,h,h2,h3,h4⟩
theorem atI_nat {α:Type} {xs:List α} {j:Nat} {v:α} (h:xs[j]? =some v):atI xs (j:Int)=some v:=by
  have hj:j<xs.length:=(List.getElem?_eq_some_iff.mp h).1
  have e:ixN xs.length (j:Int)=some j:=by
    unfold ixN;rw[if_pos (by omega),if_pos (by omega)];simp
  unfold atI;rw[e];exact h
theorem atI_last {α:Type} (xs:List α) (v:α):atI (xs++[v]) (-1)=some v:=by
  have hl:(xs++[v]).length=xs.length+1:=by simp
  have e:ixN (xs++[v]).length (-1)=some xs.length:=by
    unfold ixN;rw[hl,if_neg (by decide),if_pos (by omega)]
    congr 1
    omega
  unfold atI;rw[e];show(xs++[v])[xs.length]? =some v;simp
def PlainIx(b:Expr):Prop:=∀o i,subscripted b false o i=operate [o,i] (getItem o i)
def IxR (X:Cx) (r:R2):Prop:=
  ∀ (value slice:Expr) (pins:List (Addr×Obj)) (s:Shared) (σ:St) (H:Hp) (x y:V) (v u:Value) (Q:VK),Inv X pins σ H s→RelV x v→RelV y u→r x y H Q→
    subscripted slice false v u=operate [v,u] (getItem v u)→wpAny (model X.prog X.w) X.A (subscriptTail value slice v u) (EP X pins σ Q) X.xe s
def MtR (X:Cx) (id:String) (r:V→List V→Hp→VK→Prop):Prop:=
  ∀ (pins:List (Addr×Obj)) (s:Shared) (σ:St) (H:Hp) (x:V) (xs:List V) (v:Value) (us:List Value) (Q:VK),Inv X pins σ H s→RelV x v→Vals xs us→r x xs H Q→
    wpAny (model X.prog X.w) X.A (call (.builtin id) (v::us)) (EP X pins σ Q) X.xe s
section
variable{X:Cx}{a b:Expr}{ta tb:TE}{pos:Pos}
theorem IxR.or {r r' :R2} (h:IxR X r) (h' :IxR X r'):IxR X (fun x y H Q=>r x y H Q∨r' x y H Q):=by
  intro value slice pins s σ H x y v u Q I rx ry q hs;rcases q with q|q
  · exact h value slice pins s σ H x y v u Q I rx ry q hs
  · exact h' value slice pins s σ H x y v u Q I rx ry q hs
theorem MtR.or {id:String} {r r' :V→List V→Hp→VK→Prop} (h:MtR X id r) (h' :MtR X id r'):MtR X id (fun x xs H Q=>r x xs H Q∨r' x xs H Q):=by
  intro pins s σ H x xs v us Q I rx rs q;rcases q with q|q
  · exact h pins s σ H x xs v us Q I rx rs q
  · exact h' pins s σ H x xs v us Q I rx rs q
theorem pe_ix {r:R2} (hr:IxR X r) (ha:PE X a ta) (hb:PE X b tb) (hs:PlainIx b):PE X (.Subscript a b pos) (tOp r ta tb):=by
  intro pins s σ H Q I h;exact Subscript_ (binT ha hb I h fun v u s2 x y H2 I2 rx ry q=>hr a b pins s2 σ H2 x y v u Q I2 rx ry q (hs _ _))
def rIxL(K:PySem.W.Frag):R2:=fun x y H Q=>∃p xs i v,x= .ref p∧y= .int i∧SqL K H p xs∧atI xs i=some v∧Q v H
def rIxT(K:PySem.W.Frag):R2:=fun x y H Q=>∃p xs i v,x= .ref p∧y= .int i∧SqT K H p xs∧atI xs i=some v∧Q v H
theorem ix_list:IxR X (rIxL X.K):=by
  intro value slice pins s σ H x y v u Q I rx ry h hs;obtain⟨p,xs,i,z,rfl,rfl,hq,he,q⟩:=h;cases rx;obtain⟨t,rfl⟩:=ry;obtain⟨its,r,pl,hz⟩:=I.list hq;obtain⟨j,h1,h2,h3,h4,h5⟩:=atI_get he;obtain⟨w,ew,rw'⟩:=r.get h2;have hl:=r.length;have hn:=line63;have fin:EP X pins σ Q w s:=⟨z,H,I,rw',q⟩;by_cases h0:0≤i
  · have hj:i.toNat=j:=by
      rw[seqIndex_of h0 h5] at h1;exact Option.some.inj h1
    exact item_listR pl.isList h0 (by omega) (by rw[hj];simpa using ew) fin hs
  · have hj:(i+(its.toArray.size:Int)).toNat=j:=by
      rw[seqIndex_neg (by omega) h4] at h1;rw[List.size_toArray,←hl];exact Option.some.inj h1
    exact subscriptTail_builtinR (x:=w) pl.isList.typeIs slot_list_getitem.lookup
      (wpAny_getItem_list_neg (Q:=fun r s' =>r=w∧EP X pins σ Q r s') pl.isList (by omega) (by rw[List.size_toArray]<;>omega) (by omega) (by rw[hj];simpa using ew) ⟨rfl,fin⟩) hs
theorem ix_tup:IxR X (rIxT X.K):=by
  intro value slice pins s σ H x y v u Q I rx ry h hs;obtain⟨p,xs,i,z,rfl,rfl,hq,he,q⟩:=h;cases rx;obtain⟨t,rfl⟩:=ry;obtain⟨its,r,pl,hz⟩:=I.tuple hq;obtain⟨j,h1,h2,h3,h4,h5⟩:=atI_get he;obtain⟨w,ew,rw'⟩:=r.get h2;have hl:=r.length;have hn:=line63;have fin:EP X pins σ Q w s:=⟨z,H,I,rw',q⟩
  exact subscriptTail_builtinR (x:=w) pl.typeIs slot_tuple_getitem.lookup
    (getItem_tuple (j:=j) (Q:=fun r s' =>r=w∧EP X pins σ Q r s') pl (by omega) (by omega) (by rw[List.size_toArray,←hl];exact h1) (by simpa using ew) ⟨rfl,fin⟩) hs
theorem mapSeq_set (its:List Value) (n j:Nat) (u:Value):Obj.mapSeq (·.setIfInBounds j u) {cls:= .type "list",data:= .seq its.toArray n}={cls:= .type "list",data:= .seq (its.set j u).toArray n}:=by
  simp[Obj.mapSeq]
theorem Inv.lst {pins:List (Addr×Obj)} {σ:St} {H:Hp} {s:Shared} {p:Addr} {xs:List V} (I:Inv X pins σ H s) (h:H p=some (.lst xs)):
    ∃(its:List Value) (n:Nat),Vals xs its∧s.heap.get? p=some {cls:= .type "list",data:= .seq its.toArray n}∧xs.length≤sizeLine:=by
  obtain⟨z,its,n,r,e⟩:=I.hok p _ h;exact⟨its,n,r,e,z⟩
theorem Inv.lstUpd {pins:List (Addr×Obj)} {σ:St} {H:Hp} {s:Shared} {p:Addr} {xs ys:List V} {its its' :List Value} {n n' :Nat} {f:Obj→Obj} (I:Inv X pins σ H s) (h:H p=some (.lst xs))
    (ho:s.heap.get? p=some {cls:= .type "list",data:= .seq its.toArray n}) (hf:f {cls:= .type "list",data:= .seq its.toArray n}={cls:= .type "list",data:= .seq its'.toArray n'}) (r:Vals ys its') (hz:ys.length≤sizeLine) (t:Nat):
    Inv X pins σ (upd H p (.lst ys)) {s with heap:=s.heap.update p f,toks:=t}:=by
  have e:(s.heap.update p f).get? p=some {cls:= .type "list",data:= .seq its'.toArray n'}:=by
    rw[Heap.get?_update_self f ho (by rw[hf]<;>rfl),hf]
  refine I.write (x:=p) (e:=p) (by rw[h];trivial) (.inl rfl) (fun b u hb q=>(Heap.get?_update_other _ _ (Ne.symm hb)).trans q) ⟨_,e⟩ ?_;exact⟨hz,its',n',r,e⟩
def rSetL:V→V→V→Hp→(Hp→Prop)→Prop:=fun o i v H Q=>∃p xs k j,o= .ref p∧i= .int k∧H p=some (.lst xs)∧ixN xs.length k=some j∧Q (upd H p (.lst (xs.set j v)))
theorem set_list:PSet X rSetL:=by
  intro pins s σ H o i v ov iv u Q I ro ri rv h;obtain⟨p,xs,k,j,rfl,rfl,hp,hj,q⟩:=h;cases ro;obtain⟨t,rfl⟩:=ri;obtain⟨its,n,r,ho,hz⟩:=I.lst hp;obtain⟨h1,h2,h3,h4⟩:=ixN_seq hj;have hl:=r.length;have hn:=line63
  have I' :Inv X pins σ (upd H p (.lst (xs.set j v))) {s with heap:=s.heap.update p (Obj.mapSeq (·.setIfInBounds j u))}:=
    I.lstUpd hp ho (mapSeq_set its n j u) (r.set rv j) (by rw[List.length_set];exact hz) s.toks
  by_cases h0:0≤k
  · have hk:k.toNat=j:=by
      rw[seqIndex_of h0 h4] at h1;exact Option.some.inj h1
    exact PySem.W.ki_setAt ho h0 (by omega) (by rw[List.size_toArray,←hl];exact h4) (by rw[hk];exact⟨_,I',q⟩)
  · have hk:(k+(its.toArray.size:Int)).toNat=j:=by
      rw[seqIndex_neg (by omega) h3] at h1;rw[List.size_toArray,←hl];exact Option.some.inj h1
    exact PySem.W.ki_setBack ho (by omega) (by rw[List.size_toArray,←hl];exact h3) (by omega) (by rw[hk];exact⟨_,I',q⟩)
theorem slice_bounds (lo hi:Option Int) (n:Nat):(sliceBounds lo hi none n).1=((HT.sIx n 0 lo:Nat):Int)∧(sliceBounds lo hi none n).2.1=((HT.sIx n n hi:Nat):Int)∧(sliceBounds lo hi none n).2.2=1:=by
  refine⟨?_,?_,rfl⟩
  · cases lo with
    |none=>simp[sliceBounds,HT.sIx]
    | some i=>
      simp only[sliceBounds,HT.sIx,Option.getD_none,show(1:Int)>0 by decide,if_true];by_cases h:i<0
      · simp only[h,if_true]<;>omega
      · simp only[h,if_false]<;>omega
  · cases hi with
    |none=>simp[sliceBounds,HT.sIx]
    | some i=>
      simp only[sliceBounds,HT.sIx,Option.getD_none,show(1:Int)>0 by decide,if_true];by_cases h:i<0
      · simp only[h,if_true]<;>omega
      · simp only[h,if_false]<;>omega
theorem slicePick_cut (its:List Value) (lo hi:Option Int):slicePick its.toArray lo hi none=((its.drop (HT.sIx its.length 0 lo)).take (HT.sIx its.length its.length hi - HT.sIx its.length 0 lo)).toArray:=by
  obtain⟨h1,h2,h3⟩:=slice_bounds lo hi its.toArray.size;unfold slicePick;rw[h1,h2,h3];simp only[sliceRange_one,pick_run,List.size_toArray]<;>rfl
def rSlL(K:PySem.W.Frag):V→Option Int→Option Int→Hp→VK→Prop:=fun x lo hi H Q=>∃a xs,x= .ref a∧SqL K H a xs∧∀p,H p=none→Q (.ref p) (upd H p (.lst (cutV xs lo hi)))
theorem sl_list:SlR X (rSlL X.K):=by
  intro pins s σ H x v vl vu lo hi sl Q I rx hs pl pu h;obtain⟨a,xs,rfl,hx,q⟩:=h;cases rx;obtain⟨its,r,ht,hz⟩:=I.list hx;have hlen:=r.length;refine⟨"list",_,slot_list_getitem.lookup,ht.isList.typeIs,?_⟩;refine wpAny_getItem_list_slice ht.isList hs pl pu .none (by simp) ?_ (by rw[List.size_toArray]<;>omega);rw[slicePick_cut,←hlen];refine⟨.ref s.heap.objs.size,_,I.laid (t' :=s.toks) (o:= .lst (cutV xs lo hi)) (fun b ob q=>Heap.get?_push_of_some _ q) (Nat.le_refl _) ?_,rfl,q _ (I.hok.fresh (Nat.le_refl _))⟩;exact⟨Nat.le_trans (cutV_length xs lo hi) hz,_,0,(r.drop (HT.sIx xs.length 0 lo)).take (HT.sIx xs.length xs.length hi - HT.sIx xs.length 0 lo),Heap.get?_push_size _ rfl⟩
def flatV:V→Bool
  | .non=>true
  | .bl _=>true
  | .int _=>true
  | .str _=>true
  |_=>false
def eqV:V→V→Bool
  | .non,.non=>true
  | .bl a,.bl b=>a==b
  | .bl a,.int b=>(if a then 1 else 0)==b
  | .int a,.bl b=>a==(if b then 1 else 0)
  | .int a,.int b=>a==b
  | .str a,.str b=>a==b
  |_,_=>false
theorem eqAt_V {A:Around} {s:Shared} {y x:V} {u v:Value} (ry:RelV y u) (rx:RelV x v) (fy:flatV y=true) (fx:flatV x=true):SeqAt.EqAt A s u v (eqV y x):=by
  cases y with
  | non=>
    cases ry
    cases x with
    |non=>cases rx;exact SeqAt.EqAt.same _
    |bl b=>cases rx;exact SeqAt.EqAt.none_bool b
    |int b=>obtain⟨t,rfl⟩:=rx;exact SeqAt.EqAt.none_int b t
    |str b=>obtain⟨t,rfl⟩:=rx;exact SeqAt.EqAt.none_str b t
    |_=>exact absurd (show false=true from fx) Bool.false_ne_true
  | bl a=>
    cases ry
    cases x with
    |non=>cases rx;exact SeqAt.EqAt.bool_none a
    |bl b=>cases rx;exact SeqAt.EqAt.bool_bool a b
    |int b=>obtain⟨t,rfl⟩:=rx;exact SeqAt.EqAt.bool_int a b t
    |str b=>obtain⟨t,rfl⟩:=rx;exact SeqAt.EqAt.bool_str a b t
    |_=>exact absurd (show false=true from fx) Bool.false_ne_true
  | int a=>
    obtain⟨t',rfl⟩:=ry
    cases x with
    |non=>cases rx;exact SeqAt.EqAt.int_none a t'
    |bl b=>cases rx;exact SeqAt.EqAt.int_bool a t' b
    |int b=>obtain⟨t,rfl⟩:=rx;exact SeqAt.EqAt.int_int a t' b t
    |str b=>obtain⟨t,rfl⟩:=rx;exact SeqAt.EqAt.int_str a t' b t
    |_=>exact absurd (show false=true from fx) Bool.false_ne_true
  | str a=>
    obtain⟨t',rfl⟩:=ry
    cases x with
    |non=>cases rx;exact SeqAt.EqAt.str_none a t'
    |bl b=>cases rx;exact SeqAt.EqAt.str_bool a t' b
    |int b=>obtain⟨t,rfl⟩:=rx;exact SeqAt.EqAt.str_int a t' b t
    |str b=>obtain⟨t,rfl⟩:=rx;exact SeqAt.EqAt.str_str a t' b t
    |_=>exact absurd (show false=true from fx) Bool.false_ne_true
  |_=>exact absurd (show false=true from fy) Bool.false_ne_true
def eqU (x:V) (u:Value):Bool:=match u with
  | .none=>eqV .non x
  | .bool b=>eqV (.bl b) x
  | .int i _=>eqV (.int i) x
  | .str z _=>eqV (.str z) x
  |_=>false
theorem eqU_of {x y:V} {u:Value} (r:RelV y u) (f:flatV y=true):eqU x u=eqV y x:=by
  cases y with
  |non=>cases r;rfl
  |bl b=>cases r;rfl
  |int i=>obtain⟨t,rfl⟩:=r;rfl
  |str z=>obtain⟨t,rfl⟩:=r;rfl
  |_=>exact absurd (show false=true from f) Bool.false_ne_true
theorem any_eqU {x:V}:∀{xs:List V} {us:List Value},Vals xs us→xs.all flatV=true→us.any (eqU x)=xs.any fun y=>eqV y x
  |_,_,.nil,_=>rfl
  | y::xs,u::us,.cons r t,f=>by
    rw[List.all_cons,Bool.and_eq_true] at f;rw[List.any_cons,List.any_cons,eqU_of r f.1,any_eqU t f.2]
theorem mem_eqAt {A:Around} {s:Shared} {x:V} {v:Value} (rx:RelV x v) (fx:flatV x=true):∀{xs:List V} {us:List Value},Vals xs us→xs.all flatV=true→∀u∈us,SeqAt.EqAt A s u v (eqU x u)
  |_,_,.nil,_=>fun u hu=>by cases hu
  | y::xs,u::us,.cons r t,f=>fun u' hu=>by
    rw[List.all_cons,Bool.and_eq_true] at f;rcases List.mem_cons.mp hu with rfl|hu
    · rw[eqU_of r f.1];exact eqAt_V r rx f.1 fx
    · exact mem_eqAt rx fx t f.2 u' hu
def inV(x:V)(xs:List V):Bool:=xs.any fun y=>eqV y x
def rIn(K:PySem.W.Frag)(neg:Bool):R2:=fun x y H Q=>∃p xs,y= .ref p∧(SqL K H p xs∨SqT K H p xs)∧flatV x=true∧xs.all flatV=true∧Q (.bl (if neg then !inV x xs else inV x xs)) H
theorem op_in_seq:OpR X (compareOp .In) (rIn X.K false):=by
  intro pins s σ H x y v u Q I rx ry h;obtain⟨p,xs,rfl,hq,fx,fs,q⟩:=h;cases ry;rcases hq with hq|hq
  · obtain⟨its,r,pl,hz⟩:=I.list hq
    refine SeqAt.in_listAt (eqU x) pl.isList (fun w hw=>mem_eqAt rx fx r fs w (by simpa using hw)) ⟨.bl _,H,I,rfl,?_⟩;rw[show its.toArray.any (eqU x)=its.any (eqU x) by simp,any_eqU r fs];exact q
  · obtain⟨its,r,pl,hz⟩:=I.tuple hq
    refine SeqAt.in_tupleAt (eqU x) pl (fun w hw=>mem_eqAt rx fx r fs w (by simpa using hw)) ⟨.bl _,H,I,rfl,?_⟩;rw[show its.toArray.any (eqU x)=its.any (eqU x) by simp,any_eqU r fs];exact q
theorem call_len_seq:CallR X (.builtin "len") (fun xs H Q=>∃p ys,xs=[.ref p]∧(SqL X.K H p ys∨SqT X.K H p ys)∧Q (.int ys.length) H):=by
  intro pins s σ H xs us Q I r h;obtain⟨p,ys,rfl,hq,q⟩:=h;obtain⟨u,rfl,rx⟩:=vals1 r;cases rx;have hn:=line63;rcases hq with hq|hq
  · obtain⟨its,r',pl,hz⟩:=I.list hq
    have hlen:=r'.length;exact Calls.call_len_list pl.isList (by simp only[List.size_toArray]<;>omega) ⟨.int ys.length,H,I.tok _,⟨s.toks+1,by rw[List.size_toArray,hlen]⟩,q⟩
  · obtain⟨its,r',pl,hz⟩:=I.tuple hq
    have hlen:=r'.length;exact len_tuple pl (by simp only[List.size_toArray]<;>omega) ⟨.int ys.length,H,I.tok _,⟨s.toks+1,by rw[List.size_toArray,hlen]⟩,q⟩
theorem CallR.or {f:Value} {r r' :List V→Hp→VK→Prop} (h:CallR X f r) (h' :CallR X f r'):CallR X f (fun xs H Q=>r xs H Q∨r' xs H Q):=by
  intro pins s σ H xs us Q I rs q;rcases q with q|q
  · exact h pins s σ H xs us Q I rs q
  · exact h' pins s σ H xs us Q I rs q
theorem call_list_of:CallR X (.type "list") (fun xs H Q=>∃p ys,xs=[.ref p]∧(SqL X.K H p ys∨SqT X.K H p ys)∧∀l,H l=none→Q (.ref l) (upd H l (.lst ys))):=by
  intro pins s σ H xs us Q I r h;obtain⟨p,ys,rfl,hq,q⟩:=h;obtain⟨u,rfl,rx⟩:=vals1 r;cases rx
  have fin:∀(its:List Value),Vals ys its→ys.length≤sizeLine→∀(h' :Heap) (c' :Nat),(∀b o',s.heap.get? b=some o'→h'.get? b=some o')→
      h'.get? s.heap.objs.size=some {cls:= .type "list",dict:=none,data:= .seq its.toArray c',slots:= #[]}→EP X pins σ Q (.ref s.heap.objs.size) {s with heap:=h'}:=fun its r' hz h' c' kp e=>
    ⟨.ref s.heap.objs.size,_,I.laid (t' :=s.toks) kp (Nat.le_refl _) (show ObjOk X.prog X.w _ h' _ (.lst ys) from⟨hz,its,c',r',e⟩),rfl,q _ (I.hok.fresh (Nat.le_refl _))⟩
  rcases hq with hq|hq
  · obtain⟨its,r',pl,hz⟩:=I.list hq
    have hlen:=r'.length;obtain⟨o,ho,hc,n,hd⟩:=pl.isList;exact call_list_seq p (.inl rfl) ho hc hd (fun h' c' kp e=>fin its r' hz h' c' kp e) (by simp only[List.size_toArray]<;>omega)
  · obtain⟨its,r',pl,hz⟩:=I.tuple hq
    have hlen:=r'.length;obtain⟨o,ho,hc,n,hd⟩:=pl;exact call_list_seq p (.inr rfl) ho hc hd (fun h' c' kp e=>fin its r' hz h' c' kp e) (by simp only[List.size_toArray]<;>omega)
def tyV (K:PySem.W.Frag) (T:String) (x:V) (H:Hp):Prop:=match x with
  | .str _=>T="str"
  | .int _=>T="int"
  | .ref p=>(T="list" ∧∃xs,SqL K H p xs)∨(T="tuple" ∧∃o,K.lookup p=some o∧o.cls= .type "tuple" ∧o.dict=none)∨
      (T="dict" ∧((∃kvs,H p=some (.dK kvs))∨∃kvs,H p=some (.dT kvs)))∨(T="set" ∧∃S n,H p=some (.set S n))
  |_=>False
theorem tyV_is {pins:List (Addr×Obj)} {σ:St} {H:Hp} {s:Shared} {T:String} {x:V} {v:Value} (I:Inv X pins σ H s) (r:RelV x v) (ty:tyV X.K T x H):
    s.TypeIs v T∧∀a,v= .ref a→∃ob,s.heap.get? a=some ob∧ob.dict=none:=by
  cases x with
  | str z=>
    obtain⟨t,rfl⟩:=r;cases(show T="str" from ty);exact⟨typeIs_str s z t,fun _ e=>nomatch e⟩
  | int i=>
    obtain⟨t,rfl⟩:=r;cases(show T="int" from ty);exact⟨typeIs_int s i t,fun _ e=>nomatch e⟩
  | ref p =>
    cases r;rcases ty with⟨rfl,xs,hq⟩|⟨rfl,o,hk,hc,hd⟩|⟨rfl,hk⟩|⟨rfl,S,n,hk⟩
    · obtain⟨its,_,pl,_⟩:=I.list hq
      refine⟨pl.isList.typeIs,fun a e=> ?_⟩;cases e;obtain⟨o,n,e,c,hd,_⟩:=pl;exact⟨o,e,hd⟩
    · refine⟨⟨o,I.kIn p o hk,hc⟩,fun a e=> ?_⟩
      cases e;exact⟨o,I.kIn _ o hk,hd⟩
    · have z:∃o,s.heap.get? p=some o∧o.ExactDict:=by
        rcases hk with⟨kvs,hk⟩|⟨kvs,hk⟩
        · obtain⟨_,_,_,_,o,_,_,e,ex,_⟩:=I.hok p _ hk
          exact⟨o,e,ex⟩
        · obtain⟨_,_,_,_,o,_,_,e,ex,_⟩:=I.hok p _ hk
          exact⟨o,e,ex⟩
      obtain⟨o,e,ex⟩:=z;refine⟨⟨o,e,ex.1⟩,fun a e2=> ?_⟩;cases e2;exact⟨o,e,ex.2.1⟩
    · obtain⟨o,_,_,_,e,ex,_⟩:=I.hok p _ hk
      refine⟨⟨o,e,ex.1⟩,fun a e2=> ?_⟩;cases e2;exact⟨o,e,ex.2.1⟩
  |_=>exact False.elim ty
def tBM0(K:PySem.W.Frag)(T:String)(r:V→List V→Hp→VK→Prop)(to:TE):TE:=fun σ H Q=>to σ H fun x H1=>tyV K T x H1∧r x [] H1 Q
def tBM(K:PySem.W.Frag)(T:String)(r:V→List V→Hp→VK→Prop)(to:TE)(t:TA):TE:=fun σ H Q=>to σ H fun x H1=>tyV K T x H1∧t σ H1 fun xs H2=>r x xs H2 Q
variable{o e:Expr}{es:List Expr}{to:TE}{t:TA}{name:Str}{apos cpos:Pos}{T id:String}{r:V→List V→Hp→VK→Prop}
theorem pe_bm0 (pa:PlainAttrs T) (slot:Slot T name id) (hty:typeOf (.builtin id)=pure (.type "method_descriptor")) (hm:MtR X id r) (ho:PE X o to)
    (hbase:attributeBase o name X.env (eval o X.env)=eval o X.env:=by rfl) (hline:(apos.endLine==cpos.line)=true:=by rfl):PE X (.Call (.Attribute o name apos) [] [] cpos) (tBM0 X.K T r to):=by
  intro pins s σ H Q I h;refine wpAny_Call_method0_late hbase hline (thn (ho pins s σ H _ I h) fun v s1 ⟨x,H1,I1,r1,ty,q1⟩=> ?_);obtain⟨h1,h2⟩:=tyV_is I1 r1 ty;exact⟨T,id,pa,slot,hty,h1,h2,Calls.callWith_builtin rfl (PySem.evalArgs_none (hm pins s1 σ H1 x [] v [] Q I1 r1 .nil q1))⟩
theorem pe_bm (pa:PlainAttrs T) (slot:Slot T name id) (hty:typeOf (.builtin id)=pure (.type "method_descriptor")) (hm:MtR X id r) (ho:PE X o to) (ha:PA X (e::es) t)
    (hbase:attributeBase o name X.env (eval o X.env)=eval o X.env:=by rfl)
    (hfew:((backTo cpos (starEach (e::es) X.env)).all (fun x=> !x.1)&&(backToKw cpos (keywordEach [] X.env)).all (fun x=>x.1.isSome)
      &&decide ((e::es).length+([]:List Keyword).length+(if([]:List Keyword).isEmpty then 0 else 1)<30))=true:=by rfl)
    (hline:(apos.endLine==cpos.line)=true:=by rfl) (hs:starEach (e::es) X.env=(false,eval e X.env)::starEach es X.env:=by rfl) (hplain:(backTo cpos (starEach es X.env)).any (·.1)=false:=by rfl):
    PE X (.Call (.Attribute o name apos) (e::es) [] cpos) (tBM X.K T r to t):=by
  intro pins s σ H Q I h;refine wpAny_Call_method_late hbase hfew hline rfl (thn (ho pins s σ H _ I h) fun v s1 ⟨x,H1,I1,r1,ty,q1⟩=> ?_);obtain⟨h1,h2⟩:=tyV_is I1 r1 ty;refine⟨T,id,pa,slot,hty,h1,h2,?_⟩;have hA:=ha cpos pins s1 σ H1 _ I1 q1;rw[hs] at hA ⊢;refine Calls.callWith_builtin (by show(false||(backTo cpos (starEach es X.env)).any (·.1))=false;rw[hplain]<;>rfl) (Calls.evalArgs_plain ?_);exact thn hA fun us s2 ⟨vs,H2,I2,r2,q2⟩=>hm pins s2 σ H2 x vs v us Q I2 r1 r2 q2
end
end L2
namespace L2
open PySem PySem.Spec PyProof.Rows
def MtM (X:Cx) (id:String) (r:V→List V→Hp→VK→Prop):Prop:=
  ∀ (pins:List (Addr×Obj)) (s:Shared) (σ:St) (H:Hp) (x:V) (xs:List V) (v:Value) (us:List Value) (Q:VK),Inv X pins σ H s→RelV x v→Vals xs us→r x xs H Q→
    wpAny (model X.prog X.w) X.A (call (.builtin id) (v::us)) (EP X pins σ Q) X.xe s
theorem Vals.one:∀{x:V} {us:List Value},Vals [x] us→∃u,us=[u]∧RelV x u
  |_,_,.cons r .nil=>⟨_,rfl,r⟩
theorem Vals.two:∀{x y:V} {us:List Value},Vals [x,y] us→∃u v,us=[u,v]∧RelV x u∧RelV y v
  |_,_,_,.cons r (.cons q .nil)=>⟨_,_,rfl,r,q⟩
theorem Vals.zero:∀{us:List Value},Vals [] us→us=[]
  |_,.nil=>rfl
theorem Vals.reverse {xs:List V} {us:List Value} (h:Vals xs us):Vals xs.reverse us.reverse:=by
  induction h with
  |nil=>exact .nil
  |cons r t ih=>rw[List.reverse_cons,List.reverse_cons];exact Vals.append ih (.cons r .nil)
theorem Vals.rep {xs:List V} {us:List Value} (h:Vals xs us):∀k:Nat,Vals (List.replicate k xs).flatten (List.replicate k us).flatten
  |0=> .nil
  | k+1=>by
    rw[List.replicate_succ,List.replicate_succ,List.flatten_cons,List.flatten_cons];exact Vals.append h (Vals.rep h k)
theorem foldl_rep (its:List Value):∀(k:Nat) (acc:List Value),
    List.foldl (fun x1 x2=>x1++x2) acc.toArray (List.replicate k its.toArray)=(acc++(List.replicate k its).flatten).toArray
  |0,acc=>by simp
  | k +1,acc=>by
    have e:acc.toArray++its.toArray=(acc++its).toArray:=by simp
    have e2:(acc++its)++(List.replicate k its).flatten=acc++(List.replicate (k+1) its).flatten:=by
      rw[List.replicate_succ,List.flatten_cons,List.append_assoc]
    rw[←e2,←foldl_rep its k (acc++its),←e,List.replicate_succ,List.foldl_cons]
section
variable{X:Cx}{pins:List (Addr×Obj)}{σ:St}{H:Hp}{s:Shared}{l b:Addr}{xs ys zs:List V}
theorem Inv.lset {its its' :List Value} {n:Nat} {f:Array Value→Array Value} {t' :Nat} (I:Inv X pins σ H s) (hH:H l=some (.lst xs))
    (e:s.heap.get? l=some {cls:= .type "list",data:= .seq its.toArray n}) (hf:f its.toArray=its'.toArray) (hv:Vals ys its') (hz:ys.length≤sizeLine):
    Inv X pins σ (upd H l (.lst ys)) {s with heap:=s.heap.update l (Obj.mapSeq f),toks:=t'}:=by
  have q:=PySem.IsL.update e f;rw[hf] at q;refine I.write (x:=l) (e:=l) (by rw[hH];exact trivial) (.inl rfl) (fun b' u hb hu=>(Heap.get?_update_other s.heap (Obj.mapSeq f) (Ne.symm hb)).trans hu) ⟨_,q⟩ ?_;exact⟨hz,its',_,hv,q⟩
theorem Inv.lnew {its:List Value} {t' :Nat} (I:Inv X pins σ H s) (hv:Vals ys its) (hz:ys.length≤sizeLine):
    Inv X pins σ (upd H s.heap.objs.size (.lst ys)) {s with heap:=s.heap.push {cls:= .type "list",data:= .seq its.toArray},toks:=t'}:=
  I.laid (fun _ _ q=>Heap.get?_push_of_some _ q) (Nat.le_refl _) ⟨hz,its,0,hv,Heap.get?_push_size _ rfl⟩
theorem Inv.fresh(I:Inv X pins σ H s):H s.heap.objs.size=none:=I.hok.fresh (Nat.le_refl _)
theorem Inv.lstM (I:Inv X pins σ H s) (hH:H l=some (.lst xs)):xs.length≤sizeLine∧∃(its:List Value) (n:Nat),Vals xs its∧xs.length=its.length∧s.heap.get? l=some {cls:= .type "list",data:= .seq its.toArray n}:=by
  obtain⟨z,its,n,r,e⟩:=I.hok l _ hH;exact⟨z,its,n,r,r.length,e⟩
theorem notLongL {n:Nat} (h:n≤sizeLine):Builtin.List.listTooLong n=false:=by
  unfold Builtin.List.listTooLong;exact decide_eq_false (by omega)
end
section
variable{X:Cx}
def rAppend:V→List V→Hp→VK→Prop:=fun x vs H Q=>∃l xs y,x= .ref l∧vs=[y]∧H l=some (.lst xs)∧xs.length<sizeLine∧Q .non (upd H l (.lst (xs++[y])))
theorem mt_append:MtM X "list.append" rAppend:=by
  intro pins s σ H x vs v us Q I rx rv h;obtain⟨l,xs,y,rfl,rfl,hH,hz,q⟩:=h;cases rx;obtain⟨u,rfl,ru⟩:=rv.one;obtain⟨z,its,n,r,hl,e⟩:=I.lstM hH;refine call_meets F.slot_list_append ⟨_,e,rfl⟩ F.entry_list_append (F.args_list_append_2 _ _) (PySem.list_append l its.toArray n u (by rw[List.size_toArray];omega)) ⟨e,?_⟩;refine⟨.non,_,I.lset (its' :=its++[u]) hH e (by simp) (r.append (.cons ru .nil)) ?_,rfl,q⟩;rw[List.length_append,List.length_singleton];omega
def rExtend:V→List V→Hp→VK→Prop:=fun x vs H Q=>∃l b xs zs,x= .ref l∧vs=[.ref b]∧H l=some (.lst xs)∧H b=some (.lst zs)∧xs.length+zs.length≤sizeLine∧Q .non (upd H l (.lst (xs++zs)))
theorem mt_extend:MtM X "list.extend" rExtend:=by
  intro pins s σ H x vs v us Q I rx rv h;obtain⟨l,b,xs,zs,rfl,rfl,hH,hB,hz,q⟩:=h;cases rx;obtain⟨u,rfl,ru⟩:=rv.one;cases ru;obtain⟨z,its,n,r,hl,e⟩:=I.lstM hH;obtain⟨z2,its2,n2,r2,hl2,e2⟩:=I.lstM hB;have hsz:its.toArray.size+its2.toArray.size≤sizeLine:=by rw[List.size_toArray,List.size_toArray];omega
  have hlong:¬(!its.toArray.isEmpty&&Builtin.List.listTooLong (its.toArray.size+its2.toArray.size))=true:=by
    rw[notLongL hsz,Bool.and_false];exact Bool.false_ne_true
  refine call_meets F.slot_list_extend ⟨_,e,rfl⟩ F.entry_list_extend (F.args_list_extend_2 _ _)
    (AutoSeq1.list_extend_list_list_0 l its.toArray n b its2.toArray n2 hlong (by rw[List.size_toArray];omega) (by omega)) ⟨e,e2,?_⟩
  refine⟨.non,_,I.lset (its' :=its++its2) hH e (by simp) (r.append r2) ?_,rfl,q⟩;rw[List.length_append];omega
def rCat:R2:=fun x y H Q=>∃l b xs zs,x= .ref l∧y= .ref b∧H l=some (.lst xs)∧H b=some (.lst zs)∧xs.length+zs.length≤sizeLine∧∀p,H p=none→Q (.ref p) (upd H p (.lst (xs++zs)))
theorem op_cat:OpR X (binaryOp .Add) rCat:=by
  intro pins s σ H x y v u Q I rx ry h;obtain⟨l,b,xs,zs,rfl,rfl,hH,hB,hz,q⟩:=h;cases rx;cases ry;obtain⟨z,its,n,r,hl,e⟩:=I.lstM hH;obtain⟨z2,its2,n2,r2,hl2,e2⟩:=I.lstM hB;refine PySem.P.add_list e e2 ?_ (by rw[List.size_toArray,List.size_toArray];omega);have ea:its.toArray++its2.toArray=(its++its2).toArray:=by simp
  rw[ea];exact⟨.ref _,_,I.lnew (t' :=s.toks) (r.append r2) (by rw[List.length_append];omega),rfl,q _ I.fresh⟩
def rRep:R2:=fun x y H Q=>∃l k xs,x= .ref l∧y= .int k∧H l=some (.lst xs)∧ -(2 ^ 63)≤k∧k<2 ^ 63∧xs.length*k.toNat≤sizeLine∧
  ∀p,H p=none→Q (.ref p) (upd H p (.lst (List.replicate k.toNat xs).flatten))
theorem len_rep {α:Type} (xs:List α) (k:Nat):(List.replicate k xs).flatten.length=k*xs.length:=by
  induction k with
  |zero=>simp
  |succ k ih=>rw[List.replicate_succ,List.flatten_cons,List.length_append,ih,Nat.succ_mul,Nat.add_comm]
theorem op_rep:OpR X (binaryOp .Mult) rRep:=by
  intro pins s σ H x y v u Q I rx ry h;obtain⟨l,k,xs,rfl,rfl,hH,h1,h2,hz,q⟩:=h;cases rx;obtain⟨t,rfl⟩:=ry;obtain⟨z,its,n,r,hl,e⟩:=I.lstM hH;have hlen:its.toArray.size*k.toNat≤sizeLine:=by rw[List.size_toArray,←hl];exact hz
  have hcap:¬its.toArray.size*k.toNat>(2 ^ 63 - 1) / 8:=by
    have:(sizeLine:Nat)≤(2 ^ 63 - 1) / 8:=by decide
    omega
  have hfit:¬(!Builtin.List.listFitsIndex k)=true:=by
    rw[fitsIndex_both h1 h2];exact Bool.false_ne_true
  have hlong:¬Builtin.List.listTooLong (its.toArray.size*k.toNat)=true:=by
    rw[notLongL hlen];exact Bool.false_ne_true
  have hnew:List.foldl (fun x1 x2=>x1++x2) #[] (List.replicate (if its.toArray.isEmpty=true then 0 else k.toNat) its.toArray)=(List.replicate k.toNat its).flatten.toArray:=by
    have f0:∀m:Nat,List.foldl (fun x1 x2=>x1++x2) #[] (List.replicate m its.toArray)=(List.replicate m its).flatten.toArray:=fun m=>by
      have:=foldl_rep its m [];rw[List.nil_append] at this;exact this
    rw[f0]
    cases its with
    |nil=>simp
    |cons a r' =>rw[if_neg (by simp)]
  refine wpAny_binaryOp_repeat_ref (T:="list") (U:="int") (by decide) ⟨_,e,rfl⟩ (fun s' =>typeIs_int s' k t) noFill_list_mul F.fills_int_mul F.slot_int_rmul repeat_list F.slot_int_index.lookup
    (call_meets F.slot_int_rmul (typeIs_int s k t) F.entry_int_rmul (F.args_int_rmul_2 _ _) (int___rmul___int_list k t l its.toArray n)
      ⟨e,rfl,⟨_,e,rfl⟩,call_meets F.slot_list_mul ⟨_,e,rfl⟩ F.entry_list_mul (F.args_list_mul_2 _ _) (AutoListH.list___mul___list_int_3 l its.toArray n k t hfit hcap hlong) ⟨e,?_⟩⟩)
  rw[hnew];exact⟨.ref _,_,I.lnew (t' :=s.toks) (r.rep k.toNat) (by rw[len_rep,Nat.mul_comm];exact hz),rfl,q _ I.fresh⟩
end
section
variable{prog:Program}{w:World}{A:Around}{E:Value→Shared→Prop}{s:Shared}
set_option maxRecDepth 100000 in
end
section
variable{X:Cx}
end
end L2
namespace L2
open PySem PySem.Spec PyProof.Rows
section
variable{κ:Type}[DecidableEq κ]
def valV(kvs:List (κ×V))(k:κ):Option V:=(kvs.find? fun kv=>decide (kv.1=k)).map (·.2)
def putK (kvs:List (κ×V)) (k:κ) (v:V):List (κ×V):=
  if(kvs.any fun kv=>decide (kv.1=k))=true then kvs.map (fun kv=>if kv.1=k then(kv.1,v) else kv) else kvs++[(k,v)]
def dropK(kvs:List (κ×V))(k:κ):List (κ×V):=kvs.filter fun kv=>decide (kv.1≠k)
theorem valV_pos{p:κ×V}{r:List (κ×V)}{k:κ}(e:p.1=k):valV (p::r) k=some p.2:=by simp[valV,List.find?_cons,e]
theorem valV_neg{p:κ×V}{r:List (κ×V)}{k:κ}(e:¬p.1=k):valV (p::r) k=valV r k:=by simp[valV,List.find?_cons,e]
theorem valV_any (k:κ):∀kvs:List (κ×V),(kvs.any fun kv=>decide (kv.1=k))=(valV kvs k).isSome
  |[]=>rfl
  | p::r=>by
    rw[List.any_cons];by_cases e:p.1=k
    · simp only[valV_pos e,decide_eq_true e,Bool.true_or,Option.isSome_some]
    · rw[valV_neg e,decide_eq_false e,Bool.false_or];exact valV_any k r
theorem valV_map (k j:κ) (y:V):∀kvs:List (κ×V),valV (kvs.map fun kv=>if kv.1=k then(kv.1,y) else kv) j=(valV kvs j).map fun x=>if j=k then y else x
  |[]=>rfl
  | p ::r=>by
    have ih:=valV_map k j y r;rw[List.map_cons];by_cases h:p.1=k
    · rw[if_pos h]
      by_cases e:p.1=j
      · rw[valV_pos (p:=(p.1,y)) e,valV_pos e,Option.map_some,if_pos (e.symm.trans h)]
      · rw[valV_neg (p:=(p.1,y)) e,valV_neg e,ih]
    · rw[if_neg h]
      by_cases e:p.1=j
      · rw[valV_pos (p:=p) e,valV_pos e,Option.map_some,if_neg (fun z=>h (e.trans z))]
      · rw[valV_neg (p:=p) e,valV_neg e,ih]
theorem valV_snoc (k j:κ) (y:V):∀kvs:List (κ×V),valV kvs k=none→valV (kvs++[(k,y)]) j=if j=k then some y else valV kvs j
  | [],_=>by
    by_cases e:k=j
    · rw[if_pos e.symm];exact valV_pos (p:=(k,y)) e
    · rw[if_neg (fun z=>e z.symm)];exact valV_neg (p:=(k,y)) e
  | p::r,hn=>by
    rw[List.cons_append];have hk:¬p.1=k:=fun z=>by rw[valV_pos z] at hn;cases hn
    rw[valV_neg hk] at hn;have ih:=valV_snoc k j y r hn;by_cases e:p.1=j
    · rw[valV_pos e,valV_pos e,if_neg (fun z=>hk (e.trans z))]
    · rw[valV_neg e,valV_neg e,ih]
theorem valV_put (kvs:List (κ×V)) (k j:κ) (y:V):valV (putK kvs k y) j=if j=k then some y else valV kvs j:=by
  unfold putK;by_cases a:(kvs.any fun kv=>decide (kv.1=k))=true
  · rw[if_pos a,valV_map]
    rw[valV_any] at a;by_cases e:j=k
    · obtain⟨x,hx⟩:=Option.isSome_iff_exists.mp a
      rw[if_pos e,e,hx,Option.map_some,if_pos rfl]
    · rw[if_neg e]
      cases valV kvs j with
      |none=>rfl
      |some x=>rw[Option.map_some,if_neg e]
  · rw[if_neg a]
    refine valV_snoc k j y kvs ?_;rw[valV_any] at a
    cases q:valV kvs k with
    |none=>rfl
    |some x=>rw[q] at a;exact(a rfl).elim
theorem length_putK (kvs:List (κ×V)) (k:κ) (v:V):(putK kvs k v).length≤kvs.length+1:=by
  unfold putK
  split
  · rw[List.length_map];omega
  · rw[List.length_append,List.length_cons,List.length_nil];omega
theorem putK_new {kvs:List (κ×V)} {k:κ} (v:V) (h:valV kvs k=none):putK kvs k v=kvs++[(k,v)]:=by
  unfold putK;rw[valV_any,h];exact if_neg (by decide)
theorem RelO.isSome_eq {o:Option V} {u:Option Value} (r:RelO o u):o.isSome=u.isSome:=by
  cases o with
  | none=>cases u with
    |none=>rfl
    |some _=>exact(show False from r).elim
  | some _=>cases u with
    |none=>exact(show False from r).elim
    |some _=>rfl
theorem RelO.getD {o:Option V} {u:Option Value} {d:V} {d' :Value} (r:RelO o u) (rd:RelV d d'):RelV (o.getD d) (u.getD d'):=by
  cases o with
  | none=>cases u with
    |none=>exact rd
    |some _=>exact(show False from r).elim
  | some _=>cases u with
    |none=>exact(show False from r).elim
    |some _=>exact r
theorem KV.val {kvs:List (κ×V)} {vs:List (κ×Value)} (r:KV kvs vs) (k:κ):RelO (valV kvs k) (valueAt vs k):=by
  unfold KV at r
  induction r with
  |nil=>exact True.intro
  | @cons p q ps qs h t ih=>
    obtain⟨h1,h2⟩:=h;by_cases e:p.1=k
    · have e' :q.1=k:=h1.symm.trans e
      have b:valueAt (q::qs) k=some q.2:=by simp[valueAt,List.find?_cons,e']
      rw[valV_pos e,b];exact h2
    · have e' :¬q.1=k:=fun z=>e (h1.trans z)
      have b:valueAt (q::qs) k=valueAt qs k:=by simp[valueAt,List.find?_cons,e']
      rw[valV_neg e,b];exact ih
theorem KV.any {kvs:List (κ×V)} {vs:List (κ×Value)} (r:KV kvs vs) (k:κ):(kvs.any fun kv=>decide (kv.1=k))=vs.any fun kv=>decide (kv.1=k):=by
  unfold KV at r
  induction r with
  |nil=>rfl
  |cons h t ih=>rw[List.any_cons,List.any_cons,ih,h.1]
theorem KV.repl {kvs:List (κ×V)} {vs:List (κ×Value)} (r:KV kvs vs) (k:κ) {y:V} {u:Value} (ry:RelV y u):
    KV (kvs.map fun kv=>if kv.1=k then(kv.1,y) else kv) (vs.map fun kv=>if kv.1=k then(kv.1,u) else kv):=by
  unfold KV at r ⊢
  induction r with
  |nil=>exact .nil
  | @cons p q ps qs h t ih=>
    rw[List.map_cons,List.map_cons];refine .cons ?_ ih;obtain⟨h1,h2⟩:=h;by_cases e:p.1=k
    · rw[if_pos e,if_pos (h1.symm.trans e)];exact⟨h1,ry⟩
    · rw[if_neg e,if_neg (fun z=>e (h1.trans z))];exact⟨h1,h2⟩
theorem KV.put {kvs:List (κ×V)} {vs:List (κ×Value)} (r:KV kvs vs) (k:κ) {y:V} {u:Value} (ry:RelV y u):KV (putK kvs k y) (stored vs k u):=by
  unfold putK stored;rw[r.any k];by_cases e:(vs.any fun kv=>decide (kv.1=k))=true
  · rw[if_pos e,if_pos e];exact r.repl k ry
  · rw[if_neg e,if_neg e];exact Paired.snoc r ⟨rfl,ry⟩
theorem KV.drop {kvs:List (κ×V)} {vs:List (κ×Value)} (r:KV kvs vs) (k:κ):KV (dropK kvs k) (without vs k):=by
  unfold KV at r ⊢;unfold dropK without
  induction r with
  |nil=>exact .nil
  | @cons p q ps qs h t ih=>
    obtain⟨h1,h2⟩:=h;rw[List.filter_cons,List.filter_cons];by_cases e:p.1=k
    · have a:¬decide (p.1≠k)=true:=by simp[e]
      have b:¬decide (q.1≠k)=true:=by simp[h1.symm.trans e]
      rw[if_neg a,if_neg b];exact ih
    · have e' :¬q.1=k:=fun z=>e (h1.trans z)
      have a:decide (p.1≠k)=true:=by simp[e]
      have b:decide (q.1≠k)=true:=by simp[e']
      rw[if_pos a,if_pos b];exact .cons ⟨h1,h2⟩ ih
theorem KV.keys {kvs:List (κ×V)} {vs:List (κ×Value)} (r:KV kvs vs):kvs.map (·.1)=vs.map (·.1):=by
  unfold KV at r
  induction r with
  |nil=>rfl
  |cons h t ih=>rw[List.map_cons,List.map_cons,ih,h.1]
theorem KV.length{kvs:List (κ×V)}{vs:List (κ×Value)}(r:KV kvs vs):kvs.length=vs.length:=Paired.length r
end
theorem kV_is {P:Program} {w:World} {k:Key} {u:Value} (r:RelV (kV k) u):(mixKind P w).is k u=true:=by
  cases k with
  |inl i=>obtain⟨t,e⟩:=(show ∃t,u=Value.int i t from r);subst e;exact mixKind_int P w i t
  |inr x=>obtain⟨t,e⟩:=(show ∃t,u=Value.str x t from r);subst e;exact mixKind_str P w x t
theorem items_are {P:Program} {w:World}:∀{ks:List Key} {us:List Value},Vals (ks.map kV) us→ItemsAre (mixKind P w) ks us
  |[],_,r=>by rw[List.map_nil] at r;cases r;exact .nil
  | k::ks,_,r=>by
    rw[List.map_cons] at r
    cases r with
    |cons h t=>exact .cons (kV_is h) (items_are t)
abbrev KT(H:Hp):List (List Key×V)→List (List Key×Addr×Value)→Prop:=Paired fun p q=>p.1=q.1∧H q.2.1=some (.tup (p.1.map kV))∧RelV p.2 q.2.2
theorem KT.val {H:Hp} {kvs:List (List Key×V)} {xs:List (List Key×Addr×Value)} (r:KT H kvs xs) (k:List Key):RelO (valV kvs k) ((atKey xs k).map (·.2)):=by
  induction r with
  |nil=>exact True.intro
  | @cons p q ps qs h t ih=>
    obtain⟨h1,_,h2⟩:=h;by_cases e:p.1=k
    · have e' :q.1=k:=h1.symm.trans e
      have b:atKey (q::qs) k=some q.2:=by simp[atKey,List.find?_cons,e']
      rw[valV_pos e,b];exact h2
    · have e' :¬q.1=k:=fun z=>e (h1.trans z)
      have b:atKey (q::qs) k=atKey qs k:=by simp[atKey,List.find?_cons,e']
      rw[valV_neg e,b];exact ih
theorem KT.repl {H:Hp} {kvs:List (List Key×V)} {xs:List (List Key×Addr×Value)} (r:KT H kvs xs) (k:List Key) {y:V} {u:Value} (ry:RelV y u):
    KT H (kvs.map fun kv=>if kv.1=k then(kv.1,y) else kv) (xs.map (putAt k u)):=by
  induction r with
  |nil=>exact .nil
  | @cons p q ps qs h t ih=>
    rw[List.map_cons,List.map_cons];refine .cons ?_ ih;obtain⟨h1,h2,h3⟩:=h;unfold putAt;by_cases e:p.1=k
    · rw[if_pos e,if_pos (h1.symm.trans e)];exact⟨h1,h2,ry⟩
    · rw[if_neg e,if_neg (fun z=>e (h1.trans z))];exact⟨h1,h2,h3⟩
theorem KT.put {H:Hp} {kvs:List (List Key×V)} {xs:List (List Key×Addr×Value)} (r:KT H kvs xs) (k:List Key) {b:Addr} {y:V} {u:Value} (hb:H b=some (.tup (k.map kV))) (ry:RelV y u):
    KT H (putK kvs k y) (storedH xs k b u):=by
  have e:(kvs.any fun kv=>decide (kv.1=k))=(atKey xs k).isSome:=by
    rw[valV_any,(r.val k).isSome_eq,Option.isSome_map]
  unfold putK storedH;rw[e];by_cases q:(atKey xs k).isSome=true
  · rw[if_pos q,if_pos q];exact r.repl k ry
  · rw[if_neg q,if_neg q];exact Paired.snoc r ⟨rfl,hb,ry⟩
theorem KT.keeps {H H' :Hp} {kvs:List (List Key×V)} {xs:List (List Key×Addr×Value)} (r:KT H kvs xs) (ht:∀b ys,H b=some (.tup ys)→H' b=some (.tup ys)):KT H' kvs xs:=
  Paired.mapP r fun _ _ z=>⟨z.1,ht _ _ z.2.1,z.2.2⟩
section
variable{P:Program}{w:World}{H:Hp}{h:Heap}{a:Addr}
theorem rd_of{u:HO}(ok:HOk P w H h)(e:Rd H a u):ObjOk P w H h a u:=e.ok ok
theorem dk_rd {kvs:List (Key×V)} (ok:HOk P w H h) (e:Rd H a (.dK kvs)):kvs.length≤sizeLine∧(a==sysModules)=false∧∃vs,KV kvs vs∧h.DictOf (mixKind P w) a vs:=
  show ObjOk P w H h a (.dK kvs) from rd_of ok e
theorem dk_of{kvs:List (Key×V)}(ok:HOk P w H h)(e:H a=some (.dK kvs)):kvs.length≤sizeLine∧(a==sysModules)=false∧∃vs,KV kvs vs∧h.DictOf (mixKind P w) a vs:=dk_rd ok (.inl e)
theorem key_of {ks:List Key} (ok:HOk P w H h) (e:H a=some (.tup (ks.map kV))):(tupleKind (mixKind P w)).is h ks a:=by
  obtain⟨_,its,r,o,h1,h2,n,h3⟩:=(show ObjOk P w H h a (.tup (ks.map kV)) from ok a _ e);exact⟨o,its.toArray,n,h1,h2,h3,by simpa using items_are r⟩
theorem dt_rd {kvs:List (List Key×V)} (ok:HOk P w H h) (e:Rd H a (.dT kvs)):kvs.length≤sizeLine∧(a==sysModules)=false∧
    ∃xs,KT H kvs xs∧h.DictOfH (tupleKind (mixKind P w)) a xs:=by
  obtain⟨z,y,xs,r,o,es,ep,h1,h2,h3,h4,h5⟩:=(show ObjOk P w H h a (.dT kvs) from rd_of ok e);refine⟨z,y,xs,r,o,es,ep,h1,h2,h3,h4,fun x hx=> ?_,h5⟩
  have all:∀{l:List (List Key×V)} {m:List (List Key×Addr×Value)},KT H l m→∀x∈m,(tupleKind (mixKind P w)).is h x.1 x.2.1:=by
    intro l m q
    induction q with
    |nil=>intro x hx;exact nomatch hx
    | @cons p q ps qs hq t ih=>
      intro x hx;rcases List.mem_cons.mp hx with e|hx
      · subst e
        exact key_of ok (by rw[←hq.1];exact hq.2.1)
      · exact ih x hx
  exact all r x hx
theorem dt_of {kvs:List (List Key×V)} (ok:HOk P w H h) (e:H a=some (.dT kvs)):kvs.length≤sizeLine∧(a==sysModules)=false∧
    ∃xs,KT H kvs xs∧h.DictOfH (tupleKind (mixKind P w)) a xs:=dt_rd ok (.inl e)
end
def DGet (H:Hp) (a:Addr) (y:V) (r:Option V):Prop:=
  (∃kvs k,Rd H a (.dK kvs)∧y=kV k∧r=valV kvs k)∨∃kvs k b,Rd H a (.dT kvs)∧y= .ref b∧H b=some (.tup (k.map kV))∧r=valV kvs k
def DPut (H:Hp) (a:Addr) (y v:V) (H' :Hp):Prop:=
  (∃kvs k,H a=some (.dK kvs)∧y=kV k∧kvs.length<sizeLine∧H' =upd H a (.dK (putK kvs k v)))∨
  ∃kvs k b,H a=some (.dT kvs)∧y= .ref b∧H b=some (.tup (k.map kV))∧kvs.length<sizeLine∧H' =upd H a (.dT (putK kvs k v))
theorem DGet.k{H:Hp}{a:Addr}{kvs:List (Key×V)}{k:Key}(e:H a=some (.dK kvs)):DGet H a (kV k) (valV kvs k):= .inl ⟨kvs,k,.inl e,rfl,rfl⟩
theorem DGet.t{H:Hp}{a b:Addr}{kvs:List (List Key×V)}{k:List Key}(e:H a=some (.dT kvs))(eb:H b=some (.tup (k.map kV))):DGet H a (.ref b) (valV kvs k):= .inr ⟨kvs,k,b,.inl e,rfl,eb,rfl⟩
theorem DPut.k{H:Hp}{a:Addr}{kvs:List (Key×V)}{k:Key}{v:V}(e:H a=some (.dK kvs))(hl:kvs.length<sizeLine):DPut H a (kV k) v (upd H a (.dK (putK kvs k v))):= .inl ⟨kvs,k,e,rfl,hl,rfl⟩
theorem DPut.t {H:Hp} {a b:Addr} {kvs:List (List Key×V)} {k:List Key} {v:V} (e:H a=some (.dT kvs)) (eb:H b=some (.tup (k.map kV))) (hl:kvs.length<sizeLine):
    DPut H a (.ref b) v (upd H a (.dT (putK kvs k v))):= .inr ⟨kvs,k,b,e,rfl,eb,hl,rfl⟩
section
variable{X:Cx}{pins:List (Addr×Obj)}{σ:St}{H:Hp}{s:Shared}{a:Addr}{y v:V}{u r:Value}{o:Option V}{A:Around}{E:Value→Shared→Prop}
theorem Inv.big (I:Inv X pins σ H s):sysModules<s.heap.objs.size:=by
  have h:mainGlobals<s.heap.objs.size:=(I.mod.glob.keeps I.bk).lt;exact Nat.lt_trans (by decide) h
theorem d_getItem {Q:Value→Shared→Prop} (hu:A.units+1<cLine) (I:Inv X pins σ H s) (g:DGet H a y (some v)) (ry:RelV y u) (h:∀w' s',Inv X pins σ H s'→RelV v w'→Q w' s'):
    wpAny (model X.prog X.w) A (getItem (.ref a) u) Q E s:=by
  rcases g with⟨kvs,k,e,ey,l⟩|⟨kvs,k,b,e,ey,eb,l⟩
  · subst ey
    obtain⟨z,hd,vs,rel,dd⟩:=dk_rd I.hok e;obtain⟨w',hw,rw'⟩:=RelO.some_of (v:=v) (o:=valueAt vs k) (by rw[l];exact rel.val k);exact wpAny_getItem_of (kV_is ry) dd.mapOf hw (h w' _ (I.tok _) rw')
  · subst ey
    cases(show u=Value.ref b from ry);obtain⟨z,hd,xs,rel,dd⟩:=dt_rd I.hok e;obtain⟨w',hw,rw'⟩:=RelO.some_of (v:=v) (o:=(atKey xs k).map (·.2)) (by rw[l];exact rel.val k);obtain⟨p,hp,hp2⟩:=Option.map_eq_some_iff.mp hw;refine wpAny_getItem_heap (tupleKind_room_in1 hu) (key_of I.hok eb) dd hp ?_;rw[hp2];exact h w' _ (I.tok _) rw'
theorem d_in {Q:Value→Shared→Prop} (hu:A.units+1<cLine) (I:Inv X pins σ H s) (g:DGet H a y o) (ry:RelV y u) (h:∀s',Inv X pins σ H s'→Q (.bool o.isSome) s'):
    wpAny (model X.prog X.w) A (compareOp .In u (.ref a)) Q E s:=by
  rcases g with⟨kvs,k,e,ey,l⟩|⟨kvs,k,b,e,ey,eb,l⟩
  · subst ey
    obtain⟨z,hd,vs,rel,dd⟩:=dk_rd I.hok e;refine wpAny_in_of (kV_is ry) hd dd.mapOf ?_;rw[←(rel.val k).isSome_eq,←l];exact h _ (I.tok _)
  · subst ey
    cases(show u=Value.ref b from ry);obtain⟨z,hd,xs,rel,dd⟩:=dt_rd I.hok e;refine wpAny_in_heap (tupleKind_room_in1 hu) (key_of I.hok eb) hd dd ?_;have q:=(rel.val k).isSome_eq;rw[Option.isSome_map] at q;rw[←q,←l];exact h _ (I.tok _)
theorem d_write {h' :Heap} {t' :Nat} {ob:HO} (I:Inv X pins σ H s) (mu:Mut (H a)) (hs:Heap.SameBut a s.heap h') (he:∃q,h'.get? a=some q) (new:ObjOk X.prog X.w (upd H a ob) h' a ob):
    Inv X pins σ (upd H a ob) {s with heap:=h',toks:=t'}:=
  I.write (x:=a) (e:=a) mu (.inl rfl) (fun b q hb z=>(hs.2 b hb).trans z) he new
theorem dk_new {P:Program} {w:World} {H' :Hp} {h' :Heap} {kvs:List (Key×V)} {vs:List (Key×Value)} (z:kvs.length≤sizeLine) (hd:(a==sysModules)=false) (rel:KV kvs vs) (dd:h'.DictOf (mixKind P w) a vs):
    ObjOk P w H' h' a (.dK kvs):=⟨z,hd,vs,rel,dd⟩
theorem d_setItem {H' :Hp} {Q:Unit→Shared→Prop} (hu:A.units+1<cLine) (I:Inv X pins σ H s) (g:DPut H a y v H') (ry:RelV y u) (rv:RelV v r) (h:∀s',Inv X pins σ H' s'→Q () s'):
    wpAny (model X.prog X.w) A (setItem (.ref a) u r) Q E s:=by
  rcases g with⟨kvs,k,e,ey,l,eH⟩|⟨kvs,k,b,e,ey,eb,l,eH⟩
  · subst ey eH
    obtain⟨z,hd,vs,rel,dd⟩:=dk_of I.hok e;have hz:vs.length≤sizeLine:=by rw[←rel.length];exact z
    have hl:(putK kvs k v).length≤sizeLine:=by have:=length_putK kvs k v;omega
    refine wpAny_setItem_pairs (hsz:=hz) (kV_is ry) dd fun h' dd' hs=>h _ ?_;have he:∃q,h'.get? a=some q:=let⟨q,_,_,hq,_⟩:=dd';⟨q,hq⟩
    exact d_write I (by rw[e];exact True.intro) hs he (dk_new hl hd (rel.put k rv) dd')
  · subst ey eH
    cases(show u=Value.ref b from ry);obtain⟨z,hd,xs,rel,dd⟩:=dt_of I.hok e;have hz:xs.length≤sizeLine:=by rw[←Paired.length rel];exact z
    have hl:(putK kvs k v).length≤sizeLine:=by have:=length_putK kvs k v;omega
    refine wpAny_setItem_heap (hsz:=hz) (tupleKind_room_in1 hu) (key_of I.hok eb) dd fun h' dd' hs=>h _ ?_;obtain⟨q,es,ep,hq,h2,h3,h4,_,h5⟩:=dd';refine d_write I (by rw[e];exact True.intro) hs ⟨q,hq⟩ ⟨hl,hd,_,(rel.put k eb rv).keeps fun c ys ec=> ?_,q,es,ep,hq,h2,h3,h4,h5⟩;rw[upd_ne (ne_of ec e (fun z=>nomatch z))];exact ec
end
section
variable{X:Cx}{pins:List (Addr×Obj)}{σ:St}{H:Hp}{s:Shared}{a:Addr}{kvs:List (Key×V)}{k:Key}{u:Value}{A:Around}{E:Value→Shared→Prop}
end
def NoSl(i:Expr):Prop:=∀ov iv,subscripted i false ov iv=operate [ov,iv] (getItem ov iv)
theorem subD_of {prog:Program} {w:World} {A:Around} {E:Value→Shared→Prop} {s:Shared} {env:Env} {value slice:Expr} {pos:Pos} {T id:String} {Q:Value→Shared→Prop}
    (hl:typeLookup (.type T) "__getitem__"=pure (some (.builtin id))) (hs:NoSl slice)
    (h:wpAny (model prog w) A (eval value env) (fun o s₁=>wpAny (model prog w) A (eval slice env) (fun i s₂=>s₂.TypeIs o T∧wpAny (model prog w) A (getItem o i) Q E s₂) E s₁) E s):
    wpAny (model prog w) A (eval (.Subscript value slice pos) env) Q E s:=by
  refine Subscript_ (wpAny_mono h (fun o s₁ h₁=>wpAny_mono h₁ (fun i s₂ h₂=> ?_) fun _ _ x=>x) fun _ _ x=>x);obtain⟨hT,h₂⟩:=h₂;unfold subscriptTail;refine wpAny_bind ?_;rw[getitemInPython_of_ne hT.not_modules];refine wpAny_bind (wpAny_specialOf hT hl ?_)
  have fin:wpAny (model prog w) A (subscripted slice false o i) (fun r s₃=>wpAny (model prog w) A (letTemporaryGo value o r>>= fun _=>pure r) Q E s₃) E s₂:=by
    rw[hs o i];exact wpAny_operating (wpAny_mono h₂ (fun r s₃ h₃=>wpAny_bind (wpAny_letTemporaryGo (wpAny_pure h₃))) fun _ _ x=>x)
  first
    |exact wpAny_pure (wpAny_bind fin)
    |exact wpAny_bind (wpAny_pure (wpAny_bind fin))
    |exact wpAny_bind fin
theorem dict_typeIs {X:Cx} {pins:List (Addr×Obj)} {σ:St} {H:Hp} {s:Shared} {a:Addr} {y:V} {o:Option V} (I:Inv X pins σ H s) (g:DGet H a y o):s.TypeIs (.ref a) "dict":=by
  rcases g with⟨kvs,k,e,_,_⟩|⟨kvs,k,b,e,_,_,_⟩
  · obtain⟨_,_,vs,_,dd⟩:=dk_rd I.hok e
    exact dd.typeIs
  · obtain⟨_,_,xs,_,dd⟩:=dt_rd I.hok e
    exact dd.typeIs
def tDGet(td ty:TE):TE:=fun σ H Q=>td σ H fun x H1=>ty σ H1 fun y H2=>∃a v,x= .ref a∧DGet H2 a y (some v)∧Q v H2
def tDIn(ty td:TE):TE:=fun σ H Q=>ty σ H fun y H1=>td σ H1 fun x H2=>∃a o,x= .ref a∧DGet H2 a y o∧Q (.bl o.isSome) H2
def sDPut(td ty tv:TE):TS:=fun D σ H=>tv σ H fun v H1=>td σ H1 fun x H2=>ty σ H2 fun y H3=>∃a H4,x= .ref a∧DPut H3 a y v H4∧D.nx σ H4
section
variable{X:Cx}{o i e value:Expr}{pos pos' tpos:Pos}{td ty tv:TE}
theorem pe_dget (hu:X.A.units+1<cLine) (ho:PE X o td) (hi:PE X i ty) (hs:NoSl i):PE X (.Subscript o i pos) (tDGet td ty):=by
  intro pins s σ H Q I h;refine subD_of PySem.F.slot_dict_getitem.lookup hs (thn (ho pins s σ H _ I h) fun u s1 ⟨x,H1,I1,rx,q1⟩=>thn (hi pins s1 σ H1 _ I1 q1) fun iv s2 ⟨y,H2,I2,ry,a,v,ex,g,q2⟩=> ?_);subst ex;obtain rfl:u=Value.ref a:=rx;exact⟨dict_typeIs I2 g,d_getItem hu I2 g ry fun w' s3 I3 rw' =>⟨v,H2,I3,rw',q2⟩⟩
theorem pc_din (hu:X.A.units+1<cLine) (hi:PE X i ty) (ho:PE X o td):PC X .In i o (tDIn ty td):=by
  intro pins s σ H Q I h;refine thn (hi pins s σ H _ I h) fun iv s1 ⟨y,H1,I1,ry,q1⟩=>thn (ho pins s1 σ H1 _ I1 q1) fun u s2 ⟨x,H2,I2,rx,a,ov,ex,g,q2⟩=> ?_;subst ex;obtain rfl:u=Value.ref a:=rx;exact d_in hu I2 g ry fun s3 I3=>⟨.bl ov.isSome,H2,I3,rfl,q2⟩
theorem ps_dput (hu:X.A.units+1<cLine) (ho:PE X o td) (hi:PE X i ty) (hv:PE X value tv) (hs:swapsWith value (some (.Subscript o i pos')) pos.line X.env=pure false):
    PS X (.Assign [.Subscript o i pos'] value pos) (sDPut td ty tv):=by
  intro pins s σ H D I h;refine wpAny_Assign_Subscript (thn (hv pins s σ H _ I h) fun r s1 ⟨v,H1,I1,rv,q1⟩=>thn (ho pins s1 σ H1 _ I1 q1) fun u s2 ⟨x,H2,I2,rx,q2⟩=>thn (hi pins s2 σ H2 _ I2 q2) fun iv s3 ⟨y,H3,I3,ry,a,H4,ex,g,q3⟩=> ?_) hs;subst ex;obtain rfl:u=Value.ref a:=rx;exact d_setItem hu I3 g ry rv fun s4 I4=>⟨σ,H4,I4,q3⟩
end
theorem dk_empty {P:Program} {w:World} {H:Hp} (h:Heap) (hb:sysModules<h.objs.size):ObjOk P w H (h.push {cls:= .type "dict",data:= .dict #[]}) h.objs.size (.dK []):=
  ⟨Nat.zero_le _,beq_eq_false_iff_ne.mpr (Ne.symm (Nat.ne_of_lt hb)),[],.nil,Heap.DictOf.new h⟩
theorem dt_empty {P:Program} {w:World} {H:Hp} (h:Heap) (hb:sysModules<h.objs.size):ObjOk P w H (h.push {cls:= .type "dict",data:= .dict #[]}) h.objs.size (.dT []):=
  ⟨Nat.zero_le _,beq_eq_false_iff_ne.mpr (Ne.symm (Nat.ne_of_lt hb)),[],.nil,_,#[],0,Heap.get?_push_size _ rfl,⟨rfl,rfl,rfl⟩,rfl,rfl,List.nodup_nil⟩
def tDNewK:TE:=fun _ H Q=>∀p,H p=none→Q (.ref p) (upd H p (.dK []))
def tDNewT:TE:=fun _ H Q=>∀p,H p=none→Q (.ref p) (upd H p (.dT []))
section
variable{X:Cx}{pos:Pos}
theorem pe_dnewK:PE X (.Dict [] [] pos) tDNewK:=fun pins s σ H Q I h=>
  wpAny_Dict_empty ⟨.ref s.heap.objs.size,_,I.laid (a:=s.heap.objs.size) (o:= .dK []) (t' :=s.toks) (fun _ _ q=>Heap.get?_push_of_some _ q) (Nat.le_refl _) (dk_empty s.heap I.big),rfl,h _ (I.hok.fresh (Nat.le_refl _))⟩
theorem pe_dnewT:PE X (.Dict [] [] pos) tDNewT:=fun pins s σ H Q I h=>
  wpAny_Dict_empty ⟨.ref s.heap.objs.size,_,I.laid (a:=s.heap.objs.size) (o:= .dT []) (t' :=s.toks) (fun _ _ q=>Heap.get?_push_of_some _ q) (Nat.le_refl _) (dt_empty s.heap I.big),rfl,h _ (I.hok.fresh (Nat.le_refl _))⟩
end
def tPairs:List (TE×TE)→St→Hp→(List (V×V)→Hp→Prop)→Prop
  |[],_,H,Q=>Q [] H
  |(tk,tv)::r,σ,H,Q=>tk σ H fun x H1=>tv σ H1 fun y H2=>tPairs r σ H2 fun ps H3=>Q ((x,y)::ps) H3
abbrev VV:List (V×V)→List (Value×Value)→Prop:=Paired fun p q=>RelV p.1 q.1∧RelV p.2 q.2
def PPs (X:Cx) (pos:Pos) (keys:List (Option Expr)) (values:List Expr) (trs:List (TE×TE)):Prop:=
  ∀ (pins:List (Addr×Obj)) (s:Shared) (σ:St) (H:Hp) (Q:List (V×V)→Hp→Prop),Inv X pins σ H s→tPairs trs σ H Q→
    wpAny (model X.prog X.w) X.A (evalPairs (pairTrees keys values X.env pos)) (fun vs s' =>∃ps H',Inv X pins σ H' s'∧VV ps vs∧Q ps H') X.xe s
theorem pps_nil{X:Cx}{pos:Pos}:PPs X pos [] [] []:=fun pins s σ H Q I h=>pairTrees_nil_walk ⟨[],H,I,.nil,h⟩
theorem pps_cons {X:Cx} {pos:Pos} {k v:Expr} {ks:List (Option Expr)} {vs:List Expr} {tk tv:TE} {trs:List (TE×TE)} (hk:PE X k tk) (hv:PE X v tv) (hr:PPs X pos ks vs trs):
    PPs X pos (some k::ks) (v::vs) ((tk,tv)::trs):=fun pins s σ H Q I h=>
  pairTrees_cons_walk (thn (hk pins s σ H _ I h) fun u s1 ⟨x,H1,I1,rx,q1⟩=>thn (hv pins s1 σ H1 _ I1 q1) fun w2 s2 ⟨y,H2,I2,ry,q2⟩=>
    thn (hr pins s2 σ H2 _ I2 q2) fun ws s3 ⟨ps,H3,I3,rel,q3⟩=>⟨(x,y)::ps,H3,I3,.cons ⟨rx,ry⟩ rel,q3⟩)
def mergeK(kvs more:List (Key×V)):List (Key×V):=more.foldl (fun acc kv=>putK acc kv.1 kv.2) kvs
theorem KV.merge:∀{more:List (Key×V)} {rs:List (Key×Value)} {kvs:List (Key×V)} {vs:List (Key×Value)},KV more rs→KV kvs vs→KV (mergeK kvs more) (merged vs rs):=by
  intro more rs kvs vs r;unfold KV at r
  induction r generalizing kvs vs with
  |nil=>intro q;exact q
  | @cons p q ps qs h t ih=>
    intro r0
    have e:KV (putK kvs p.1 p.2) (stored vs q.1 q.2):=by
      have:=r0.put p.1 h.2;rw[←h.1];exact this
    exact ih e
theorem length_mergeK:∀(more kvs:List (Key×V)),(mergeK kvs more).length≤kvs.length+more.length
  |[],kvs=>by show kvs.length≤kvs.length+0;omega
  | p::r,kvs=>by
    have h1:=length_mergeK r (putK kvs p.1 p.2);have h2:=length_putK kvs p.1 p.2;show(mergeK (putK kvs p.1 p.2) r).length≤_;rw[List.length_cons];omega
theorem carries_of {P:Program} {w:World}:∀{kvs:List (Key×V)} {ws:List (Value×Value)},VV (kvs.map fun kv=>(kV kv.1,kv.2)) ws→∃rs,Carries (mixKind P w) ws rs∧KV kvs rs
  |[],_,r=>by rw[List.map_nil] at r;cases r;exact⟨[],True.intro,.nil⟩
  | p ::kvs,_,r=>by
    rw[List.map_cons] at r
    cases r with
    | @cons a b as bs h t=>
      obtain⟨rs,c,q⟩:=carries_of (P:=P) (w:=w) t;obtain⟨b1,b2⟩:=b;exact⟨(p.1,b2)::rs,⟨kV_is h.1,rfl,c⟩,.cons ⟨rfl,h.2⟩ q⟩
def tDisp(trs:List (TE×TE)):TE:=fun σ H Q=>∀p,H p=none→tPairs trs σ (upd H p (.dK [])) fun ps H2=>H2 p=some (.dK [])∧∃kvs:List (Key×V),ps=kvs.map (fun kv=>(kV kv.1,kv.2))∧kvs.length≤15∧Q (.ref p) (upd H2 p (.dK (mergeK [] kvs)))
theorem pe_disp {X:Cx} {pos:Pos} {keys:List (Option Expr)} {values:List Expr} {trs:List (TE×TE)} (h:PPs X pos keys values trs) (hall:keys.all (·.isSome)=true) (hl:keys.length=values.length) (h0:keys≠[])
    (h15:keys.length≤15):PE X (.Dict keys values pos) (tDisp trs):=by
  intro pins s σ H Q I q;have hn:=I.hok.fresh (Nat.le_refl s.heap.objs.size);have I1:=I.laid (a:=s.heap.objs.size) (o:= .dK []) (h' :=s.heap.push {cls:= .type "dict",data:= .dict #[]}) (t' :=s.toks) (fun _ _ q=>Heap.get?_push_of_some _ q) (Nat.le_refl _) (dk_empty s.heap I.big);refine wpAny_Dict_walk (knd:=mixKind X.prog X.w) hall hl h0 h15 (thn (h pins _ σ _ _ I1 (q _ hn)) fun ws s2 ⟨ps,H2,I2,rel,e,kvs,ep,lk,q2⟩=> ?_);subst ep;obtain⟨rs,c,rk⟩:=carries_of (P:=X.prog) (w:=X.w) rel;obtain⟨z,hd,vs0,r0,dd⟩:=dk_of I2.hok e;cases r0;refine⟨rs,c,dd,fun h' dd' hs=>⟨.ref s.heap.objs.size,_,?_,rfl,q2⟩⟩
  have hz:(mergeK [] kvs).length≤sizeLine:=by
    have h1:=length_mergeK kvs [];rw[List.length_nil] at h1;rw[sizeLine_eq];omega
  have he:∃q,h'.get? s.heap.objs.size=some q:=let⟨q,_,_,hq,_⟩:=dd';⟨q,hq⟩
  exact d_write I2 (by rw[e];exact True.intro) hs he (dk_new hz hd (rk.merge .nil) dd')
structure M1 (X:Cx) (o:Expr) (m:Str) (apos:Pos) (e:Expr) (cpos:Pos):Prop where
  base:attributeBase o m X.env (eval o X.env)=eval o X.env
  few:((backTo cpos (starEach [e] X.env)).all (fun x=> !x.1)&&(backToKw cpos (keywordEach [] X.env)).all (fun x=>x.1.isSome)
    &&decide (([e]:List Expr).length+([]:List Keyword).length+(if([]:List Keyword).isEmpty then 0 else 1)<30))=true
  line:(apos.endLine==cpos.line)=true
  trees:backTo cpos (starEach [e] X.env)=[(false,eval e X.env)]
structure M2 (X:Cx) (o:Expr) (m:Str) (apos:Pos) (e f:Expr) (cpos:Pos):Prop where
  base:attributeBase o m X.env (eval o X.env)=eval o X.env
  few:((backTo cpos (starEach [e,f] X.env)).all (fun x=> !x.1)&&(backToKw cpos (keywordEach [] X.env)).all (fun x=>x.1.isSome)
    &&decide (([e,f]:List Expr).length+([]:List Keyword).length+(if([]:List Keyword).isEmpty then 0 else 1)<30))=true
  line:(apos.endLine==cpos.line)=true
  trees:backTo cpos (starEach [e,f] X.env)=[(false,eval e X.env),(false,eval f X.env)]
def IsD(H:Hp)(a:Addr):Prop:=(∃kvs,Rd H a (.dK kvs))∨∃kvs,Rd H a (.dT kvs)
theorem isD_at {X:Cx} {pins:List (Addr×Obj)} {σ:St} {H:Hp} {s:Shared} {a:Addr} (I:Inv X pins σ H s) (d:IsD H a):
    s.TypeIs (.ref a) "dict" ∧(∀b,Value.ref a= .ref b→∃ob,s.heap.get? b=some ob∧ob.dict=none)∧(a==sysModules)=false:=by
  rcases d with⟨kvs,e⟩|⟨kvs,e⟩
  · obtain⟨_,hd,vs,_,dd⟩:=dk_rd I.hok e
    refine⟨dd.typeIs,fun b q=> ?_,hd⟩;cases q;obtain⟨ob,_,_,h1,h2,_⟩:=dd;exact⟨ob,h1,h2.2.1⟩
  · obtain⟨_,hd,xs,_,dd⟩:=dt_rd I.hok e
    refine⟨dd.typeIs,fun b q=> ?_,hd⟩;cases q;obtain⟨ob,_,_,h1,h2,_⟩:=dd;exact⟨ob,h1,h2.2.1⟩
section
variable{X:Cx}{pins:List (Addr×Obj)}{σ:St}{H:Hp}{s:Shared}{a:Addr}{y d:V}{u r:Value}{o:Option V}{A:Around}{E:Value→Shared→Prop}
theorem d_get2 {Q:Value→Shared→Prop} (hu:A.units+1<cLine) (I:Inv X pins σ H s) (g:DGet H a y o) (ry:RelV y u) (rd:RelV d r) (h:∀w' s',Inv X pins σ H s'→RelV (o.getD d) w'→Q w' s'):
    wpAny (model X.prog X.w) A (call (.builtin "dict.get") [.ref a,u,r]) Q E s:=by
  rcases g with⟨kvs,k,e,ey,l⟩|⟨kvs,k,b,e,ey,eb,l⟩
  · subst ey
    obtain⟨z,hd,vs,rel,dd⟩:=dk_rd I.hok e;refine call_meetsIn PySem.F.slot_dict_get dd.typeIs PySem.F.entry_dict_get (PySem.F.args_dict_get_3 _ _ _) (meets_dict_get_default (mixKind X.prog X.w) a (kV_is ry) hd r) ⟨_,dd.mapOf,h _ _ (I.tok _) ?_⟩;rw[l];exact(rel.val k).getD rd
  · subst ey
    cases(show u=Value.ref b from ry);obtain⟨z,hd,xs,rel,dd⟩:=dt_rd I.hok e;refine call_meetsIn PySem.F.slot_dict_get dd.typeIs PySem.F.entry_dict_get (PySem.F.args_dict_get_3 _ _ _) (meetsH_dict_get_default (tupleKind (mixKind X.prog X.w)) a b hd r) ⟨tupleKind_room_in1 hu,k,xs,key_of I.hok eb,dd,h _ _ (I.tok _) ?_⟩;rw[l];exact(rel.val k).getD rd
end
def tDGet2(td ty tx:TE):TE:=fun σ H Q=>td σ H fun x H1=>∃a,x= .ref a∧IsD H1 a∧ty σ H1 fun y H2=>tx σ H2 fun z H3=>∃o,DGet H3 a y o∧Q (o.getD z) H3
section
variable{X:Cx}{o e f:Expr}{apos cpos:Pos}{td ty tx:TE}
theorem pe_dget2 (hu:X.A.units+1<cLine) (ho:PE X o td) (he:PE X e ty) (hf:PE X f tx) (m:M2 X o "get" apos e f cpos):PE X (.Call (.Attribute o "get" apos) [e,f] [] cpos) (tDGet2 td ty tx):=by
  intro pins s σ H Q I h;refine wpAny_Call_method m.base m.few m.line PySem.F.plainAttrs_dict PySem.F.slot_dict_get PySem.F.type_dict_get (thn (ho pins s σ H _ I h) fun u s1 ⟨x,H1,I1,rx,a,ex,d,q1⟩=> ?_);subst ex;obtain rfl:u=Value.ref a:=rx;obtain⟨t1,t2,_⟩:=isD_at I1 d;refine⟨t1,t2,?_⟩;rw[m.trees]
  refine Calls.callWith_builtin rfl (Calls.evalArgs_plain (Calls.spliced_cons (thn (he pins s1 σ H1 _ I1 q1) fun iv s2 ⟨y,H2,I2,ry,q2⟩=>
    Calls.spliced_cons (thn (hf pins s2 σ H2 _ I2 q2) fun fv s3 ⟨z,H3,I3,rz,ov,g,q3⟩=>Calls.spliced_nil ?_))))
  exact d_get2 hu I3 g ry rz fun w' s4 I4 rw' =>⟨_,H3,I4,rw',q3⟩
end
section
variable{X:Cx}{pins:List (Addr×Obj)}{σ:St}{H:Hp}{s:Shared}{a:Addr}{kvs:List (Key×V)}{A:Around}{E:Value→Shared→Prop}
end
section
variable{X:Cx}{pins:List (Addr×Obj)}{σ:St}{H:Hp}{s:Shared}{a:Addr}{y:V}{u:Value}{A:Around}{E:Value→Shared→Prop}
end
end L2
namespace Att
open PySem PySem.W PySem.Calls PyProof.Rows
theorem ints_of_wellAll {P:Params} {h:Heap}:∀(ns:List Int) (vs:List Value),WellAll P h vs (ns.map WData.int)→IntsAre vs ns:=by
  intro ns
  induction ns with
  | nil=>
    intro vs w;rw[List.map_nil] at w;cases w;exact .nil
  | cons n ns ih=>
    intro vs w;rw[List.map_cons] at w
    cases w with
    | cons a b=>
      cases a;exact .cons _ _ (ih _ b)
theorem script_of {l:OpenLaw} {n:Nat} (hn:l.most=some n) {P:Params} {h:Heap} {args:List WData} {vals:List Value}
    (hpre:l.row.toRowW.claim.pre args=true) (hwl:WellAll P h vals args):
    ∃a vs ns,vals=[Value.ref a]∧args=[WData.list (ns.map WData.int)]∧h.get? a=some {cls:= .type "list",data:= .seq vs.toArray}∧IntsAre vs ns∧ns.length≤n:=by
  have hsh:WShape.hasAll [] args [.list .int]=true:=(pre_splitW hpre).1;have hc:l.pre.holds [] {args:=args}=true:=(pre_splitW hpre).2;obtain⟨d,r,rfl,h1,h2⟩:=hasAllW_cons hsh;obtain rfl:=hasAllW_nil h2;obtain⟨xs,rfl,h3⟩:=hasW_list h1;obtain⟨ns,rfl⟩:=items_int h3
  have hlen:ns.length≤n:=by
    unfold OpenLaw.pre at hc
    have h4:(WTm.not (.lt (.lit (.int (n:Int))) (.len (.arg 0)))).holds [] {args:=[.list (ns.map .int)]}=true:=by
      have h4:=(holds_andW hc).1;rw[hn] at h4;exact h4
    have h5:=condW_of h4 (w_not (w_lt w_lit (w_len_list (w_arg rfl))));rw[List.length_map] at h5;refine Nat.le_of_not_lt fun q=> ?_;have q' :(n:Int)<((ns.length:Nat):Int):=by omega
    first
      |(rw[decide_eq_true q'] at h5;exact absurd h5 (by decide))
      |(simp at h5;omega)
  cases hwl with
  | cons w1 w2=>
    cases w2
    cases w1 with
    |list ho hall=>exact⟨_,_,ns,rfl,rfl,ho,ints_of_wellAll ns _ hall,hlen⟩
theorem post_true (l:OpenLaw) (args:List WData):l.row.toRowW.claim.post args (.bool true) args=true:=
  postW_of (r:=l.row.toRowW) (X:=(true==true))
    (show WShape.has [] (.bool true) .bool=true by first|rfl|decide|simp[WShape.has,WShape.arms,WShape.armsAll])
    (show(WTm.eq .res (.lit (.bool true))).value [] {args:=args,res:=some (.bool true),after:=args}=some (.bool (true==true)) from w_eq_bool (w_res rfl) w_lit) rfl
theorem attach_call {l:OpenLaw} {n:Nat} {q:Program} {loose:List Str} {XP:(Str→Option Value)→Heap→Prop} {YP:World→Heap→Prop} {d:DefRec}
    (hn:l.most=some n) (hdf:d.params.defaults=[])
    (call:∀(w:World) (s₀ s₁:Shared) (mg mb:Str→Option Value) (fa:Addr) (o:Obj) (pm cd doc:Value) (a:Addr) (vs:List Value) (ns:List Int),
      Ground q loose [] XP w s₀ mg mb s₁.heap→YP w s₁.heap→
      s₁.heap.get? fa=some o→o.data= .func (docDef d.name d.params d.body d.scope pm cd doc)→s₁.heap.CodeRec cd d.name→mg d.name=some (.ref fa)→
      s₁.heap.get? a=some {cls:= .type "list",data:= .seq vs.toArray}→IntsAre vs ns→ns.length≤n→s₁.gens= #[]→
      codeAny (model l.prog w) callerA (.call (.ref fa) ⟨[.ref a],[]⟩) (fun r s' =>r= .ok (.ret (.bool true))∧OldK s₁.heap s'.heap∧s'.os=s₁.os∧AllBare s'.gens) s₁):
    WalkO q loose XP YP l.row.toRowW d [] (fun f vs=>PySem.call f vs):=by
  intro w s₀ s₁ mg mb G Y fa o pm cd doc dV kV ho hd hcd hD hmg hg args vals as hpre hlay hrd hwl hlo;obtain rfl:dV= .none:=Dflts.none hD hdf;obtain rfl:kV= .none:=Dflts.noKw hD;obtain⟨a,vs,ns,rfl,rfl,hobj,hints,hlen⟩:=script_of hn hpre hwl;refine enter_call (codeAny_mono (call w s₀ s₁ mg mb fa o pm cd doc a vs ns G Y ho (fd_plain hd) hcd hmg hobj hints hlen hg) fun r s' hq=> ?_);obtain⟨rfl,h2,h3,h4⟩:=hq;exact⟨.inl ⟨.bool true,.bool true,[],rfl,fun _=>rfl,.bool true,post_true l _,fun _=>⟨List.Pairwise.nil,fun _ hm=>(nomatch hm)⟩⟩,h2,h3,h4⟩
section
variable{prog:Program}{w:World}{A:Around}{E:Value→Shared→Prop}{s:Shared}{K:Frag}
def ledger(h:Heap)(L d:Addr):List (Addr×Obj):=(List.range h.objs.size).filterMap fun a=>if a=L∨a=d then none else(h.get? a).map fun o=>(a,o)
end
end Att
namespace L2
open PySem PySem.Spec PyProof.Rows
theorem vals_ints:∀{vs:List Value} {ns:List Int},IntsAre vs ns→Vals (ns.map V.int) vs
  |_,_,.nil=> .nil
  |_,_,.cons n t h=> .cons ⟨t,rfl⟩ (vals_ints h)
def Only(H:Hp):Prop:=∀b,H b=none∨∃o xs,H b=some (.frz o (.lst xs))
theorem law_call {P:Program} {w:World} {K:PySem.W.Frag} {mg mb:Str→Option Value} {CX:CXT} {k:Nat} {fa a:Addr} {fd:FuncData} {x:Str} {sp:Sp} {s₁:Shared} {vs:List Value} {ns:List Int}
    (KX:K.In s₁.heap) (hns:s₁.heap.Ns mainGlobals mg) (hb:s₁.heap.Ns builtinsNs mb) (hbb:∀x:Str,x≠ "__name__" →mb x=bootBuiltins x) (hlim:s₁.heap.NoLimit) (hg:s₁.gens= #[])
    (ha:s₁.heap.get? a=some {cls:= .type "list",data:= .seq vs.toArray}) (hi:IntsAre vs ns) (hl:ns.length≤sizeLine) (hr:Room k callerA)
    (F:∀base:Heap,K.In base→base.Ns mainGlobals mg→FnOk P w K mg base CX k fa fd [x] sp) (hbind:∀(s:Shared) (u:Value),BindsTo s fd ⟨[u],[]⟩ [(x,u)])
    (hsp:∀H:Hp,Only H→SqL K H a (ns.map V.int)→sp [.ref a] H (fun v _=>v= .bl true) fun _ _ _=>False)
    (hCX:∀H e s',CX [] H s₁ (fun _ _ _=>False) e s'→False):
    codeAny (model P w) callerA (.call (.ref fa) ⟨[.ref a],[]⟩) (fun r s' =>r= .ok (.ret (.bool true))∧OldK s₁.heap s'.heap∧s'.os=s₁.os∧AllBare s'.gens) s₁:=by
  have rv:=vals_ints hi;have lenV:=hi.length
  have core :∀H:Hp,Only H→SqL K H a (ns.map V.int)→HOk P w H s₁.heap→(∀b,H b≠none→b=a)→(H a≠none→K.lookup a=none)→
      codeAny (model P w) callerA (.call (.ref fa) ⟨[.ref a],[]⟩) (fun r s' =>r= .ok (.ret (.bool true))∧OldK s₁.heap s'.heap∧s'.os=s₁.os∧AllBare s'.gens) s₁:=by
    intro H hO hS hok hA hK;have base_of:∀{b:Addr} {o:Obj},s₁.heap.get? b=some o→H b=none→(hidT s₁.heap H).get? b=some o:=fun e n=>hidT_get e n
    have noA:∀{b:Addr} {o:Obj} {es:Array DictEntry} {ep:Nat},s₁.heap.get? b=some o→o.data= .dict es ep→H b=none:=fun{b o es ep} e d=>by
      cases q:H b with
      |none=>rfl
      | some u=>
        have e' :b=a:=hA b (by rw[q];simp);subst e';rw[ha] at e;cases e
        have d' :Data.seq vs.toArray _=Data.dict es ep:=d;cases d'
    have nsK:∀{b:Addr} {m:Str→Option Value},s₁.heap.Ns b m→(hidT s₁.heap H).Ns b m:=fun{b m} ⟨o,es,ep,e,d,r⟩=>⟨o,es,ep,base_of e (noA e d),d,r⟩
    have hKb:K.In (hidT s₁.heap H):=fun b o e=>base_of (KX b o e) (by
      cases q:H b with
      |none=>rfl
      | some u=>
        have e' :b=a:=hA b (by rw[q];simp);subst e';rw[hK (by rw[q];simp)] at e;cases e)
    have hM:Mod K mg (hidT s₁.heap H):=⟨hKb,nsK hns,⟨mb,nsK hb,hbb⟩,let⟨mc,h1,h2⟩:=hlim;⟨mc,nsK h1,h2⟩⟩;have e0:Env0 P w K mg (hidT s₁.heap H) callerA [] s₁ H:=⟨rfl,hM,fun b o e=>of_hidT e,Nat.le_of_eq (hidT_size _ _),trivial,fun b hb=>absurd (show b∈([]:List Addr) from hb) (by simp),hok,.of_eq hg⟩;refine codeAny_mono ((F _ hKb (nsK hns)).run callerA [] s₁ H ⟨[.ref a],[]⟩ [.ref a] [.ref a] _ _ hr e0 (hbind s₁ (.ref a)) (.cons rfl .nil) (hsp H hO hS)) fun r s' h=> ?_
    cases r with
    |error e=>exact(hCX H e s' h).elim
    | ok fl =>
      cases fl with
      |next=>exact False.elim h
      |brk=>exact False.elim h
      |cont=>exact False.elim h
      | ret u=>
        obtain⟨v,H',os,bare,un,hok',r',q⟩:=h;have q' :v= .bl true:=q;subst q';obtain rfl:u=Value.bool true:=r';refine⟨rfl,OldK.of_keep fun b o e=> ?_,os,bare⟩
        cases q:H b with
        |none=>exact un.keep b o e q (by intro z;exact absurd (show b∈([]:List Addr) from z) (by simp)) (by simp)
        | some u=>
          rcases hO b with z|⟨ob,xs,z⟩
          · rw[q] at z;cases z
          · have z2:=un.frzs b ob _ z
            obtain⟨e1,_⟩:=hok b _ z;obtain⟨e2,_⟩:=hok' b _ z2;rw[e] at e1;cases e1
            exact e2
  cases hk:K.lookup a with
  | some o=>
    have e:=KX a o hk;rw[ha] at e;cases e;refine core (fun _=>none) (fun _=> .inl rfl) (.inr ⟨_,vs.toArray,_,hk,rfl,rfl,rfl,by rw[List.size_toArray,lenV];exact hl,by simpa using rv⟩) (fun b u z=>by have z' :(none:Option HO)=some u:=z;cases z') (fun b z=>absurd rfl z) fun z=>absurd rfl z
  | none=>
    refine core (fun b=>if b=a then some (.frz {cls:= .type "list",data:= .seq vs.toArray} (.lst (ns.map V.int))) else none) (fun b=> ?_) (.inl (.inr ⟨{cls:= .type "list",data:= .seq vs.toArray},if_pos rfl⟩)) (fun b u z=> ?_) (fun b z=> ?_) fun _=>hk
    · by_cases hb:b=a
      · exact .inr ⟨_,_,if_pos hb⟩
      · exact .inl (if_neg hb)
    · by_cases hb:b=a
      · have z' :=(if_pos hb).symm.trans z
        cases z';subst hb;exact⟨ha,by rw[List.length_map];exact hl,vs,_,rv,ha⟩
      · have z' :=(if_neg hb).symm.trans z
        cases z'
    · by_cases hb:b=a
      · exact hb
      · exact absurd (if_neg hb) z
end L2
namespace L2
open PySem PySem.Spec PyProof.Rows
theorem walk_of {l:PySem.W.OpenLaw} {n k:Nat} {q:Program} {loose:List Str} {XP:(Str→Option Value)→Heap→Prop} {YP:World→Heap→Prop} {d:DefRec} {K:Params→PySem.W.Frag} {CX:World→CXT} {sp:World→Sp} {x:Str}
    (hn:l.most=some n) (hn2:n≤sizeLine) (hdf:d.params.defaults=[]) (hr:Room k callerA)
    (hY:∀(w:World) (h:Heap),YP w h→(K w.params).In h)
    (F :∀(w:World) (mg:Str→Option Value) (fa:Addr) (h:Heap),(K w.params).In h→h.Ns mainGlobals mg→mg d.name=some (.ref fa)→
      ∃ fd:FuncData,(∀(s:Shared) (u:Value),BindsTo s fd ⟨[u],[]⟩ [(x,u)])∧
        ∀base:Heap,(K w.params).In base→base.Ns mainGlobals mg→FnOk l.prog w (K w.params) mg base (CX w) k fa fd [x] (sp w))
    (hsp:∀(w:World) (H:Hp) (a:Addr) (ns:List Int),ns.length≤n→Only H→SqL (K w.params) H a (ns.map V.int)→sp w [.ref a] H (fun v _=>v= .bl true) fun _ _ _=>False)
    (hCX:∀(w:World) (H:Hp) (s:Shared) (e:Value) (s' :Shared),CX w [] H s (fun _ _ _=>False) e s'→False):
    PySem.W.WalkO q loose XP YP l.row.toRowW d [] (fun f vs=>PySem.call f vs):=by
  refine Att.attach_call hn hdf fun w s₀ s₁ mg mb fa o pm cd doc a vs ns G Y ho hd hcd hmg hobj hints hlen hg=> ?_;have KX:=hY w _ Y;obtain⟨fd,hb,hF⟩:=F w mg fa _ KX G.T.g hmg;exact law_call KX G.T.g G.T.b G.T.builtins G.T.nolimit hg hobj hints (Nat.le_trans hlen hn2) hr hF hb (fun H hO hS=>hsp w H a ns hlen hO hS) fun H e s' =>hCX w H s₁ e s'
end L2
namespace L2
open PySem PySem.Spec PyProof.Rows
abbrev CX0:CXT:=fun _ _ _ _ _ _=>False
abbrev E0:XK:=fun _ _ _=>False
theorem pass0{X:Cx}:Passes CX0 X E0:=fun _ _ _ _ _ _ _ h=>h.elim
structure Fun (K:PySem.W.Frag) (x qual:Str) (st:Stmt) (f:Addr) (fd:FuncData):Prop where
  ex:∃(oc:Value) (od:Option Addr) (kV doc pm:Value) (an:Option Addr) (cdv ct:Value) (osl:Array (Option Value)),
    fd=PySem.W.fnOf x qual (defArgs st) (defBody st) (defScope st) .none kV doc pm an cdv ct∧K.lookup f=some ⟨oc,od,.func fd,osl⟩∧PySem.W.codeIn K cdv qual=true
  kp:PySem.W.keepIn K (.ref f)=true
section
variable{P:Program}{w:World}{K:PySem.W.Frag}{mg:Str→Option Value}{base:Heap}
theorem Fun.ok {x qual:Str} {st:Stmt} {f:Addr} {fd:FuncData} {N ps:List Str} {k:Nat} {sp:Sp} (F:Fun K x qual st f fd) (S:FnScope N ps (defScope st)) (len:∀vs H Q E,sp vs H Q E→vs.length=ps.length)
    (hbody:∀(cdv:Value) (A:Around) (outer:List Env) (s:Shared) (H:Hp) (vs:List V) (Q:VK) (E:XK),Room k (A.deeper (envOfC qual (defScope st) s.heap.objs.size f cdv))→sp vs H Q E→
      ∃t,PSs (cxOf CX0 P w K mg base N qual (defScope st) f cdv A outer s H E).nox (defBody st) t∧t {nx:=fun _ H' =>Q .non H',rt:=Q} (start N vs) H):FnOk P w K mg base CX0 (k+1) f fd ps sp:=by
  obtain⟨oc,od,kV,doc,pm,an,cdv,ct,osl,rfl,lk,hcd⟩:=F.ex;refine fn_of lk hcd S len fun A outer s H vs Q E hr hsp=> ?_;obtain⟨t,h,q⟩:=hbody cdv A outer s H vs Q E hr hsp;exact⟨t,h.nox,q⟩
theorem Fun.binds {x qual:Str} {st:Stmt} {f:Addr} {fd:FuncData} {ps:List Str} (F:Fun K x qual st f fd)
    (h:∀(kV doc pm:Value) (an:Option Addr) (cdv ct:Value) (us:List Value),us.length=ps.length→bindArgs (PySem.W.fnOf x qual (defArgs st) (defBody st) (defScope st) .none kV doc pm an cdv ct) ⟨us,[]⟩=pure (ps.zip us)):Binds K fd ps []:=by
  obtain⟨oc,od,kV,doc,pm,an,cdv,ct,osl,rfl,lk,hcd⟩:=F.ex;exact .all (h kV doc pm an cdv ct)
theorem fun_mk {x qual:Str} {st:Stmt} {f:Addr} {oc:Value} {od an:Option Addr} {osl:Array (Option Value)} {kV doc pm cdv ct:Value} (l:K.lookup f=some ⟨oc,od,.func (PySem.W.fnOf x qual (defArgs st) (defBody st) (defScope st) .none kV doc pm an cdv ct),osl⟩)
    (c:PySem.W.codeIn K cdv qual=true) (k:PySem.W.keepIn K (.ref f)=true):Fun K x qual st f (PySem.W.fnOf x qual (defArgs st) (defBody st) (defScope st) .none kV doc pm an cdv ct):=⟨⟨oc,od,kV,doc,pm,an,cdv,ct,osl,rfl,l,c⟩,k⟩
end
theorem hu_of{A:Around}{k:Nat}(hr:Room k A):A.units+1<cLine:=Nat.lt_of_le_of_lt (Nat.add_le_add_left (by decide:1≤64) _) hr.units
section
variable{X:Cx}
theorem pv (i:Nat) {x:Str} {pos:Pos} (hN:X.N[i]? =some x:=by rfl) (hv:Vis X.env.scope x:=by first|exact Or.inl rfl|exact Or.inr (Or.inl rfl)|exact Or.inr (Or.inr rfl)) (hd:(x==("__debug__" :Str))=false:=by decide)
    (hcd:(x==("__classdict__" :Str))=false:=by decide):PE X (.Name x pos) (tVar i):=pe_var hN hv hd hcd
end
theorem iteF {A B:Prop} (h:B):if false=true then A else B:=by
  rw[if_neg Bool.false_ne_true];exact h
theorem iteT {A B:Prop} (h:A):if true=true then A else B:=by
  rw[if_pos rfl];exact h
theorem ite2 {c A B:Prop} [Decidable c] (h1:c→A) (h2:¬c→B):if c then A else B:=by
  by_cases h:c
  · rw[if_pos h]
    exact h1 h
  · rw[if_neg h]
    exact h2 h
def Same(H H' :Hp):Prop:=∀b o,H b=some o→H' b=some o
theorem Same.refl(H:Hp):Same H H:=fun _ _ h=>h
theorem Same.trans{H H1 H2:Hp}(a:Same H H1)(b:Same H1 H2):Same H H2:=fun c o h=>b c o (a c o h)
theorem Same.free {H H' :Hp} (e:Same H H') {l:Addr} (h:H' l=Option.none):H l=Option.none:=by
  cases q:H l with
  |none=>rfl
  | some o=>
    rw[e l o q] at h;cases h
theorem Same.seq {K:PySem.W.Frag} {H H' :Hp} {a:Addr} {xs:List V} (e:Same H H') (h:SqL K H a xs):SqL K H' a xs:=by
  rcases h with(h|⟨o,h⟩)|h
  · exact .inl (.inl (e _ _ h))
  · exact .inl (.inr ⟨o,e _ _ h⟩)
  · exact .inr h
section
variable{κ:Type}[DecidableEq κ]
end
end L2
namespace L2
open PySem PySem.Spec PyProof.Rows
def clOf (env:Env):List (Str×NameKind)→List (Str×Addr)→List (Str×Addr)
  |[],acc=>acc
  |y::r,acc=>clOf env r (if(y.2==NameKind.free)=true then(y.1,(env.cells.lookup y.1).getD 0)::acc else acc)
theorem closure_go {env:Env}:∀(ns:List (Str×NameKind)) (acc:List (Str×Addr)),(∀y∈ns,y.2= .free→∃c,env.cells.lookup y.1=some c)→
    (forIn ns acc fun(x:Str×NameKind) (cs:List (Str×Addr))=>if(x.2==NameKind.free)=true then(cellOf env x.1>>= fun a=>pure (ForInStep.yield ((x.1,a)::cs))) else(pure (ForInStep.yield cs):Sem (ForInStep (List (Str×Addr)))))=pure (clOf env ns acc)
  |[],acc,_=>rfl
  | y ::r,acc,h=>by
    rw[List.forIn_cons];have ih:=fun a=>closure_go r a fun z hz=>h z (List.mem_cons_of_mem _ hz);by_cases hk:(y.2==NameKind.free)=true
    · obtain⟨c,hc⟩:=h y List.mem_cons_self (eq_of_beq hk)
      have e:cellOf env y.1=pure c:=by unfold cellOf;rw[hc]
      rw[if_pos hk,e];show(forIn r ((y.1,c)::acc) _:Sem (List (Str×Addr)))=_;rw[ih];show pure (clOf env r ((y.1,c)::acc))=pure (clOf env r (if(y.2==NameKind.free)=true then(y.1,(env.cells.lookup y.1).getD 0)::acc else acc));rw[if_pos hk,hc];rfl
    · rw[if_neg hk]
      show(forIn r acc _:Sem (List (Str×Addr)))=_;rw[ih];show pure (clOf env r acc)=pure (clOf env r (if(y.2==NameKind.free)=true then(y.1,(env.cells.lookup y.1).getD 0)::acc else acc));rw[if_neg hk]
theorem closure_of {scope:Scope} {env:Env} (h:∀y∈scope.names,y.2= .free→∃c,env.cells.lookup y.1=some c):closureFor scope env=pure (clOf env scope.names []):=by
  have q:=closure_go (env:=env) scope.names [] h;have e:closureFor scope env=((forIn scope.names ([]:List (Str×Addr)) fun(x:Str×NameKind) (cs:List (Str×Addr))=>if(x.2==NameKind.free)=true then(cellOf env x.1>>= fun a=>pure (ForInStep.yield ((x.1,a)::cs))) else(pure (ForInStep.yield cs):Sem (ForInStep (List (Str×Addr)))))>>= fun cs=>pure cs):=rfl;rw[e,q];rfl
theorem clOf_from {env:Env}:∀(ns:List (Str×NameKind)) (acc:List (Str×Addr)) {x:Str} {c:Addr},(∀y∈ns,y.2= .free→∃c,env.cells.lookup y.1=some c)→(clOf env ns acc).lookup x=some c→env.cells.lookup x=some c∨acc.lookup x=some c
  |[],acc,x,c,_,h=> .inr h
  | y :: r,acc,x,c,h,e=>by
    have e:(clOf env r (if(y.2==NameKind.free)=true then(y.1,(env.cells.lookup y.1).getD 0)::acc else acc)).lookup x=some c:=e;rcases clOf_from r _ (fun z hz=>h z (List.mem_cons_of_mem _ hz)) e with q|q
    · exact .inl q
    · by_cases hk:(y.2==NameKind.free)=true
      · rw[if_pos hk,List.lookup_cons] at q
        obtain⟨d,hd⟩:=h y List.mem_cons_self (eq_of_beq hk)
        cases hx:x==y.1 with
        | true=>
          rw[hx] at q;dsimp only at q;rw[hd] at q;have hxy:x=y.1:=eq_of_beq hx;subst hxy;exact .inl (hd.trans q)
        | false=>
          rw[hx] at q;exact .inr q
      · rw[if_neg hk] at q
        exact .inr q
theorem clOf_some {env:Env}:∀(ns:List (Str×NameKind)) (acc:List (Str×Addr)) {x:Str},((x,NameKind.free)∈ns∨∃c,acc.lookup x=some c)→∃c,(clOf env ns acc).lookup x=some c
  | [],acc,x,h=>by
    rcases h with h|h
    · cases h
    · exact h
  | y ::r,acc,x,h=>by
    show ∃c,(clOf env r (if(y.2==NameKind.free)=true then(y.1,(env.cells.lookup y.1).getD 0)::acc else acc)).lookup x=some c;refine clOf_some r _ ?_;rcases h with h|⟨c,hc⟩
    · rcases List.mem_cons.mp h with e|h
      · subst e
        refine .inr ⟨(env.cells.lookup x).getD 0,?_⟩;rw[if_pos (by rfl),List.lookup_cons,beq_self_eq_true]
      · exact .inl h
    · by_cases hk:(y.2==NameKind.free)=true
      · rw[if_pos hk]
        cases hx:x==y.1 with
        |true=>exact .inr ⟨_,by rw[List.lookup_cons,hx]⟩
        |false=>exact .inr ⟨c,by rw[List.lookup_cons,hx];exact hc⟩
      · rw[if_neg hk]
        exact .inr ⟨c,hc⟩
theorem relabel_from {env:Env} {x:Str} {k:NameKind}:∀(ns:List (Str×NameKind)),(ns.map fun(n,k)=>if(k==NameKind.free&&env.scope.kind== .function&&env.kindOf n==some .cell) then(n,NameKind.cell) else(n,k)).lookup x=some k→
    ns.lookup x=some k∨(ns.lookup x=some .free∧k= .cell)
  |[],h=>by cases h
  | (n, j)::r,h=>by
    have ih:=relabel_from (env:=env) (x:=x) (k:=k) r;rw[List.map_cons] at h;dsimp only at h;by_cases hc:(j==NameKind.free&&env.scope.kind== .function&&env.kindOf n==some .cell)=true
    · rw [if_pos hc,List.lookup_cons] at h
      rw[List.lookup_cons]
      cases hx:x==n with
      | true=>
        rw[hx] at h
        have hj:(j==NameKind.free)=true:=by
          rw[Bool.and_eq_true,Bool.and_eq_true] at hc;exact hc.1.1
        have hj:=eq_of_beq hj;subst hj;exact .inr ⟨rfl,(Option.some.inj h).symm⟩
      | false=>
        rw[hx] at h;exact ih h
    · rw[if_neg hc,List.lookup_cons] at h
      rw[List.lookup_cons]
      cases hx:x==n with
      | true=>
        rw[hx] at h;exact .inl h
      | false=>
        rw[hx] at h;exact ih h
theorem relabel_free {env:Env} {x:Str}:∀(ns:List (Str×NameKind)),ns.lookup x=some .free→
    (ns.map fun(n,k)=>if(k==NameKind.free&&env.scope.kind== .function&&env.kindOf n==some .cell) then(n,NameKind.cell) else(n,k)).lookup x=some .cell∨
    (ns.map fun(n,k)=>if(k==NameKind.free&&env.scope.kind== .function&&env.kindOf n==some .cell) then(n,NameKind.cell) else(n,k)).lookup x=some .free
  |[],h=>by cases h
  | (n, j)::r,h=>by
    have ih:=relabel_free (env:=env) (x:=x) r;rw[List.map_cons];dsimp only;rw[List.lookup_cons] at h;by_cases hc:(j==NameKind.free&&env.scope.kind== .function&&env.kindOf n==some .cell)=true
    · rw[if_pos hc,List.lookup_cons]
      cases hx:x==n with
      |true=>exact .inl rfl
      | false=>
        rw[hx] at h;exact ih h
    · rw[if_neg hc,List.lookup_cons]
      cases hx:x==n with
      | true=>
        rw[hx] at h;exact .inr h
      | false=>
        rw[hx] at h;exact ih h
def cxComp (X:Cx) (N:List Str) (scope:Scope) (cl:List (Str×Addr)) (C:Addr) (s:Shared) (H:Hp) (fp:List Addr):Cx where
  prog:=X.prog
  w:=X.w
  K:=X.K
  mg:=X.mg
  base:=X.base
  A:=X.A
  N:=N
  s₀:=s
  H₀:=H
  env:=compEnvC scope cl C X.env
  outer:=X.stack
  stack:=X.stack
  ex:=fp
  fn:=fun _=>false
  calm:=X.calm
  pn:=[]
  xe:=fun _ _=>False
def cσ(k:Nat)(js:List Nat)(σ:St):St:=List.replicate k none++js.map fun j=>σ.getD j none
structure CScope (X:Cx) (N:List Str) (scope:Scope) (k:Nat) (js:List Nat):Prop where
  kind:scope.kind= .function
  cell:∀y∈scope.names,y.2≠.cell
  loc:∀y∈scope.names,y.2= .local→scope.names.lookup y.1=some .local
  free:∀y∈scope.names,y.2= .free→X.env.kindOf y.1=some .cell∨X.env.kindOf y.1=some .free
  len:N.length=k+js.length
  names:∀(i j:Nat),js[i]? =some j→X.N[j]? =N[k+i]?
  js:∀(i:Nat) (x:Str),N[k+i]? =some x→scope.names.lookup x=some .free
section
variable{X:Cx}{pins:List (Addr×Obj)}{σ:St}{H:Hp}{s:Shared}{N:List Str}{scope:Scope}{k:Nat}{js:List Nat}
theorem CScope.cells(S:CScope X N scope k js)(ok:X.Ok):∀y∈scope.names,y.2= .free→∃c,X.env.cells.lookup y.1=some c:=fun y hy hf=>ok.has _ (S.free y hy hf)
theorem inv_comp {fp:List Addr} {h1:Heap} {t1:Nat} (I:Inv X pins σ H s) (S:CScope X N scope k js) (f:∀b∈fp,FpOk X pins H b) (fo:∀b∈fp,∃o,s.heap.get? b=some o)
    (hn:h1.Ns s.heap.objs.size fun _=>none) (hk:∀b o,s.heap.get? b=some o→h1.get? b=some o):
    Inv (cxComp X N scope (clOf X.env scope.names []) s.heap.objs.size s H fp) [] (cσ k js σ) H {s with heap:=h1,toks:=t1}:=by
  have cs:=S.cells I.ok
  have clE:∀{x:Str} {c:Addr},(clOf X.env scope.names []).lookup x=some c→X.env.cells.lookup x=some c:=fun{x c} e=>by
    rcases clOf_from scope.names [] cs e with q|q
    · exact q
    · cases q
  refine⟨⟨I.ok.mod,S.kind,I.ok.glob,I.ok.blt,Nat.le_refl _,fun x y c e1 e2=>I.ok.inj x y c (clE e1) (clE e2),fun x hx=> ?_,fun x c hf _=>(nomatch hf),I.ok.hd,I.ok.frames,.inl rfl,fun b hb=>⟨?_,fun x c e=> ?_⟩,I.bs,
    Nat.le_trans I.ok.bsz I.sz,fun b o e hb=> ?_,fun b hb z=> ?_,I.stack,I.stkFree⟩,rfl,I.bare,Un.kept hk,⟨_,hn,fun i x v e1 e2 e3=> ?_⟩,fun x c e=> ?_,I.hok.fresh (Nat.le_refl _),fun x c e=>I.freeC x c (clE e),fun p hp=> ?_,I.hok.kept hk,?_⟩
  · have hx:(relabel scope X.env).names.lookup x=some .cell∨(relabel scope X.env).names.lookup x=some .free:=hx
    have fr:scope.names.lookup x=some .free:=by
      rcases hx with q|q
      · rcases relabel_from scope.names q with z|z
        · exact absurd rfl (S.cell _ (PySem.mem_of_lookup z))
        · exact z.1
      · rcases relabel_from scope.names q with z|z
        · exact z
        · exact z.1
    exact clOf_some scope.names [] (.inl (PySem.mem_of_lookup fr))
  · obtain⟨o,ho⟩:=fo b hb
    exact Nat.ne_of_lt (Heap.lt_size ho)
  · exact(f b hb).2.2.2.2.1 x c (clE e)
  · rcases(f b hb).2.2.2.1 with z|z
    · exact I.ok.noex b o e z
    · exact absurd (Nat.lt_of_lt_of_le (Nat.lt_of_lt_of_le (Heap.lt_size e) I.ok.bsz) z) (Nat.lt_irrefl _)
  · rcases List.mem_cons.mp (I.stkSub b z) with q|q
    · exact(f b hb).2.1 q
    · exact(f b hb).2.2.1 q
  · have e1:N[i]? =some x:=e1
    have hi:k≤i:=by
      by_cases hi:i<k
      · unfold cσ at e2
        rw[List.getElem?_append_left (by rw[List.length_replicate];exact hi),List.getElem?_replicate,if_pos hi] at e2;cases e2
      · omega
    obtain⟨d,rfl⟩:∃d,i=k+d:=⟨i - k,by omega⟩;unfold cσ at e2;rw[List.getElem?_append_right (by rw[List.length_replicate];omega),List.length_replicate,List.getElem?_map] at e2;have ed:k+d - k=d:=by omega
    rw[ed] at e2
    cases ej:js[d]? with
    |none=>rw[ej] at e2;cases e2
    | some j=>
      rw[ej] at e2;have e2:σ.getD j none=some v:=Option.some.inj e2
      have e2' :σ[j]? =some (some v):=by
        rw[List.getD_eq_getElem?_getD] at e2
        cases q:σ[j]? with
        |none=>rw[q] at e2;cases e2
        |some z=>rw[q] at e2;rw[show z=some v from e2]
      have en:X.N[j]? =some x:=(S.names d j ej).trans e1;have fr:=S.js d x e1;have kx:=S.free _ (PySem.mem_of_lookup fr) rfl;obtain⟨m,_,hl⟩:=I.loc;obtain⟨u,r,l⟩:=hl j x v en e2' (by rcases kx with q|q;exact .inr (.inl q);exact .inr (.inr q));refine⟨u,r,.inr ⟨?_,?_⟩⟩
      · exact relabel_free (env:=X.env) scope.names fr
      · rcases l with⟨l,_⟩|⟨_,c,ec,ic⟩
        · rcases kx with q|q
          · dsimp only at q;rw[q] at l;cases l
          · dsimp only at q;rw[q] at l;cases l
        · obtain⟨c',e'⟩:=clOf_some (env:=X.env) scope.names [] (.inl (PySem.mem_of_lookup fr))
          have e'' :=clE e';rw[ec] at e'';cases e'';exact⟨c,e',ic.keeps hk⟩
  · obtain⟨v,q⟩:=I.cell x c (clE e)
    exact⟨v,q.keeps hk⟩
  · have hp:p∈([]:List (Addr×Obj)):=hp
    cases hp
  · show(cσ k js σ).length=N.length
    unfold cσ;rw[List.length_append,List.length_replicate,List.length_map,S.len]
end
def SubS(σ σ' :St):Prop:=∀(i:Nat) v,σ[i]? =some (some v)→σ'[i]? =some (some v)
theorem SubS.refl(σ:St):SubS σ σ:=fun _ _ h=>h
theorem SubS.own {σ σ' :St} {k i:Nat} {js:List Nat} {v:Option V} (h:SubS (cσ k js σ) σ') (hi:i<k):SubS (cσ k js σ) (σ'.set i v):=fun j u e=>by
  have hj:j≠i:=fun z=>by
    subst z;unfold cσ at e;rw[List.getElem?_append_left (by rw[List.length_replicate];exact hi),List.getElem?_replicate,if_pos hi] at e;cases e
  rw[List.getElem?_set_ne (Ne.symm hj)];exact h j u e
def CompGoal (J:It) (k:Nat) (js:List Nat) (g:TG) (tt:TT) (te:TE) (σ:St) (H1:Hp) (Q:VK):Prop:=∀p,H1 p=none→∃W:Nat→Nat→List V→Hp→Prop,(∃m,W 0 m [] (upd H1 p (.lst [])))∧
  ∀ i m ys H,W i m ys H→H p=some (.lst ys)∧((J.stop i H∧Q (.ref p) H)∨(J.go i H∧ys.length<sizeLine∧∀x H',J.yld i H x H'→g x (cσ k js σ) H' fun σ2 H2=>SubS (cσ k js σ) σ2∧tt σ2 H2 fun b H3=>
    if b=true then te σ2 H3 fun y H4=>H4 p=some (.lst ys)∧∃m',m' <m∧W (i+1) m' (ys++[y]) (upd H4 p (.lst (ys++[y]))) else ∃m',m' <m∧W (i+1) m' ys H3))
def tComp(wi:TI)(k:Nat)(js:List Nat)(g:TG)(tt:TT)(te:TE):TE:=fun σ H Q=>wi σ H fun J H1=>CompGoal J k js g tt te σ H1 Q
def tYes:TT:=fun _ H Q=>Q true H
def PIfs (Y:Cx) (ifs:List Expr) (t:TT):Prop:=
  ∀ (pins:List (Addr×Obj)) (s:Shared) (σ:St) (H:Hp) (Q:Bool→Hp→Prop),Inv Y pins σ H s→t σ H Q→
    wpAny (model Y.prog Y.w) Y.A (forIn ifs true fun c r=>if r=true then do let ok←isTrue c Y.env (eval c Y.env);pure (ForInStep.yield ok) else pure (ForInStep.yield r)) (TP Y pins σ Q) Y.xe s
theorem pif0{Y:Cx}:PIfs Y [] tYes:=fun _ _ _ H _ I h=>wpAny_tests_nil ⟨H,I,h⟩
theorem pif1{Y:Cx}{c:Expr}{t:TT}(h:PT Y c t):PIfs Y [c] t:=fun pins s σ H Q I hq=>wpAny_tests_one (h pins s σ H Q I hq)
section
variable{prog:Program}{w:World}{A:Around}{R:Result→Shared→Prop}{s:Shared}
theorem compLoop_any {elt target iter:Expr} {ifs:List Expr} {scope:Scope} {pos:Pos} {it acc:Value} {env:Env} (I:Nat→Shared→Prop)
    (turn : ∀ n s,I n s→wpAny (model prog w) A (pyNext it) (fun r s₁=>match r with
      |none=>R (.ok .next) s₁
      | some v=>wpAny (model prog w) A (letOwnedTupleGo target it v) (fun _ s₀=>wpAny (model prog w) A (assign target env v) (fun _ s₂=>
          wpAny (model prog w) A (forIn ifs true fun c r=>if r=true then do let ok←isTrue c env (eval c env);pure (ForInStep.yield ok) else pure (ForInStep.yield r)) (fun ok s₃=>
            if ok=true then wpAny (model prog w) A (eval elt env) (fun x s₄=>
              wpAny (model prog w) A (call (.builtin "list.append") [acc,x]) (fun _ s₅=>∃m,m<n∧I m s₅) (fun _ _=>False) s₄) (fun _ _=>False) s₃
            else ∃m,m<n∧I m s₃) (fun _ _=>False) s₂) (fun _ _=>False) s₀) (fun _ _=>False) s₁) (fun _ _=>False) s)
    (n:Nat) (h:I n s):
    codeAny (model prog w) A (.compLoop (.ListComp elt [⟨target,iter,ifs,0⟩] scope pos) 0 it acc env) R s:=by
  refine codeAny_loop rfl I (fun n s hI=> ?_) n h;show wpAny _ A ((compTurn (.ListComp elt [⟨target,iter,ifs,0⟩] scope pos) 0 it acc env).onRaise (fun x=>do noteFrame x env;theTreesLotGoes x)) _ _ s;refine wpAny_noted ?_;rw[compTurn_list];refine wpAny_bind (wpAny_standAt (wpAny_bind (wpAny_mono (turn n s hI) (fun r s₁ h₁=> ?_) fun _ _ h' =>h'.elim)))
  cases r with
  |none=>exact wpAny_pure h₁
  | some v=>
    refine wpAny_bind (wpAny_mono h₁ (fun _ s₀ h₀=> ?_) fun _ _ h' =>h'.elim);refine wpAny_bind (wpAny_mono h₀ (fun _ s₂ h₂=>wpAny_bind (wpAny_mono h₂ (fun ok s₃ h₃=> ?_) fun _ _ h' =>h'.elim)) fun _ _ h' =>h'.elim)
    cases ok with
    |false=>exact wpAny_pure ⟨rfl,h₃⟩
    | true=>
      exact wpAny_bind (wpAny_bind (wpAny_mono h₃ (fun x s₄ h₄=>wpAny_bind (wpAny_mono h₄ (fun _ s₅ h₅=>wpAny_pure (wpAny_pure ⟨rfl,h₅⟩)) fun _ _ h' =>h'.elim)) fun _ _ h' =>h'.elim))
end
section
variable{X:Cx}{tg iter elt:Expr}{ifs:List Expr}{scope:Scope}{pos:Pos}{N:List Str}{k:Nat}{js:List Nat}{wi:TI}{g:TG}{tt:TT}{te:TE}
theorem comp_core {pins:List (Addr×Obj)} {s2:Shared} {σ:St} {H2:Hp} {it:Addr} {fp:List Addr} {tn:Nat→Heap→Prop} {J:It} {Q:VK} {RR:Value→Addr→Result→Shared→Prop} {E:Value→Shared→Prop} (hc:X.calm=true) (S:CScope X N scope k js)
    (hb:∀(cl:List (Str×Addr)) (C:Addr) (s:Shared) (H:Hp) (fp:List Addr),PG (cxComp X N scope cl C s H fp) tg g∧PIfs (cxComp X N scope cl C s H fp) ifs tt∧PE (cxComp X N scope cl C s H fp) elt te)
    (I2:Inv X pins σ H2 s2) (T:Turn X.prog X.w X.K tg J fp it tn) (st2:tn 0 s2.heap) (f2:∀b∈fp,FpOk X pins H2 b)
    (h :∀p,H2 p=none→∃W:Nat→Nat→List V→Hp→Prop,(∃m,W 0 m [] (upd H2 p (.lst [])))∧
      ∀ i m ys H,W i m ys H→H p=some (.lst ys)∧((J.stop i H∧Q (.ref p) H)∨(J.go i H∧ys.length<sizeLine∧∀x H',J.yld i H x H'→g x (cσ k js σ) H' fun σ2 H2=>SubS (cσ k js σ) σ2∧tt σ2 H2 fun b H3=>
        if b=true then te σ2 H3 fun y H4=>H4 p=some (.lst ys)∧∃m',m' <m∧W (i+1) m' (ys++[y]) (upd H4 p (.lst (ys++[y]))) else ∃m',m' <m∧W (i+1) m' ys H3)))
    (hR:∀(p C:Addr) (s' :Shared) (H' :Hp) (m:Str→Option Value),Inv X pins σ H' s'→Q (.ref p) H'→s'.heap.Ns C m→H' C=none→C≠X.env.locals→X.s₀.heap.objs.size≤C→(∀x c,X.env.cells.lookup x=some c→c≠C)→(∀q∈X.pn++pins,q.1≠C)→RR (.ref p) C (.ok .next) s'):
    wpAny (model X.prog X.w) X.A (newList []) (fun acc s₃=>wpAny (model X.prog X.w) X.A (newFunctionEnv scope X.env.globals (clOf X.env scope.names []) [] X.env.qual none .none (some X.env)) (fun cenv s₄=>
      codeAny (model X.prog X.w) X.A (.compStart (.ListComp elt [⟨tg,iter,ifs,0⟩] scope pos) 0 (.ref it) acc {cenv with scope:=relabel scope X.env}) (RR acc cenv.locals) s₄) E s₃) E s2:=by
  have hf:H2 s2.heap.objs.size=none:=I2.hok.fresh (Nat.le_refl _);obtain⟨W,⟨m0,w0⟩,turn⟩:=h s2.heap.objs.size hf;have I3:Inv X pins σ (upd H2 s2.heap.objs.size (.lst [])) {s2 with heap:=s2.heap.push {cls:= .type "list",dict:=none,data:= .seq ([]:List Value).toArray},toks:=s2.toks}:=I2.lnew (ys:=[]) .nil (Nat.zero_le _);refine wpAny_newObj_type (wpAny_newFunctionEnv S.cell (by intro y hy;simp at hy) (fun h₁ hns₁ hsb₁=> ?_) S.kind);dsimp only at hns₁ hsb₁ ⊢;generalize hp:s2.heap.objs.size=p at*
  generalize hH3:s2.heap.push {cls:= .type "list",dict:=none,data:= .seq ([]:List Value).toArray}=g3 at hns₁ hsb₁ I3 ⊢;have k23:∀b o,s2.heap.get? b=some o→g3.get? b=some o:=fun b o e=>hH3▸Heap.get?_push_of_some _ e;have k34:∀b o,g3.get? b=some o→h₁.get? b=some o:=fun b o e=>hsb₁.extBut b o (Nat.ne_of_lt (Heap.lt_size e)) (Heap.get?_push_of_some _ e)
  have npf:∀b∈fp,b≠p:=fun b hb z=>by
    obtain⟨o,ho,_⟩:=T.obj _ _ st2 b hb;have:=Heap.lt_size ho;rw[hp,z] at this;exact Nat.lt_irrefl _ this
  have f3:∀b∈fp,FpOk X pins (upd H2 p (.lst [])) b:=fun b hb=>⟨by rw[upd_ne (npf b hb)];exact(f2 b hb).1,(f2 b hb).2⟩
  have fo3:∀b∈fp,∃o,g3.get? b=some o:=fun b hb=>by
    obtain⟨o,ho,_⟩:=T.obj _ _ st2 b hb;exact⟨o,k23 b o ho⟩
  have J0:=inv_comp (s:={s2 with heap:=g3,toks:=s2.toks}) (h1:=h₁) (t1:=s2.toks+([]:List (Str×Value)).length) I3 S f3 fo3 hns₁ k34;have st4:tn 0 h₁:=T.keep _ _ _ st2 fun b hb o e=>k34 b o (k23 b o e);obtain⟨hG,hT,hE⟩:=hb (clOf X.env scope.names []) g3.objs.size {s2 with heap:=g3,toks:=s2.toks} (upd H2 p (.lst [])) fp
  generalize hY:cxComp X N scope (clOf X.env scope.names []) g3.objs.size {s2 with heap:=g3,toks:=s2.toks} (upd H2 p (.lst [])) fp=Y at*
  have yp:Y.prog=X.prog:=by rw[←hY];rfl
  have yw:Y.w=X.w:=by rw[←hY];rfl
  have yK:Y.K=X.K:=by rw[←hY];rfl
  have yA:Y.A=X.A:=by rw[←hY];rfl
  have yc:Y.calm=true:=by rw[←hY];exact hc
  have yx:Y.xe=fun _ _=>False:=by rw[←hY];rfl
  have ye:Y.env=compEnvC scope (clOf X.env scope.names []) g3.objs.size X.env:=by rw[←hY];rfl
  have ypn:Y.pn=[]:=by rw[←hY];rfl
  have yex:Y.ex=fp:=by rw[←hY];rfl
  have yfs:Y.fs=frs X.stack:=by rw[←hY];rfl
  have clE:∀{x:Str} {c:Addr},(clOf X.env scope.names []).lookup x=some c→X.env.cells.lookup x=some c:=fun{x c} e=>by
    rcases clOf_from scope.names [] (S.cells I2.ok) e with q|q
    · exact q
    · cases q
  have stat:∀{H' :Hp},(∀b∈fp,H' b=none)→∀b∈fp,FpOk Y [] H' b:=fun hn b hb=>by
    refine⟨hn b hb,?_,?_,?_,fun x c e=> ?_,fun q hq=> ?_⟩
    · rw[ye]
      obtain⟨o,ho⟩:=fo3 b hb;exact Nat.ne_of_lt (Heap.lt_size ho)
    · rw[yfs]
      intro z;rcases List.mem_cons.mp (I2.stkSub b z) with q|q
      · exact(f2 b hb).2.1 q
      · exact(f2 b hb).2.2.1 q
    · rw[yex];exact .inl hb
    · rw[ye] at e
      exact(f2 b hb).2.2.2.2.1 x c (clE e)
    · rw[ypn] at hq;cases hq
  have endH:∀{σ' :St} {H' :Hp} {s' :Shared},Inv Y [] σ' H' s'→Q (.ref p) H'→RR (.ref p) g3.objs.size (.ok .next) s' :=fun{σ' H' s'} I' q=>by
    have u:=I'.base;have ho:=I'.os;rw[yfs,yex] at u;subst hY;have IX:Inv X pins σ H' s' :=I3.call' (ch:=fp) ho u I'.hok I'.bare fun b hb=>⟨(f2 b hb).2.2.2.1,(f2 b hb).2.1,(f2 b hb).2.2.2.2.1,(f2 b hb).2.2.2.2.2⟩;obtain⟨m,hn,_⟩:=I'.loc;refine hR p g3.objs.size s' H' m IX q hn I'.free (fun z=> ?_) (Nat.le_trans I3.sz (Nat.le_refl _)) (fun x c e z=> ?_) fun r hr z=> ?_
    · exact absurd (z▸I3.lt) (Nat.lt_irrefl _)
    · obtain⟨v,o,ho,_⟩:=I3.cell x c e
      exact absurd (z▸Heap.lt_size ho) (Nat.lt_irrefl _)
    · obtain⟨ho,_⟩:=I3.pin r hr
      exact absurd (z▸Heap.lt_size ho) (Nat.lt_irrefl _)
  have loop:codeAny (model X.prog X.w) X.A (.compLoop (.ListComp elt [⟨tg,iter,ifs,0⟩] scope pos) 0 (.ref it) (.ref p) (compEnvC scope (clOf X.env scope.names []) g3.objs.size X.env)) (RR (.ref p) g3.objs.size) {s2 with heap:=h₁,toks:=s2.toks+([]:List (Str×Value)).length}:=by
    refine compLoop_any (fun n s' =>∃i ys H',Inv Y [] (cσ k js σ) H' s'∧tn i s'.heap∧(∀b∈fp,H' b=none)∧W i n ys H') ?_ m0 ⟨0,[],_,J0,st4,fun b hb=>(f3 b hb).1,w0⟩
    rintro n s5 ⟨i,ys,H5,I5,st5,fr5,w5⟩
    obtain⟨hys,w5⟩:=turn i n ys H5 w5;rw[←yp,←yw,←yA,←ye];have T' :Turn Y.prog Y.w Y.K tg J fp it tn:=by rw[yp,yw,yK];exact T
    rcases w5 with⟨stop,q⟩|⟨go,hz,step⟩
    · refine thn (T'.done Y rfl rfl rfl yc i [] s5 _ H5 _ I5 (stat fr5) st5 stop) fun r s6 ⟨hr,I6⟩=> ?_
      subst hr;exact endH I6 q
    · refine thn (T'.item Y rfl rfl rfl yc i [] s5 _ H5 _ I5 (stat fr5) st5 go) fun r s6 ⟨u,hr,h6⟩=> ?_
      subst hr;refine thn h6 fun _ s7 ⟨x,H7,I7,r7,y7,st7,fr7⟩=> ?_;have I7' :=I7.pinned (stat fr7) (T.obj _ _ st7)
      have fin:∀{σ8:St} {H8:Hp} {s8:Shared},SubS (cσ k js σ) σ8→Inv Y ([]++pinsAt fp s7.heap) σ8 H8 s8→Inv Y [] (cσ k js σ) H8 s8∧tn (i+1) s8.heap∧∀b∈fp,H8 b=none:=fun{σ8 H8 s8} sb I8=>by
        refine⟨?_,T.keep _ _ _ st7 fun b hb o e=>(I8.pin (b,o) (List.mem_append_right _ (List.mem_append_right _ (mem_pinsAt hb e)))).1,fun b hb=> ?_⟩
        · exact(I8.unpinned (pins:=[])).weak (by rw[I5.len,I8.len]) sb
        · obtain⟨o,e,d⟩:=T.obj _ _ st7 b hb
          exact(I8.pin (b,o) (List.mem_append_right _ (List.mem_append_right _ (mem_pinsAt hb e)))).2.1
      have wE:∀{α:Type} {t:Sem α} {P:α→Shared→Prop} {s' :Shared},wpAny (model Y.prog Y.w) Y.A t P Y.xe s'→wpAny (model Y.prog Y.w) Y.A t P (fun _ _=>False) s' :=fun{α t P s'} h=>by rw[yx] at h;exact h
      refine thn (wE (hG _ s7 _ H7 x u _ I7' r7 (step x H7 y7))) fun _ s8 ⟨σ8,H8,I8,sb,q8⟩=> ?_;refine thn (wE (hT _ s8 σ8 H8 _ I8 q8)) fun b s9 ⟨H9,I9,q9⟩=> ?_
      cases b with
      | false=>
        have q9:∃m',m' <n∧W (i+1) m' ys H9:=q9;obtain⟨m',hm,w9⟩:=q9;obtain⟨a1,a2,a3⟩:=fin sb I9;exact⟨m',hm,i+1,ys,H9,a1,a2,a3,w9⟩
      | true=>
        refine thn (wE (hE _ s9 σ8 H9 _ I9 q9)) fun y s10 ⟨v,H10,I10,r10,e10,m',hm,w10⟩=> ?_;refine thn (wE (mt_append _ s10 σ8 H10 (.ref p) [v] (.ref p) [y] (fun _ H11=>∃m',m' <n∧W (i+1) m' (ys++[v]) H11) I10 rfl (.cons r10 .nil) ⟨p,ys,v,rfl,rfl,e10,hz,m',hm,w10⟩)) fun z s11 ⟨_,H11,I11,_,m2,hm2,w11⟩=> ?_;obtain⟨a1,a2,a3⟩:=fin sb I11;exact⟨m2,hm2,i+1,ys++[v],H11,a1,a2,a3,w11⟩
  refine codeAny_compStart_list loop ?_;exact T.self _ _ _ _ _ st4 loop
theorem pe_comp (hc:X.calm=true) (S:CScope X N scope k js) (hi:PI X tg iter wi)
    (hb:∀(cl:List (Str×Addr)) (C:Addr) (s:Shared) (H:Hp) (fp:List Addr),PG (cxComp X N scope cl C s H fp) tg g∧PIfs (cxComp X N scope cl C s H fp) ifs tt∧PE (cxComp X N scope cl C s H fp) elt te)
    (hs:∀x,foldedSetIterable iter X.env x=pure x:=by intro _;rfl):PE X (.ListComp elt [⟨tg,iter,ifs,0⟩] scope pos) (tComp wi k js g tt te):=by
  intro pins s σ H Q I h;rw[eval_ListComp];refine wpAny_comprehension_free (use:=none) rfl hs (closure_of (S.cells I.ok)) S.kind S.loc (thn (hi pins s σ H _ I h) fun v s1 h1=>thn h1 fun itv s2 h2=> ?_);obtain⟨it,fp,tn,J,H2,e,I2,T,st2,f2,q⟩:=h2;subst e;refine comp_core (RR:=fun acc C=>compPost (model X.prog X.w) X.A X.xe none (EP X pins σ Q) acc C) hc S hb I2 T st2 f2 q ?_;intro p C s' H' m IX q' hn hC hL h0 hcl hpn;refine⟨m,hn,fun h' sb=>⟨.ref p,H',?_,rfl,q'⟩⟩;exact IX.turned (t' :=s'.toks) (fun b o hb e=>(sb.2 b hb).trans e) hC (Ne.symm hL).symm (.inr h0) hcl hpn
theorem ps_setC {i:Nat} {x:Str} {pos' cpos:Pos} (hN:X.N.Nodup) (hi' :X.N[i]? =some x) (hx:Loc X.env.scope x) (hc:X.calm=true) (S:CScope X N scope k js) (hi:PI X tg iter wi)
    (hb:∀(cl:List (Str×Addr)) (C:Addr) (s:Shared) (H:Hp) (fp:List Addr),PG (cxComp X N scope cl C s H fp) tg g∧PIfs (cxComp X N scope cl C s H fp) ifs tt∧PE (cxComp X N scope cl C s H fp) elt te)
    (hsw:swapsWith (.ListComp elt [⟨tg,iter,ifs,0⟩] scope cpos) (some (.Name x pos')) pos.line X.env=pure true:=by rfl)
    (hs:∀x,foldedSetIterable iter X.env x=pure x:=by intro _;rfl) (hf:X.fn x=true∨X.env.scope.names.lookup x=some .local:=by first|exact .inl rfl|exact .inr rfl|assumption):
    PS X (.Assign [.Name x pos'] (.ListComp elt [⟨tg,iter,ifs,0⟩] scope cpos) pos) (tAsg (tComp wi k js g tt te) (gName i)):=by
  intro pins s σ H D I h;rw[exec_Assign_Name_used _ _ _ _ hsw];refine wpAny_bind (wpAny_standAt (wpAny_bind ?_));show wpAny _ X.A (do let _←comprehension (.ListComp elt [⟨tg,iter,ifs,0⟩] scope cpos) scope X.env _ (newList []) false (eval iter X.env) (some (assign (.Name x pos') X.env))) _ _ s
  refine wpAny_bind (wpAny_mono (wpAny_comprehension_free (use:=some (assign (.Name x pos') X.env)) (Q:=fun _ s' =>SP X pins D .next s') rfl hs (closure_of (S.cells I.ok)) S.kind S.loc (thn (hi pins s σ H _ I h) fun v s1 h1=>thn h1 fun itv s2 h2=> ?_))
    (fun _ s' hq=>wpAny_pure (wpAny_pure hq)) fun _ _ e=>e)
  obtain⟨it,fp,tn,J,H2,e,I2,T,st2,f2,q⟩:=h2;subst e;refine comp_core (Q:=fun v H' =>D.nx (σ.set i (some v)) H') (RR:=fun acc C=>compPost (model X.prog X.w) X.A X.xe (some (assign (.Name x pos') X.env)) (fun _ s' =>SP X pins D .next s') acc C) hc S hb I2 T st2 f2 q ?_;intro p C s' H' m IX q' hn hC hL h0 hcl hpn;show wpAny _ X.A (assign (.Name x pos') X.env (.ref p)) _ _ s';refine wpAny_assign_Name (store_ok2 (v:= .ref p) IX hN hi' hx rfl (fun s'' I'' ⟨a,sb,ha⟩=> ?_) hf)
  have hCa:C≠a:=by
    rcases ha with z|z
    · rw[z];exact hL
    · exact fun e=>hcl x a z e.symm
  refine⟨m,hn.sameBut sb hCa,fun h' sb' =>⟨σ.set i (some (.ref p)),H',?_,q'⟩⟩;exact I''.turned (t' :=s''.toks) (fun b o hb e=>(sb'.2 b hb).trans e) hC hL (.inr h0) hcl hpn
end
def cOk (osc:Scope) (ON N:List Str) (scope:Scope) (k:Nat) (js:List Nat):Bool:=
  (scope.kind== .function)&&scope.names.all (fun y=> !(y.2== .cell))&&scope.names.all (fun y=> !(y.2== .local)||scope.names.lookup y.1==some .local)&&
  scope.names.all (fun y=> !(y.2== .free)||(osc.names.lookup y.1==some .cell||osc.names.lookup y.1==some .free))&&(N.length==k+js.length)&&
  (List.range js.length).all (fun i=>ON[js.getD i 0]? ==N[k+i]?)&&(N.drop k).all fun x=>scope.names.lookup x==some .free
theorem cscope_of {X:Cx} {N:List Str} {scope:Scope} {k:Nat} {js:List Nat} (h:cOk X.env.scope X.N N scope k js=true):CScope X N scope k js:=by
  unfold cOk at h;simp only[Bool.and_eq_true] at h;obtain⟨⟨⟨⟨⟨⟨h1,h2⟩,h3⟩,h4⟩,h5⟩,h6⟩,h7⟩:=h;have h5:=eq_of_beq h5;rw[List.all_eq_true] at h2 h3 h4 h6 h7;refine⟨eq_of_beq h1,fun y hy e=> ?_,fun y hy e=> ?_,fun y hy e=> ?_,h5,fun i j e=> ?_,fun i x e=> ?_⟩
  · have q:=h2 y hy
    rw[e] at q;exact absurd q (by decide)
  · have q:=h3 y hy
    rw[e] at q;exact eq_of_beq (by simpa using q)
  · have q:=h4 y hy
    rw[e] at q;have q:(X.env.scope.names.lookup y.1==some .cell||X.env.scope.names.lookup y.1==some .free)=true:=by simpa using q
    rw[Bool.or_eq_true] at q;rcases q with q|q
    · exact .inl (eq_of_beq q)
    · exact .inr (eq_of_beq q)
  · have hi:i<js.length:=(List.getElem?_eq_some_iff.mp e).1
    have q:=eq_of_beq (h6 i (List.mem_range.mpr hi));rw[List.getD_eq_getElem?_getD,e] at q;exact q
  · refine eq_of_beq (h7 x ?_)
    rw[List.mem_iff_getElem?];exact⟨i,by rw[List.getElem?_drop];exact e⟩
end L2
namespace L2
open PySem PySem.Spec PyProof.Rows
section
variable{X:Cx}
theorem call_isinst:CallR X (.builtin "isinstance") (fun xs H Q=>∃x T t b,xs=[x,.ty T]∧TyOf X.K H x t∧PySem.W.kitOne X.K t (.type T)=some b∧Q (.bl b) H):=by
  intro pins s σ H xs us Q I r h;obtain⟨x,T,t,b,rfl,ty,e,q⟩:=h;obtain⟨u,c,rfl,ru,rc⟩:=vals2 r;cases rc;exact isinst_ok I ru ty e fun tk=>⟨.bl b,H,I.tok tk,rfl,q⟩
end
section
variable{X:Cx}{tg:Expr}
end
section
variable{X:Cx}
end
end L2
namespace L2
open PySem PySem.Spec PyProof.Rows
theorem Same.upd {H:Hp} {p:Addr} {o:HO} (h:H p=none):Same H (upd H p o):=fun b u e=>by
  rw[upd_ne (ne_of_none e h)];exact e
structure Feeds (J:It) (H:Hp) (xs:List V):Prop where
  go:∀i H',Same H H'→i<xs.length→J.go i H'
  yld:∀i H' x H'',Same H H'→J.yld i H' x H''→H'' =H'∧(i<xs.length→xs[i]? =some x)
  stop:∀i H',Same H H'→xs.length≤i→J.stop i H'
theorem feeds_list {K:PySem.W.Frag} {a:Addr} {xs:List V} {H:Hp} (h:SqL K H a xs):Feeds (Itl K a) H xs where
  go:=fun i H' s hi=>⟨xs,xs[i],s.seq h,by simp[hi]⟩
  yld:=fun i H' x H'' s q=>⟨q.1,fun _=>q.2 xs (s.seq h)⟩
  stop:=fun i H' s hi=>⟨xs,s.seq h,hi⟩
theorem feeds_range (lo:Int) (n:Nat) (H:Hp):Feeds (Itr lo n) H ((List.range n).map fun(i:Nat)=>V.int (lo+(i:Int))) where
  go:=fun i H' _ h=>by
    show i<n;simpa using h
  yld:=fun i H' x H'' _ q=>by
    obtain⟨e,rfl⟩:=q;refine⟨e,fun h=> ?_⟩;have h:i<n:=by simpa using h
    simp[List.getElem?_map,List.getElem?_range h]
  stop:=fun i H' _ h=>by
    show n≤i;simpa using h
theorem comp_pure {J:It} {xs:List V} {k:Nat} {js:List Nat} {g:TG} {tt:TT} {te:TE} {σ:St} {H:Hp} {Q:VK} (pb:V→Bool) (fe:V→V) (F:Feeds J H xs) (hlen:xs.length≤sizeLine)
    (hbody:∀(i:Nat) (x:V) (H' :Hp) (C1:V→Hp→Prop) (C0:Hp→Prop),xs[i]? =some x→Same H H'→(pb x=true→C1 (fe x) H')→(pb x=false→C0 H')→
      g x (cσ k js σ) H' fun σ2 H2=>SubS (cσ k js σ) σ2∧tt σ2 H2 fun b H3=>if b=true then te σ2 H3 C1 else C0 H3)
    (hq:∀p,H p=none→Q (.ref p) (upd H p (.lst ((xs.filter pb).map fe)))):
    CompGoal J k js g tt te σ H Q:=by
  intro p hp;refine⟨fun i m ys H' =>m=xs.length - i∧i≤xs.length∧ys=((xs.take i).filter pb).map fe∧H' =upd H p (.lst ys),⟨xs.length,rfl,Nat.zero_le _,rfl,rfl⟩,?_⟩
  rintro i m ys H' ⟨rfl,hi,rfl,rfl⟩
  refine⟨upd_same,?_⟩;have hs:Same H (upd H p (.lst (((xs.take i).filter pb).map fe))):=Same.upd hp;by_cases hlt:i<xs.length
  · refine .inr ⟨F.go i _ hs hlt,?_,fun x H'' hy=> ?_⟩
    · rw[List.length_map]
      have h1:((xs.take i).filter pb).length≤(xs.take i).length:=List.length_filter_le _ _;rw[List.length_take] at h1;omega
    · obtain⟨rfl,hx⟩:=F.yld i _ x H'' hs hy
      have hx:=hx hlt;have et:(xs.take (i+1)).filter pb=(xs.take i).filter pb++(if pb x=true then[x] else[]):=PySem.take_succ_filter pb xs i x hx;refine hbody i x _ _ _ hx hs (fun hb=>⟨upd_same,xs.length - (i+1),by omega,rfl,hlt,?_,?_⟩) (fun hb=>⟨xs.length - (i+1),by omega,rfl,hlt,?_,rfl⟩)
      · rw[et,if_pos hb,List.map_append]
        rfl
      · rw[upd_upd]
      · rw[et,hb]
        simp
  · have e:i=xs.length:=by omega
    subst e;refine .inl ⟨F.stop _ _ hs (Nat.le_refl _),?_⟩;rw[List.take_length];exact hq p hp
theorem pss_imp{X:Cx}{sts:List Stmt}{t:TS}(R:TS)(h:PSs X sts t)(hR:∀D σ H,R D σ H→t D σ H):PSs X sts R:=fun pins s σ H D I hq=>h pins s σ H D I (hR D σ H hq)
end L2
namespace L2
open PySem PySem.Spec PyProof.Rows
def Itv (K:PySem.W.Frag) (a:Addr) (n:Nat):It:=
  ⟨fun i H=>i<n∧∃xs,SqL K H a xs∧xs.length=n,fun i H x H' =>H' =H∧∀xs,SqL K H a xs→xs[n - 1 - i]? =some x,fun i _=>n≤i⟩
theorem turn_rev {P:Program} {w:World} {K:PySem.W.Frag} {tg:Expr} (a it:Addr) (n:Nat):Turn P w K tg (Itv K a n) [it] it (fun i h=>i≤n∧h.IsRevIter it a ((n:Int) - 1 - (i:Int))) where
  mem:=by simp
  obj:=fun i h st b hb=>by
    have e:b=it:=by simpa using hb
    subst e;obtain⟨_,o,e,c,d⟩:=st;exact⟨o,e,fun v z=>by rw[d] at z;cases z⟩
  keep:=fun i h h' st k=>⟨st.1,st.2.at fun o e=>k it (by simp) o e⟩
  item:=by
    intro X hP hw hK hc i pins s σ H E I hf st hg;subst hP hw hK;obtain⟨hi,xs,hq,hlen⟩:=hg;obtain⟨its,rv,p,hz⟩:=I.list hq;have hl:=rv.length;have hx:xs[n - 1 - i]? =some xs[n - 1 - i]:=by simp[show n - 1 - i<xs.length by omega]
    obtain⟨u,hu,ru⟩:=rv.get hx;obtain⟨f0,f1,f2,f3,f4,f5⟩:=hf it (by simp);have e:(n:Int) - 1 - (i:Int)=((n - 1 - i:Nat):Int):=by omega
    have hit:=st.2;rw[e] at hit;refine wpAny_pyNext_rev_item hit p.isList (x:=u) (by simpa using hu) fun h' st' sb=> ?_;have I1:Inv X pins σ H {s with heap:=h'}:=I.turned (t' :=s.toks) (fun b o hb e=>(sb.2 b hb).trans e) f0 f1 f3 f4 f5;have e2:((n - 1 - i:Nat):Int) - 1=(n:Int) - 1 - ((i+1:Nat):Int):=by omega
    rw[e2] at st';obtain⟨o,eo,c,d⟩:=id st';exact⟨u,rfl,go_of (s:={s with heap:=h'}) eo c d (by decide) ⟨_,H,I1,ru,⟨rfl,fun ys hy=>by rw[I.list_inj hy hq];exact hx⟩,⟨hi,st'⟩,fun b hb=>(hf b hb).1⟩⟩
  done:=by
    intro X hP hw hK hc i pins s σ H E I hf st hg;subst hP hw hK;obtain⟨f0,f1,f2,f3,f4,f5⟩:=hf it (by simp);have ei:i=n:=Nat.le_antisymm st.1 hg;subst ei;have hit:=st.2;have e:(i:Int) - 1 - (i:Int)= -1:=by omega
    rw[e] at hit;exact wpAny_pyNext_rev_end (I.ok.hd hc) hit fun h' eb=>⟨rfl,I.turned (t' :=s.toks) (fun b o hb e=>eb b o hb e) f0 f1 f3 f4 f5⟩
  self:=fun _ _ _ _ _ st h=>wpAny_pyIter_revIter st.2 h
def Ite (K:PySem.W.Frag) (a:Addr):It:=
  ⟨fun i H=>∃xs x,SqL K H a xs∧xs[i]? =some x,fun i H v H' =>∃T x,v= .ref T∧H T=none∧H' =upd H T (.tup [.int i,x])∧∀xs,SqL K H a xs→xs[i]? =some x,fun i H=>∃xs,SqL K H a xs∧xs.length≤i⟩
theorem turn_enum {P:Program} {w:World} {K:PySem.W.Frag} {elts:List Expr} {kt:Nat} {pt:Pos} (a e it:Addr) (hei:e≠it):Turn P w K (.Tuple elts kt pt) (Ite K a) [e,it] e (fun i h=>(∃old,IsEnum h e it i old)∧h.IsListIter it a i) where
  mem:=by simp
  obj:=fun i h st b hb=>by
    obtain⟨⟨old,he⟩,o,ho,c,d⟩:=st;have hb:b=e∨b=it:=by simpa using hb
    rcases hb with rfl|rfl
    · exact⟨_,he,fun v z=>by cases z⟩
    · exact⟨o,ho,fun v z=>by rw[d] at z;cases z⟩
  keep:=fun i h h' st k=>by
    obtain⟨⟨old,he⟩,hit⟩:=st;exact⟨⟨old,k e (by simp) _ he⟩,hit.at fun o x=>k it (by simp) o x⟩
  item := by
    intro X hP hw hK hc i pins s σ H E I hf st hg;subst hP hw hK;obtain⟨xs,x,hq,hx⟩:=hg;obtain⟨its,rv,p,hz⟩:=I.list hq;obtain⟨u,hu,ru⟩:=rv.get hx;obtain⟨⟨old,he⟩,hit⟩:=st;obtain⟨f0,f1,f2,f3,f4,f5⟩:=hf e (by simp);obtain⟨g0,g1,g2,g3,g4,g5⟩:=hf it (by simp);have helt:e<s.heap.objs.size:=Heap.lt_size he;have hilt:it<s.heap.objs.size:=by obtain⟨_,x,_⟩:=hit;exact Heap.lt_size x
    refine wpAny_pyNext_enum_item he hit p.isList (x:=u) (by simpa using hu) hei fun h' ho hit' hT hsz hk=> ?_;refine⟨.ref s.heap.objs.size,rfl,?_⟩;refine wpAny_letOwnedTupleGo_enum ho fun h'' he'' hs'' => ?_;have hTn:H s.heap.objs.size=none:=I.hok.fresh (Nat.le_refl _);have hTe:s.heap.objs.size≠e:=Nat.ne_of_gt helt;have kk:∀b o,b≠e→b≠it→s.heap.get? b=some o→h''.get? b=some o:=fun b o hbe hbi q=>(hs''.2 b hbe).trans (hk b o hbe hbi q);have hT'' :h''.get? s.heap.objs.size=some {cls:= .type "tuple",data:= .seq #[.int i s.toks,u]}:=(hs''.2 _ hTe).trans hT;have hne:∀b u,H b=some u→b≠e∧b≠it:=fun b u q=>⟨(fun z=>by rw[z,f0] at q;cases q),(fun z=>by rw[z,g0] at q;cases q)⟩
    have I2 :Inv X pins σ (upd H s.heap.objs.size (.tup [.int i,x])) {s with heap:=h'',toks:=s.toks+1}:=by
      have new:ObjOk X.prog X.w (upd H s.heap.objs.size (.tup [.int i,x])) h'' s.heap.objs.size (.tup [.int i,x]):=⟨(show 2≤sizeLine by decide),[.int i s.toks,u],.cons ⟨_,rfl⟩ (.cons ru .nil),⟨_,hT'',rfl,_,rfl⟩⟩
      refine I.step (g' :=s.gens) (d' :=s.drawn) (ch:=[e,it]) (fun b hb=> ?_) (fun b o _ _ hc q _=>kk b o (fun z=>hc (by simp[z])) (fun z=>hc (by simp[z])) q) (fun b o _ _ hc q _=>⟨o.slots,kk b o (fun z=>hc (by simp[z])) (fun z=>hc (by simp[z])) q⟩)
        (fun b o _ q n=> ?_) (fun b o hc q=>⟨o,kk b o (fun z=>hc (by simp[z])) (fun z=>hc (by simp[z])) q⟩) (fun b ys q=> ?_) (fun b o ys q=> ?_) (fun b ps q=>⟨#[],?_⟩) (fun m hm=> ?_) (fun b u q=> ?_) I.bare
      · have hb:b=e∨b=it:=by simpa using hb
        rcases hb with rfl|rfl
        · exact⟨f3,f1,f4,f5⟩
        · exact⟨g3,g1,g4,g5⟩
      · rw[upd_ne (Nat.ne_of_lt (Heap.lt_size q))];exact n
      · rw[upd_ne (ne_of_none q hTn)];exact q
      · rw[upd_ne (ne_of_none q hTn)];exact q
      · rw[upd_ne (ne_of_none q hTn),q];simp
      · obtain⟨o,es,ep,q,r⟩:=hm
        exact⟨o,es,ep,kk _ o (Ne.symm f1) (Ne.symm g1) q,r⟩
      · by_cases hb:b=s.heap.objs.size
        · subst hb
          rw[upd_same] at q;cases q;exact new
        · rw[upd_ne hb] at q
          refine(I.hok b u q).stay (fun c v hc q' =>kk c v ?_ ?_ q') (fun c q' => ?_) fun c ys q' => ?_
          · rcases hc with z|z
            · rw[z];exact(hne b u q).1
            · exact(hne c _ z).1
          · rcases hc with z|z
            · rw[z];exact(hne b u q).2
            · exact(hne c _ z).2
          · rw[upd_ne (ne_of_none q' hTn)];exact q'
          · rw[upd_ne (ne_of_none q' hTn)];exact q'
    refine⟨.ref s.heap.objs.size,_,I2,rfl,⟨_,x,rfl,hTn,rfl,fun ys hy=>by rw[I.list_inj hy hq];exact hx⟩,⟨⟨_,by simpa using he''⟩,hit'.at fun o q=>(hs''.2 it hei.symm).trans q⟩,fun b hb=> ?_⟩;have hb:b=e∨b=it:=by simpa using hb
    rcases hb with rfl|rfl
    · rw[upd_ne (Ne.symm hTe)];exact f0
    · rw[upd_ne (Nat.ne_of_lt hilt)];exact g0
  done:=by
    intro X hP hw hK hc i pins s σ H E I hf st hg;subst hP hw hK;obtain⟨xs,hq,hx⟩:=hg;obtain⟨its,rv,p,hz⟩:=I.list hq;obtain⟨⟨old,he⟩,hit⟩:=st;obtain⟨g0,g1,g2,g3,g4,g5⟩:=hf it (by simp);have hl:=rv.length;exact wpAny_pyNext_enum_end (I.ok.hd hc) he hit p.isList (by simp;omega) fun h' eb=>⟨rfl,I.turned (t' :=s.toks) (fun b o hb e=>eb b o hb e) g0 g1 g3 g4 g5⟩
  self:=fun _ _ _ _ _ st h=>by
    obtain⟨⟨old,he⟩,_⟩:=st;exact wpAny_pyIter_enum he h
section
variable{X:Cx}{tg:Expr}
def iRev(K:PySem.W.Frag)(ta:TA):TI:=fun σ H R=>ta σ H fun vs H1=>∃a xs,vs=[.ref a]∧SqL K H1 a xs∧R (Itv K a xs.length) H1
theorem pi_reversed {a:Expr} {ta:TA} {p pos:Pos} (hg:Gl X "reversed") (hm:X.mg "reversed"=none) (ha:PA X [a] ta) (hs:starEach [a] X.env=[(false,eval a X.env)]:=by rfl):PI X tg (.Call (.Name "reversed" p) [a] [] pos) (iRev X.K ta):=by
  intro pins s σ H R I h;refine Call_ (ld_blt I hg hm Boot.«reversed» (PyProof.Rows.callWith_type1 (thn (ha pos pins s σ H _ I h) fun us s1 ⟨vs,H1,I1,r1,q1⟩=> ?_) hs rfl));obtain⟨l,xs,e,hq,q⟩:=q1;subst e;obtain⟨u,rfl,ru⟩:=vals1 r1;cases ru;obtain⟨its,rv,pl,hz⟩:=I1.list hq;have hl:=rv.length;refine call_reversed_list pl.isList ?_;have I2:Inv X pins σ H1 {s1 with heap:=s1.heap.push (revObj l ((its.toArray.size:Int) - 1))}:=I1.kept (t' :=s1.toks) fun b o e=>Heap.get?_push_of_some _ e
  have hit:(s1.heap.push (revObj l ((its.toArray.size:Int) - 1))).IsRevIter s1.heap.objs.size l ((xs.length:Int) - 1 - ((0:Nat):Int)):=by
    have e:((xs.length:Int) - 1 - ((0:Nat):Int))=((its.toArray.size:Int) - 1):=by rw[List.size_toArray,hl];simp
    rw[e];exact⟨_,Heap.get?_push_size _ rfl,rfl,rfl⟩
  refine wpAny_pyIter_revIter (s:={s1 with heap:=s1.heap.push (revObj l ((its.toArray.size:Int) - 1))}) hit ?_;refine⟨s1.heap.objs.size,[s1.heap.objs.size],_,_,H1,rfl,I2,turn_rev l _ xs.length,⟨Nat.zero_le _,hit⟩,fun b hb=> ?_,q⟩;have e:b=s1.heap.objs.size:=by simpa using hb
  subst e;exact I1.fpOk (Nat.le_refl _) (I1.hok.fresh (Nat.le_refl _))
def iEnum(K:PySem.W.Frag)(ta:TA):TI:=fun σ H R=>ta σ H fun vs H1=>∃a xs,vs=[.ref a]∧H1 a=some (.lst xs)∧R (Ite K a) H1
theorem pi_enumerate {a:Expr} {ta:TA} {p pos:Pos} {elts:List Expr} {kt:Nat} {pt:Pos} (hg:Gl X "enumerate") (hm:X.mg "enumerate"=none) (ha:PA X [a] ta) (hs:starEach [a] X.env=[(false,eval a X.env)]:=by rfl):
    PI X (.Tuple elts kt pt) (.Call (.Name "enumerate" p) [a] [] pos) (iEnum X.K ta):=by
  intro pins s σ H R I h;refine Call_ (ld_blt I hg hm Boot.«enumerate» (PyProof.Rows.callWith_type1 (thn (ha pos pins s σ H _ I h) fun us s1 ⟨vs,H1,I1,r1,q1⟩=> ?_) hs rfl));obtain⟨l,xs,e,hq,q⟩:=q1;subst e;obtain⟨u,rfl,ru⟩:=vals1 r1;cases ru;obtain⟨its,n,rv,ho,hz⟩:=I1.lst hq;refine call_enumerate_1 ho fun h' he hit hsz hk=> ?_;have I2:Inv X pins σ H1 {s1 with heap:=h'}:=I1.kept (t' :=s1.toks) hk;refine wpAny_pyIter_enum (s:={s1 with heap:=h'}) he ?_;refine⟨s1.heap.objs.size+1,[s1.heap.objs.size+1,s1.heap.objs.size],_,_,H1,rfl,I2,turn_enum l _ _ (Nat.succ_ne_self _),⟨⟨_,he⟩,hit⟩,fun b hb=> ?_,q⟩;have hb:b=s1.heap.objs.size+1∨b=s1.heap.objs.size:=by simpa using hb
  rcases hb with rfl|rfl
  · exact I1.fpOk (Nat.le_succ _) (I1.hok.fresh (Nat.le_succ _))
  · exact I1.fpOk (Nat.le_refl _) (I1.hok.fresh (Nat.le_refl _))
end
structure FeedsG (J:It) (H:Hp) (n:Nat) (Y:Nat→V→Hp→Prop):Prop where
  go:∀i H',Same H H'→i<n→J.go i H'
  yld:∀i H' x H'',Same H H'→i<n→J.yld i H' x H''→Same H' H''∧Y i x H''
  stop:∀i H',Same H H'→n≤i→J.stop i H'
theorem Feeds.g {J:It} {H:Hp} {xs:List V} (F:Feeds J H xs):FeedsG J H xs.length (fun i x _=>xs[i]? =some x) where
  go:=F.go
  yld:=fun i H' x H'' s hi h=>by
    obtain⟨e,q⟩:=F.yld i H' x H'' s h;exact⟨e▸Same.refl H',q hi⟩
  stop:=F.stop
theorem feeds_rev {K:PySem.W.Frag} {a:Addr} {xs:List V} {H:Hp} (h:SqL K H a xs):Feeds (Itv K a xs.length) H xs.reverse where
  go:=fun i H' s hi=>⟨by simpa using hi,xs,s.seq h,rfl⟩
  yld:=fun i H' x H'' s q=>⟨q.1,fun hi=>by
    have hi:i<xs.length:=by simpa using hi
    rw[List.getElem?_reverse hi];exact q.2 xs (s.seq h)⟩
  stop:=fun i H' s hi=>by
    show xs.length≤i;simpa using hi
theorem feeds_enum {K:PySem.W.Frag} {a:Addr} {xs:List V} {H:Hp} (h:SqL K H a xs):FeedsG (Ite K a) H xs.length (fun i x H' =>∃T y,x= .ref T∧H' T=some (.tup [.int i,y])∧xs[i]? =some y) where
  go:=fun i H' s hi=>⟨xs,xs[i],s.seq h,by simp[hi]⟩
  yld:=fun i H' x H'' s hi q=>by
    obtain⟨T,y,rfl,hT,rfl,hy⟩:=q;exact⟨Same.upd hT,T,y,rfl,upd_same,hy xs (s.seq h)⟩
  stop:=fun i H' s hi=>⟨xs,s.seq h,hi⟩
theorem comp_grow {J:It} {n k:Nat} {js:List Nat} {Y:Nat→V→Hp→Prop} {g:TG} {tt:TT} {te:TE} {σ:St} {H:Hp} {Q:VK} (pb:Nat→Bool) (fe:Nat→V) (F:FeedsG J H n Y) (hlen:n≤sizeLine)
    (hbody:∀(i:Nat) (x:V) (H' :Hp) (C1:V→Hp→Prop) (C0:Hp→Prop),i<n→Same H H'→Y i x H'→(pb i=true→∀H'',Same H' H''→C1 (fe i) H'')→(pb i=false→∀H'',Same H' H''→C0 H'')→
      g x (cσ k js σ) H' fun σ2 H2=>SubS (cσ k js σ) σ2∧tt σ2 H2 fun b H3=>if b=true then te σ2 H3 C1 else C0 H3)
    (hq:∀p H',H p=none→Same H H'→H' p=some (.lst (((List.range n).filter pb).map fe))→Q (.ref p) H'):
    CompGoal J k js g tt te σ H Q:=by
  intro p hp;refine⟨fun i m ys H' =>m=n - i∧i≤n∧ys=((List.range i).filter pb).map fe∧H' p=some (.lst ys)∧Same H H',⟨n,rfl,Nat.zero_le _,rfl,upd_same,Same.upd hp⟩,?_⟩
  rintro i m ys H' ⟨rfl,hi,rfl,hl,hs⟩
  refine⟨hl,?_⟩;by_cases hlt:i<n
  · refine .inr ⟨F.go i _ hs hlt,?_,fun x H'' hy=> ?_⟩
    · rw[List.length_map]
      have h1:((List.range i).filter pb).length≤(List.range i).length:=List.length_filter_le _ _;rw[List.length_range] at h1;omega
    · obtain⟨s1,y1⟩:=F.yld i _ x H'' hs hlt hy
      have et:(List.range (i+1)).filter pb=(List.range i).filter pb++(if pb i=true then[i] else[]):=by
        rw[List.range_succ,List.filter_append];cases hb:pb i<;>simp[hb]
      refine hbody i x H'' _ _ hlt (hs.trans s1) y1 (fun hb H3 s3=>⟨s3 _ _ (s1 _ _ hl),n - (i+1),by omega,rfl,hlt,?_,upd_same,?_⟩) (fun hb H3 s3=>⟨n - (i+1),by omega,rfl,hlt,?_,s3 _ _ (s1 _ _ hl),(hs.trans s1).trans s3⟩)
      · rw[et,if_pos hb,List.map_append]
        rfl
      · intro c o e
        rw[upd_ne (ne_of_none e hp)];exact s3 _ _ (s1 _ _ (hs _ _ e))
      · rw[et,hb]
        simp
  · have e:i=n:=by omega
    subst e;exact .inl ⟨F.stop _ _ hs (Nat.le_refl _),hq p H' hp hs hl⟩
end L2
namespace L2
open PySem PySem.Spec PyProof.Rows
mutual
inductive Dat (H:Hp):V→PyData→Prop
  |non:Dat H .non .none
  |bl (b:Bool):Dat H (.bl b) (.bool b)
  |int (i:Int):Dat H (.int i) (.int i)
  |str (x:Str):Dat H (.str x) (.str x)
  |lst {a:Addr} {xs:List V} {ds:List PyData} (e:H a=some (.lst xs)) (h:DatAll H xs ds):Dat H (.ref a) (.list ds)
  |tup {a:Addr} {xs:List V} {ds:List PyData} (e:H a=some (.tup xs)) (h:DatAll H xs ds):Dat H (.ref a) (.tuple ds)
inductive DatAll (H:Hp):List V→List PyData→Prop
  |nil:DatAll H [] []
  |cons {x:V} {xs:List V} {d:PyData} {ds:List PyData} (h:Dat H x d) (t:DatAll H xs ds):DatAll H (x::xs) (d::ds)
end
mutual
theorem Dat.reads {P:Program} {w:World} {H:Hp} {h:Heap} (ok:HOk P w H h):∀{v:V} {d:PyData} {u:Value},Dat H v d→RelV v u→(∃as,Reads h u d as)∧d.hasDict=false
  |_,_,_,.non,r=>by cases r;exact⟨⟨_,.none⟩,by simp only[PyData.hasDict]⟩
  |_,_,_,.bl b,r=>by cases r;exact⟨⟨_,.bool b⟩,by simp only[PyData.hasDict]⟩
  |_,_,_,.int i,r=>by obtain⟨t,rfl⟩:=r;exact⟨⟨_,.int i t⟩,by simp only[PyData.hasDict]⟩
  |_,_,_,.str x,r=>by obtain⟨t,rfl⟩:=r;exact⟨⟨_,.str x t⟩,by simp only[PyData.hasDict]⟩
  | _,_,_,.lst e hd,r=>by
    cases r;obtain⟨z,its,n,rv,ho⟩:=(show ObjOk P w H h _ (.lst _) from ok _ _ e);obtain⟨⟨as,q⟩,hh⟩:=DatAll.reads ok hd rv;exact⟨⟨_,.list ho rfl rfl (by simpa using q)⟩,by simp only[PyData.hasDict];exact hh⟩
  | _,_,_,.tup e hd,r=>by
    cases r;obtain⟨z,its,rv,o,ho,hc,n,hdt⟩:=(show ObjOk P w H h _ (.tup _) from ok _ _ e);obtain⟨⟨as,q⟩,hh⟩:=DatAll.reads ok hd rv;exact⟨⟨_,.tuple ho hc hdt (by simpa using q)⟩,by simp only[PyData.hasDict];exact hh⟩
theorem DatAll.reads {P:Program} {w:World} {H:Hp} {h:Heap} (ok:HOk P w H h):∀{xs:List V} {ds:List PyData} {us:List Value},DatAll H xs ds→Vals xs us→(∃as,ReadsAll h us ds as)∧PyData.hasDictAll ds=false
  |_,_,_,.nil,.nil=>⟨⟨_,.nil⟩,by simp only[PyData.hasDictAll]⟩
  | _,_,_,.cons hd t,.cons r rr=>by
    obtain⟨⟨as,q⟩,h1⟩:=Dat.reads ok hd r;obtain⟨⟨bs,q'⟩,h2⟩:=DatAll.reads ok t rr;exact⟨⟨_,.cons q q'⟩,by simp only[PyData.hasDictAll,h1,h2,Bool.or_self]⟩
end
mutual
theorem Dat.same {H H' :Hp} (s:Same H H'):∀{v:V} {d:PyData},Dat H v d→Dat H' v d
  |_,_,.non=> .non
  |_,_,.bl b=> .bl b
  |_,_,.int i=> .int i
  |_,_,.str x=> .str x
  |_,_,.lst e h=> .lst (s _ _ e) (DatAll.same s h)
  |_,_,.tup e h=> .tup (s _ _ e) (DatAll.same s h)
theorem DatAll.same {H H' :Hp} (s:Same H H'):∀{xs:List V} {ds:List PyData},DatAll H xs ds→DatAll H' xs ds
  |_,_,.nil=> .nil
  |_,_,.cons h t=> .cons (Dat.same s h) (DatAll.same s t)
end
section
variable{X:Cx}
theorem call_repr (hg:X.A.guards=some []) (hu:X.A.units+100<cLine):CallR X (.builtin "repr") (fun xs H Q=>∃v d,xs=[v]∧Dat H v d∧d.showable=true∧d.depth≤90∧d.shown.length≤sizeLine∧Q (.str d.shown) H):=by
  intro pins s σ H xs us Q I r h;obtain⟨v,d,rfl,hd,hs,hdp,hz,q⟩:=h;obtain⟨u,rfl,ru⟩:=vals1 r;have flat:∀{h' :Heap} {tk:Nat} (t:Tok),(∀b o,s.heap.get? b=some o→h'.get? b=some o)→EP X pins σ Q (.str d.shown t) {s with heap:=h',toks:=tk}:=fun{h' tk} t k=>⟨.str d.shown,H,I.kept k,⟨t,rfl⟩,q⟩;obtain⟨⟨as,rd⟩,nd⟩:=hd.reads I.hok ru
  cases hd with
  |non=>cases ru;exact PySem.P.repr_of_none (flat _ fun _ _ e=>e)
  |bl b=>cases ru;exact PySem.P.repr_of_bool (by have:=flat (h' :=s.heap) (tk:=s.toks+1) s.toks fun _ _ e=>e;simpa only[PyData.shown] using this)
  | int i=>
    obtain⟨t,rfl⟩:=ru;have hs' :i.natAbs.log2<1920:=by simpa[PyData.showable] using hs
    exact PySem.P.repr_of_int hs' (by have:=flat (h' :=s.heap) (tk:=s.toks+1) s.toks fun _ _ e=>e;simpa only[PyData.shown] using this)
  | str x=>
    obtain⟨t,rfl⟩:=ru;refine PySem.P.repr_of_str (by have:=flat (h' :=s.heap) (tk:=s.toks+1) s.toks fun _ _ e=>e;simpa only[PyData.shown] using this) (by simpa only[PyData.shown] using hz)
  | lst e hx=>
    cases ru;exact repr_of_reads' rd hs (PyData.noDict_hsm nd) hg (by omega) (fun _ _ e=>e) (fun h' t tk k=>flat t k) hz
  | tup e hx=>
    cases ru;exact repr_of_reads' rd hs (PyData.noDict_hsm nd) hg (by omega) (fun _ _ e=>e) (fun h' t tk k=>flat t k) hz
end
end L2
namespace L2
open PySem PySem.Spec PyProof.Rows
section
variable{X:Cx}{e stp:Expr}{te ts:TE}{pos p2:Pos}
def tRevSl(K:PySem.W.Frag)(te ts:TE):TE:=fun σ H Q=>te σ H fun x H1=>tPart ts σ H1 fun o H2=>∃a xs,x= .ref a∧o=some (-1)∧SqL K H2 a xs∧∀p,H2 p=none→Q (.ref p) (upd H2 p (.lst xs.reverse))
theorem pe_revsl (he:PE X e te) (hst:PE X stp ts):PE X (.Subscript e (.Slice none none (some stp) p2) pos) (tRevSl X.K te ts):=by
  intro pins s σ H Q I h;refine Subscript_ (thn (he pins s σ H _ I h) fun v s1 ⟨x,H1,I1,r1,q1⟩=> ?_);refine wpAny_Slice ?_;rw[evalPart_none];refine wpAny_pure ?_;refine wpAny_pure ?_;refine thn (po_some hst pins s1 σ H1 _ I1 q1) fun vs s2 ⟨o,H2,I2,ps,a,xs,hx,ho,hq,q⟩=> ?_;subst ho hx;cases r1;have I4:Inv X pins σ H2 {s2 with heap:=s2.heap.push {cls:= .type "slice",data:= .fields #[.none,.none,vs]}}:=I2.kept (t' :=s2.toks) fun b ob q=>Heap.get?_push_of_some _ q;obtain⟨its,r,ht,hz⟩:=I4.list hq;have hlen:=r.length;show wpAny (model X.prog X.w) X.A (subscriptTail e (.Slice none none (some stp) p2) (.ref a) (.ref s2.heap.objs.size)) (EP X pins σ Q) X.xe {s2 with heap:=s2.heap.push {cls:= .type "slice",data:= .fields #[.none,.none,vs]}};refine tail_any (ops:=[.ref a,.ref s2.heap.objs.size]) ht.isList.typeIs slot_list_getitem.lookup ?_ (by with_unfolding_all rfl);refine wpAny_getItem_list_slice ht.isList (Heap.IsSliceOf.new ..) .none .none ps (by simp) ?_ (by rw[List.size_toArray]<;>omega);rw[PySem.W.krv_pick];refine⟨.ref _,_,I4.laid (t' :=s2.toks) (o:= .lst xs.reverse) (fun b ob q=>Heap.get?_push_of_some _ q) (Nat.le_refl _) ?_,rfl,q _ ?_⟩
  · exact⟨by rw[List.length_reverse];exact hz,_,0,(by simpa using r.reverse),Heap.get?_push_size _ rfl⟩
  · exact I4.hok.fresh (Nat.le_refl _)
end
theorem nolen_lri:typeLookup (.type "list_reverseiterator") "__len__"=pure none:=by rw[typeLookup_type,builtinLookup_eq_fast];kernel_rfl
theorem hint_lri:typeLookup (.type "list_reverseiterator") "__length_hint__"=pure (some (.builtin "list_reverseiterator.__length_hint__")):=by rw[typeLookup_type,builtinLookup_eq_fast];kernel_rfl
section
variable{prog:Program}{w:World}{A:Around}{E:Value→Shared→Prop}{s:Shared}
theorem extend_rev {R:Result→Shared→Prop} (hh:A.handled=none) {l J S:Addr} {items:Array Value} (hlJ:l≠J) (hSJ:S≠J) (hSl:S≠l) (res:Value) (c₀:Nat) (hS:s.heap.get? S=some {cls:= .type "list",data:= .seq #[] c₀})
    (hit:s.heap.IsRevIter J l ((items.size:Int) - 1)) (hl:s.heap.IsList l items)
    (hR:∀h' tk acc' c',(∀b o,b≠S→b≠J→s.heap.get? b=some o→h'.get? b=some o)→h'.get? S=some {cls:= .type "list",dict:=none,data:= .seq acc' c',slots:= #[]}→
      ItemsOf (fun i v=>items[items.size - 1 - i]? =some v) acc' items.size→R (.ok (.ret res)) {s with heap:=h',toks:=tk}) (hn:items.size≤sizeLine):
    wpAny (model prog w) A.in1 (Builtin.List.listExtendWith (.ref S) (.ref J) res)
      (fun fin s' =>match fin with| .done f=>R (.ok f) s' | .again c' =>c'.quiet=true∧codeAny (model prog w) A c' R s') (fun e s' =>R (.error e) s') s:=by
  have W:=(Walks.listRev (prog:=prog) (w:=w) (A:=A.in1) hh J l hlJ items).toS;have hst:(0:Nat)≤items.size∧s.heap.IsRevIter J l ((items.size:Int) - 1 - ((0:Nat):Int))∧s.heap.IsList l items:=⟨Nat.zero_le _,by simpa using hit,hl⟩
  have hSf:S∉[J,l]:=fun hm=>by
    have hm:S=J∨S=l:=by simpa using hm
    rcases hm with h|h
    · exact hSJ h
    · exact hSl h
  unfold Builtin.List.listExtendWith;refine wpAny_bind (wpAny_typeOf (T:="list_reverseiterator") hit.typeIs ?_);have h1:Builtin.List.listSameRef (.ref S) (.ref J)=false:=by simp[Builtin.List.listSameRef,hSJ]
  rw[if_neg (by rw[h1];decide)];refine wpAny_bind (wpAny_pyIter_revIter hit ?_);refine wpAny_bind (wpAny_holding ?_);unfold Builtin.List.listLengthHint;refine wpAny_bind (wpAny_specialOf hit.typeIs nolen_lri ?_);show wpAny _ A.in1 (specialOf (Value.ref J) (Str.ofString "__length_hint__")>>= _) _ _ _;refine wpAny_bind (wpAny_specialOf hit.typeIs hint_lri ?_)
  (generalize hid:("list_reverseiterator.__length_hint__" :String)=id0;(fail_if_success (clear hid id0));wp_delta;rw[show splitId id0=some ("list_reverseiterator","__length_hint__") from by subst hid;decide+kernel];subst hid)
  refine wpAny_bind (wpAny_isInstance (b:=true) hit.typeIs (by rw[isSubtype_type];kernel_rfl) ?_);refine wpAny_pure ?_;rw[if_neg (by decide)];refine wpAny_pure ⟨plainId_quiet F.plain_extend_loop _,codeAny_extend_loopS W hn _ hSf _ items.size 0 _ _ _ rfl (Nat.zero_le _) hst hS (ItemsOf.nil _) fun s' acc' c' hm hS' hacc=> ?_⟩;rw[Moved.eq_with hm];refine hR s'.heap s'.toks acc' c' (fun b ob hb hbJ e=>hm.heap b ob (fun hmem=> ?_) e) hS' hacc;rcases List.mem_cons.mp hmem with e' |hmem
  · exact hb e'
  · exact hbJ (List.mem_singleton.mp hmem)
theorem call_list_rev {Q:Value→Shared→Prop} (hh:A.handled=none) {l J:Addr} {items:Array Value} (hlJ:l≠J) (hit:s.heap.IsRevIter J l ((items.size:Int) - 1)) (hl:s.heap.IsList l items)
    (hQ:∀h' tk acc' c',(∀b o,b≠J→s.heap.get? b=some o→h'.get? b=some o)→h'.get? s.heap.objs.size=some {cls:= .type "list",dict:=none,data:= .seq acc' c',slots:= #[]}→
      ItemsOf (fun i v=>items[items.size - 1 - i]? =some v) acc' items.size→Q (.ref s.heap.objs.size) {s with heap:=h',toks:=tk}) (hn:items.size≤sizeLine):
    wpAny (model prog w) A (call (.type "list") [.ref J]) Q E s:=by
  have hJ:J<s.heap.objs.size:=by obtain⟨o,e,_⟩:=hit;exact Heap.lt_size e
  have hL:l<s.heap.objs.size:=by obtain⟨o,e,_⟩:=hl;exact Heap.lt_size e
  refine callType_codes (Q₁:=fun obj s₁=>obj= .ref s.heap.objs.size∧s₁={s with heap:=s.heap.push {cls:= .type "list",data:= .seq #[]}}) F.called_list (F.typeCall_list_1 _) F.entry_list_init
    (code_list_new _ ⟨rfl,rfl⟩) fun obj s₁ h₁=> ?_
  obtain⟨rfl,rfl⟩:=h₁;have hS:(s.heap.push {cls:= .type "list",data:= .seq #[]}).get? s.heap.objs.size=some {cls:= .type "list",data:= .seq #[]}:=Heap.get?_push_size _ rfl;refine⟨⟨_,hS,rfl⟩,F.args_list_init_2 _ _,?_⟩;show wpAny _ _ (do let old←Builtin.List.listItems (.ref s.heap.objs.size);Builtin.List.listUpdate (.ref s.heap.objs.size) (fun _=> #[]);letGo old.toList.reverse;Builtin.List.listExtendWith (.ref s.heap.objs.size) (.ref J) .none) _ _ _;refine wpAny_bind ?_;unfold Builtin.List.listItems;refine wpAny_bind (wpAny_seqItems hS rfl (wpAny_pure ?_));show wpAny _ _ (updateSeq s.heap.objs.size (fun _=> #[])>>= fun _=>letGo (#[]:Array Value).toList.reverse>>= fun _=>Builtin.List.listExtendWith (.ref s.heap.objs.size) (.ref J) .none) _ _ _;refine wpAny_bind (wpAny_updateSeq hS rfl ?_);have hS₂:=Heap.get?_update_self (Obj.mapSeq (fun _=>(#[]:Array Value))) hS rfl
  have oth:∀b o,b≠s.heap.objs.size→s.heap.get? b=some o→((s.heap.push {cls:= .type "list",data:= .seq #[]}).update s.heap.objs.size (Obj.mapSeq (fun _=>(#[]:Array Value)))).get? b=some o:=
    fun b o hb e=>(Heap.get?_update_other _ _ (Ne.symm hb)).trans (Heap.get?_push_of_some _ e)
  refine wpAny_bind (wpAny_letGo ?_);refine extend_rev (A:=A.in1) hh hlJ (Nat.ne_of_gt hJ) (Nat.ne_of_gt hL) .none _ hS₂ (hit.at fun o e=>oth _ o (Nat.ne_of_lt hJ) e) (hl.at fun o e=>oth _ o (Nat.ne_of_lt hL) e) (fun h' tk acc' c' hk hS' hacc=> ?_) hn;exact⟨rfl,hQ h' tk acc' c' (fun b o hbJ e=>hk b o (Nat.ne_of_lt (Heap.lt_size e)) hbJ (oth b o (Nat.ne_of_lt (Heap.lt_size e)) e)) hS' hacc⟩
end
section
variable{X:Cx}{e:Expr}{ta:TA}{p p' pos pos' :Pos}
def tListRev(K:PySem.W.Frag)(ta:TA):TE:=fun σ H Q=>ta σ H fun vs H1=>∃a xs,vs=[.ref a]∧SqL K H1 a xs∧∀l,H1 l=none→Q (.ref l) (upd H1 l (.lst xs.reverse))
theorem items_rev {items:List Value} {acc:Array Value} (h:ItemsOf (fun i v=>items.toArray[items.toArray.size - 1 - i]? =some v) acc items.toArray.size):acc.toList=items.reverse:=by
  obtain⟨h1,h2⟩:=h;have hs:items.toArray.size=items.length:=List.size_toArray;apply List.ext_getElem?;intro i;by_cases hi:i<items.length
  · rw[List.getElem?_reverse hi]
    have hi' :i<acc.size:=by omega
    have e:acc[i]? =some acc[i]:=by simp[hi']
    have q:=h2 i acc[i] e;rw[hs] at q;rw[Array.getElem?_toList,e,←q];simp
  · have e1:acc.toList[i]? =none:=List.getElem?_eq_none (by rw[Array.length_toList];omega)
    have e2:items.reverse[i]? =none:=List.getElem?_eq_none (by rw[List.length_reverse];omega);rw[e1,e2]
theorem pe_listrev (hc:X.calm=true) (hg:Gl X "list") (hm:X.mg "list"=none) (hg' :Gl X "reversed") (hm' :X.mg "reversed"=none) (ha:PA X [e] ta) (hs:starEach [e] X.env=[(false,eval e X.env)]:=by rfl)
    (hs' :starEach [Expr.Call (.Name "reversed" p') [e] [] pos'] X.env=[(false,eval (.Call (.Name "reversed" p') [e] [] pos') X.env)]:=by rfl):
    PE X (.Call (.Name "list" p) [.Call (.Name "reversed" p') [e] [] pos'] [] pos) (tListRev X.K ta):=by
  intro pins s σ H Q I h;refine wpAny_Call_Name_kw (ld_blt I hg hm Boot.«list» ?_);refine PyProof.Rows.callWith_type1 ?_ hs' rfl;rw[hs'];show wpAny _ _ (spliced ((false,eval (.Call (.Name "reversed" p') [e] [] pos') X.env)::backTo pos [])) _ _ s;refine Calls.spliced_cons (Call_ (ld_blt I hg' hm' Boot.«reversed» (PyProof.Rows.callWith_type1 (thn (ha pos' pins s σ H _ I h) fun us s1 ⟨vs,H1,I1,r1,q1⟩=> ?_) hs rfl)));obtain⟨l,xs,ev,hq,q⟩:=q1;subst ev;obtain⟨u,rfl,ru⟩:=vals1 r1;cases ru;obtain⟨its,rv,pl,hz⟩:=I1.list hq;have hl:=rv.length;refine call_reversed_list pl.isList ?_;refine Calls.spliced_nil ?_;have hll:l<s1.heap.objs.size:=by obtain⟨o,e,_⟩:=pl.isList;exact Heap.lt_size e
  have I2:Inv X pins σ H1 {s1 with heap:=s1.heap.push (revObj l ((its.toArray.size:Int) - 1))}:=I1.kept (t' :=s1.toks) fun b o e=>Heap.get?_push_of_some _ e;refine call_list_rev (s:={s1 with heap:=s1.heap.push (revObj l ((its.toArray.size:Int) - 1))}) (I1.ok.hd hc) (l:=l) (J:=s1.heap.objs.size) (items:=its.toArray) (Nat.ne_of_lt hll) ⟨_,Heap.get?_push_size _ rfl,rfl,rfl⟩ (pl.isList.push _) (fun h' tk acc' c' hk hS' hacc=> ?_) (by rw[List.size_toArray];omega);have f1:=I1.fpOk (H' :=H1) (Nat.le_refl s1.heap.objs.size) (I1.hok.fresh (Nat.le_refl _));have er:=items_rev hacc;have hsz:(s1.heap.push (revObj l ((its.toArray.size:Int) - 1))).objs.size=s1.heap.objs.size+1:=Heap.size_push ..;have hn1:H1 (s1.heap.objs.size+1)=none:=I1.hok.fresh (Nat.le_succ _);have hS2:h'.get? (s1.heap.objs.size+1)=some {cls:= .type "list",dict:=none,data:= .seq acc' c',slots:= #[]}:=by rw[←hsz];exact hS'
  have hne:∀b u,H1 b=some u→b≠s1.heap.objs.size:=fun b u q z=>by rw[z,f1.1] at q;cases q
  have I3 :Inv X pins σ (upd H1 (s1.heap.objs.size+1) (.lst xs.reverse)) {s1 with heap:=h',toks:=tk}:=by
    refine Inv.step (s:={s1 with heap:=s1.heap.push (revObj l ((its.toArray.size:Int) - 1))}) I2 (g' :=s1.gens) (d' :=s1.drawn) (ch:=[s1.heap.objs.size]) (fun b hb=> ?_) (fun b o _ _ hc q _=>hk b o (fun z=>hc (by simp[z])) q) (fun b o _ _ hc q _=>⟨o.slots,hk b o (fun z=>hc (by simp[z])) q⟩)
      (fun b o _ q n=> ?_) (fun b o hc q=>⟨o,hk b o (fun z=>hc (by simp[z])) q⟩) (fun b ys q=> ?_) (fun b o ys q=> ?_) (fun b ps q=>⟨#[],?_⟩) (fun m hm=> ?_) (fun b u q=> ?_) I1.bare
    · have hb:b=s1.heap.objs.size:=by simpa using hb
      subst hb;exact⟨f1.2.2.2.1,f1.2.1,f1.2.2.2.2.1,f1.2.2.2.2.2⟩
    · have hb:=Heap.lt_size q
      have hb:b<s1.heap.objs.size+1:=by rw[←hsz];exact hb
      rw[upd_ne (Nat.ne_of_lt hb)];exact n
    · rw[upd_ne (ne_of_none q hn1)];exact q
    · rw[upd_ne (ne_of_none q hn1)];exact q
    · rw[upd_ne (ne_of_none q hn1),q];simp
    · obtain⟨o,es,ep,q,r⟩:=hm
      exact⟨o,es,ep,hk _ o (Ne.symm f1.2.1) q,r⟩
    · by_cases hb:b=s1.heap.objs.size+1
      · subst hb
        rw[upd_same] at q;cases q;refine⟨by rw[List.length_reverse];exact hz,its.reverse,c',rv.reverse,?_⟩;rw[hS2,←er]
      · rw[upd_ne hb] at q
        refine(I2.hok b u q).stay (fun c v hc q' =>hk c v ?_ q') (fun c q' => ?_) fun c ys q' => ?_
        · rcases hc with z|z
          · rw[z];exact hne b u q
          · exact hne c _ z
        · rw[upd_ne (ne_of_none q' hn1)];exact q'
        · rw[upd_ne (ne_of_none q' hn1)];exact q'
  rw[hsz];exact⟨.ref (s1.heap.objs.size+1),_,I3,rfl,q _ hn1⟩
end
section
variable{X:Cx}{K:PySem.W.Frag}
theorem ix_listK(hK:X.K=K):IxR X (rIxL K):=hK▸ix_list
theorem ix_tupK(hK:X.K=K):IxR X (rIxT K):=hK▸ix_tup
theorem op_in_seqK(hK:X.K=K):OpR X (compareOp .In) (rIn K false):=hK▸op_in_seq
theorem call_len_seqK(hK:X.K=K):CallR X (.builtin "len") (fun xs H Q=>∃p ys,xs=[.ref p]∧(SqL K H p ys∨SqT K H p ys)∧Q (.int ys.length) H):=hK▸call_len_seq
theorem pe_fldK{e:Expr}{f:Str}{pos:Pos}{ta:TE}(hK:X.K=K)(he:PE X e ta)(hb:attributeBase e f X.env (eval e X.env)=eval e X.env):PE X (.Attribute e f pos) (tFld K ta f):=hK▸pe_fld he hb
theorem pg_tupK{es:List Expr}{k:Nat}{t:TGs}{n:Nat}{pos:Pos}(hK:X.K=K)(hc:X.calm=true)(h:PGs X es t)(hn:(assignEach es X.env).length=n)(hst:(assignEach es X.env).findIdx? (·.1)=none):PG X (.Tuple es k pos) (gTup K n t):=hK▸pg_tup hc h hn hst
end
end L2
namespace L2
open PySem PySem.Spec PyProof.Rows
theorem ints_vals:∀{ns:List Int} {us:List Value},Vals (ns.map V.int) us→IntsAre us ns
  |[],_,.nil=> .nil
  | n::r,_,.cons ⟨t,e⟩ q=>by
    subst e;exact .cons n t (ints_vals q)
section
variable{X:Cx}{tg:Expr}
def rNeI:R2:=fun x y H Q=>∃(a b:Addr) (ns ms:List Int),x= .ref a∧y= .ref b∧H a=some (.lst (ns.map V.int))∧H b=some (.lst (ms.map V.int))∧Q (.bl (!decide (ns=ms))) H
theorem op_ne_ints (hu:X.A.units+100<cLine):OpR X (compareOp .NotEq) rNeI:=by
  intro pins s σ H x y v u Q I rx ry h;obtain⟨a,b,ns,ms,rfl,rfl,ha,hb,q⟩:=h;cases rx;cases ry;obtain⟨its,r,pl,hz⟩:=I.list (SqL.of ha);obtain⟨its2,r2,pl2,hz2⟩:=I.list (SqL.of hb);exact PySem.W.ne_intsK pl.isList (ints_vals r) pl2.isList (ints_vals r2) (by omega) ⟨.bl _,H,I,rfl,q⟩
end
section
variable{X:Cx}{tg:Expr}
end
section
variable{X:Cx}{pins:List (Addr×Obj)}{σ:St}{H:Hp}{s:Shared}{h' :Heap}
theorem Inv.turneds {t' :Nat} {ch:List Addr} (I:Inv X pins σ H s) (hf:∀b∈ch,FpOk X pins H b) (k:∀b o,b∉ch→s.heap.get? b=some o→h'.get? b=some o):Inv X pins σ H {s with heap:=h',toks:=t'}:=by
  have nit:∀b u,H b=some u→b∉ch:=fun b u e z=>by rw[(hf b z).1] at e;cases e
  have hL:X.env.locals∉ch:=fun z=>(hf _ z).2.1 rfl
  refine I.step (g' :=s.gens) (d' :=s.drawn) (ch:=ch) (fun b hb=> ?_) (fun b o _ _ hc e _=>k b o hc e) (fun b o _ _ hc e _=>⟨o.slots,k b o hc e⟩) (fun _ _ _ _ n=>n)
    (fun b o hc e=>⟨o,k b o hc e⟩) (fun _ _ e=>e) (fun _ _ _ e=>e) (fun b ps e=>⟨#[],by rw[e];simp⟩) (fun m hm=> ?_) (fun b u e=> ?_) I.bare
  · obtain⟨f0,f1,f2,f3,f4,f5⟩:=hf b hb
    exact⟨f3,f1,f4,f5⟩
  · obtain⟨o,es,ep,ho,r⟩:=hm
    exact⟨o,es,ep,k _ o hL ho,r⟩
  · refine(I.hok b u e).stay (fun c v hc q=>k c v ?_ q) (fun _ q=>q) fun _ _ q=>q
    rcases hc with z|z
    · rw[z];exact nit b u e
    · exact nit c _ z
theorem Inv.turnedTup {t' :Nat} {ch:List Addr} {xs:List V} (I:Inv X pins σ H s) (hf:∀b∈ch,FpOk X pins H b) (k:∀b o,b∉ch→s.heap.get? b=some o→h'.get? b=some o)
    (new:ObjOk X.prog X.w (upd H s.heap.objs.size (.tup xs)) h' s.heap.objs.size (.tup xs)):Inv X pins σ (upd H s.heap.objs.size (.tup xs)) {s with heap:=h',toks:=t'}:=by
  have hTn:H s.heap.objs.size=none:=I.hok.fresh (Nat.le_refl _);have nit:∀b u,H b=some u→b∉ch:=fun b u e z=>by rw[(hf b z).1] at e;cases e
  have hL:X.env.locals∉ch:=fun z=>(hf _ z).2.1 rfl
  refine I.step (g' :=s.gens) (d' :=s.drawn) (ch:=ch) (fun b hb=> ?_) (fun b o _ _ hc q _=>k b o hc q) (fun b o _ _ hc q _=>⟨o.slots,k b o hc q⟩)
    (fun b o _ q n=> ?_) (fun b o hc q=>⟨o,k b o hc q⟩) (fun b ys q=> ?_) (fun b o ys q=> ?_) (fun b ps q=>⟨#[],?_⟩) (fun m hm=> ?_) (fun b u q=> ?_) I.bare
  · obtain⟨f0,f1,f2,f3,f4,f5⟩:=hf b hb
    exact⟨f3,f1,f4,f5⟩
  · rw[upd_ne (Nat.ne_of_lt (Heap.lt_size q))];exact n
  · rw[upd_ne (ne_of_none q hTn)];exact q
  · rw[upd_ne (ne_of_none q hTn)];exact q
  · rw[upd_ne (ne_of_none q hTn),q];simp
  · obtain⟨o,es,ep,q,r⟩:=hm
    exact⟨o,es,ep,k _ o hL q,r⟩
  · by_cases hb:b=s.heap.objs.size
    · subst hb
      rw[upd_same] at q;cases q;exact new
    · rw[upd_ne hb] at q
      refine(I.hok b u q).stay (fun c v hc q' =>k c v ?_ q') (fun c q' => ?_) fun c ys q' => ?_
      · rcases hc with z|z
        · rw[z];exact nit b u q
        · exact nit c _ z
      · rw[upd_ne (ne_of_none q' hTn)];exact q'
      · rw[upd_ne (ne_of_none q' hTn)];exact q'
end
def Itz (K:PySem.W.Frag) (a b:Addr):It:=
  ⟨fun i H=>∃xs ys x y,SqL K H a xs∧SqL K H b ys∧xs[i]? =some x∧ys[i]? =some y,
    fun i H v H' =>∃T x y,v= .ref T∧H T=none∧H' =upd H T (.tup [x,y])∧(∀xs,SqL K H a xs→xs[i]? =some x)∧∀ys,SqL K H b ys→ys[i]? =some y,
    fun i H=>∃xs ys,SqL K H a xs∧SqL K H b ys∧(xs.length≤i∨ys.length≤i)⟩
theorem turn_zip {P:Program} {w:World} {K:PySem.W.Frag} {elts:List Expr} {kt:Nat} {pt:Pos} (l1 l2 z TI TO i1 i2:Addr) (D:ZipApart z TI TO i1 i2 l1 l2):
    Turn P w K (.Tuple elts kt pt) (Itz K l1 l2) [z,TI,TO,i1,i2] z (fun i h=>IsZip h z TI TO .none∧IsPair h TI (.ref i1) (.ref i2)∧(∃a b,IsPair h TO a b)∧h.IsListIter i1 l1 i∧h.IsListIter i2 l2 i) where
  mem:=by simp
  obj:=fun i h st b hb=>by
    obtain⟨hz,hTI,⟨a,c,hTO⟩,⟨o1,h1,c1,d1⟩,⟨o2,h2,c2,d2⟩⟩:=st;have hb:b=z∨b=TI∨b=TO∨b=i1∨b=i2:=by simpa using hb
    rcases hb with rfl|rfl|rfl|rfl|rfl
    · exact⟨_,hz,fun v z=>by cases z⟩
    · exact⟨_,hTI,fun v z=>by cases z⟩
    · exact⟨_,hTO,fun v z=>by cases z⟩
    · exact⟨o1,h1,fun v z=>by rw[d1] at z;cases z⟩
    · exact⟨o2,h2,fun v z=>by rw[d2] at z;cases z⟩
  keep:=fun i h h' st k=>by
    obtain⟨hz,hTI,⟨a,b,hTO⟩,h1,h2⟩:=st;exact⟨k z (by simp) _ hz,k TI (by simp) _ hTI,⟨a,b,k TO (by simp) _ hTO⟩,h1.at fun o e=>k i1 (by simp) o e,h2.at fun o e=>k i2 (by simp) o e⟩
  item :=by
    intro X hP hw hK hc i pins s σ H E I hf st hg;subst hP hw hK;obtain⟨xs,ys,x,y,hq,hq2,hx,hy⟩:=hg;obtain⟨its,rv,p,hzz⟩:=I.list hq;obtain⟨its2,rv2,p2,hzz2⟩:=I.list hq2;obtain⟨u,hu,ru⟩:=rv.get hx;obtain⟨u2,hu2,ru2⟩:=rv2.get hy;obtain⟨hz,hTI,⟨a,b,hTO⟩,h1,h2⟩:=st;refine wpAny_pyNext_zip_item D hz hTI hTO h1 h2 p.isList p2.isList (x:=u) (y:=u2) (by simpa using hu) (by simpa using hu2) fun h' a1 a2 a3 a4 a5 a6 hk=> ?_;refine⟨.ref s.heap.objs.size,rfl,?_⟩;refine wpAny_letOwnedTupleGo_zip a1 fun h'' hz'' hs'' => ?_;have lt:∀{c o},s.heap.get? c=some o→s.heap.objs.size≠c:=fun e=>Nat.ne_of_gt (Heap.lt_size e);have ltl:∀{c},(∃o,s.heap.get? c=some o)→c<s.heap.objs.size:=fun⟨o,e⟩=>Heap.lt_size e;have hTn:H s.heap.objs.size=none:=I.hok.fresh (Nat.le_refl _);have hT'' :h''.get? s.heap.objs.size=some {cls:= .type "tuple",data:= .seq #[u,u2]}:=(hs''.2 _ (lt hz)).trans a5;have kk:∀c o,c∉[z,TI,TO,i1,i2]→s.heap.get? c=some o→h''.get? c=some o:=fun c o hc q=>(hs''.2 c (fun x=>hc (by simp[x]))).trans (hk c o (fun x=>hc (by simp[x])) (fun x=>hc (by simp[x])) (fun x=>hc (by simp[x])) (fun x=>hc (by simp[x])) q);have I2:=I.turnedTup (t' :=s.toks) hf kk (show ObjOk X.prog X.w (upd H s.heap.objs.size (.tup [x,y])) h'' s.heap.objs.size (.tup [x,y]) from⟨(show 2≤sizeLine by decide),[u,u2],.cons ru (.cons ru2 .nil),⟨_,hT'',rfl,_,rfl⟩⟩);refine⟨.ref s.heap.objs.size,_,I2,rfl,⟨_,x,y,rfl,hTn,rfl,(fun ys hy=>by rw[I.list_inj hy hq];exact hx),(fun ys' hy' =>by rw[I.list_inj hy' hq2];exact hy)⟩,⟨hz'',?_,⟨_,_,(hs''.2 _ D.TOz).trans a2⟩,a3.at fun o q=>(hs''.2 _ D.i1z).trans q,a4.at fun o q=>(hs''.2 _ D.i2z).trans q⟩,fun c hc=> ?_⟩
    · exact(hs''.2 _ D.TIz).trans (hk _ _ D.TIz D.TITO D.TIi1 D.TIi2 hTI)
    · have hcl:c≠s.heap.objs.size:=fun q=>by
        subst q;have hb:s.heap.objs.size=z∨s.heap.objs.size=TI∨s.heap.objs.size=TO∨s.heap.objs.size=i1∨s.heap.objs.size=i2:=by simpa using hc
        rcases hb with q|q|q|q|q
        · exact lt hz q
        · exact lt hTI q
        · exact lt hTO q
        · obtain⟨_,e,_⟩:=h1;exact lt e q
        · obtain⟨_,e,_⟩:=h2;exact lt e q
      rw[upd_ne hcl];exact(hf c hc).1
  done:=by
    intro X hP hw hK hc i pins s σ H E I hf st hg;subst hP hw hK;obtain⟨xs,ys,hq,hq2,hx⟩:=hg;obtain⟨its,rv,p,hzz⟩:=I.list hq;obtain⟨its2,rv2,p2,hzz2⟩:=I.list hq2;obtain⟨hz,hTI,⟨a,b,hTO⟩,h1,h2⟩:=st;have hl:=rv.length;have hl2:=rv2.length;refine wpAny_pyNext_zip_end (I.ok.hd hc) D hz hTI hTO h1 h2 p.isList p2.isList ?_ fun h' hk=>⟨rfl,I.turneds (t' :=s.toks) hf fun c o hc q=>hk c o (fun x=>hc (by simp[x])) (fun x=>hc (by simp[x])) (fun x=>hc (by simp[x])) (fun x=>hc (by simp[x])) q⟩;rcases hx with hx|hx
    · exact .inl (by simp;omega)
    · exact .inr (by simp;omega)
  self:=fun _ _ _ _ _ st h=>wpAny_pyIter_zip st.1 h
section
variable{X:Cx}{tg:Expr}
theorem zip_apart (n l1 l2:Nat) (h1:l1<n) (h2:l2<n):ZipApart (n+4) (n+2) (n+3) n (n+1) l1 l2:=by
  constructor<;>(intro z;(have z' :(_:Nat)=_:=z);omega)
def iZip(K:PySem.W.Frag)(ta:TA):TI:=fun σ H R=>ta σ H fun vs H1=>∃a b,vs=[.ref a,.ref b]∧(∃xs,H1 a=some (.lst xs))∧(∃ys,H1 b=some (.lst ys))∧R (Itz K a b) H1
theorem pi_zip {a b:Expr} {ta:TA} {p pos:Pos} {elts:List Expr} {kt:Nat} {pt:Pos} (hg:Gl X "zip") (hm:X.mg "zip"=none) (ha:PA X [a,b] ta) (hs:starEach [a,b] X.env=[(false,eval a X.env),(false,eval b X.env)]:=by rfl) (hs2:starEach [b] X.env=[(false,eval b X.env)]:=by rfl):
    PI X (.Tuple elts kt pt) (.Call (.Name "zip" p) [a,b] [] pos) (iZip X.K ta):=by
  intro pins s σ H R I h;refine Call_ (ld_blt I hg hm Boot.«zip» (PyProof.Rows.callWith_type1 (thn (ha pos pins s σ H _ I h) fun us s1 ⟨vs,H1,I1,r1,q1⟩=> ?_) (by rw[hs,hs2]) (by rw[hs2];rfl)));obtain⟨l1,l2,e,⟨xs,hq⟩,⟨ys,hq2⟩,q⟩:=q1;subst e
  cases r1 with
  | cons r rr=>
    cases rr with
    | cons r' rr=>
      cases rr;cases r;cases r';obtain⟨its,rv,p1,hz⟩:=I1.list (SqL.of hq);obtain⟨its2,rv2,p2,hz2⟩:=I1.list (SqL.of hq2);refine call_zip_2 p1.isList p2.isList fun h' a1 a2 a3 a4 a5 a6 hk=> ?_;have I2:Inv X pins σ H1 {s1 with heap:=h'}:=I1.kept (t' :=s1.toks) hk;have hl1:=I1.hok.lt hq;have hl2:=I1.hok.lt hq2;refine wpAny_pyIter_zip (s:={s1 with heap:=h'}) a1 ?_;refine⟨s1.heap.objs.size+4,[s1.heap.objs.size+4,s1.heap.objs.size+2,s1.heap.objs.size+3,s1.heap.objs.size,s1.heap.objs.size+1],_,_,H1,rfl,I2,turn_zip l1 l2 _ _ _ _ _ (zip_apart _ _ _ hl1 hl2),⟨a1,a2,⟨_,_,a3⟩,a4,a5⟩,fun b hb=> ?_,q⟩
      have hb:s1.heap.objs.size≤b:=by
        simp only[List.mem_cons,List.not_mem_nil,or_false] at hb;rcases hb with rfl|rfl|rfl|rfl|rfl
        · exact Nat.le_add_right _ _
        · exact Nat.le_add_right _ _
        · exact Nat.le_add_right _ _
        · exact Nat.le_refl _
        · exact Nat.le_add_right _ _
      exact I1.fpOk hb (I1.hok.fresh hb)
end
theorem for_zip {K:PySem.W.Frag} {a b:Addr} {xs ys:List V} {g:TG} {tb:TS} {D:Ends} {σ:St} {H:Hp} (Pv:Nat→St→Hp→Prop) (he:xs.length=ys.length) (h0:Pv 0 σ H) (hl:∀i σ H,i≤xs.length→Pv i σ H→SqL K H a xs∧SqL K H b ys)
    (hs:∀i x y T σ H,xs[i]? =some x→ys[i]? =some y→Pv i σ H→H T=none→g (.ref T) σ (upd H T (.tup [x,y])) fun σ2 H2=>tb {D with nx:=Pv (i+1),ct:=Pv (i+1),bk:=D.nx} σ2 H2) (hd:∀σ H,Pv xs.length σ H→D.nx σ H):
    ∃ W:Nat→Nat→St→Hp→Prop,(∃m,W 0 m σ H)∧∀i m σ H,W i m σ H→
      ((Itz K a b).stop i H∧D.nx σ H)∨((Itz K a b).go i H∧∃N:St→Hp→Prop,(∀σ' H',N σ' H'→∃m',m' <m∧W (i+1) m' σ' H')∧∀x H',(Itz K a b).yld i H x H'→g x σ H' fun σ2 H2=>tb {D with nx:=N,ct:=N,bk:=D.nx} σ2 H2):=by
  refine⟨fun i m σ H=>m=xs.length - i∧i≤xs.length∧Pv i σ H,⟨xs.length,by simp,Nat.zero_le _,h0⟩,?_⟩
  rintro i m σ H ⟨rfl,hi,p⟩
  obtain⟨q,q2⟩:=hl i σ H hi p;by_cases hlt:i<xs.length
  · have hlt2:i<ys.length:=by omega
    refine .inr ⟨⟨xs,ys,xs[i],ys[i],q,q2,by simp[hlt],by simp[hlt2]⟩,Pv (i+1),fun σ' H' p' =>⟨xs.length - (i+1),by omega,rfl,hlt,p'⟩,fun x H' y=> ?_⟩;obtain⟨T,x,y,rfl,hT,rfl,hx,hy⟩:=y;exact hs i x y T σ H (hx xs q) (hy ys q2) p hT
  · have e:i=xs.length:=by omega
    subst e;exact .inl ⟨⟨xs,ys,q,q2,.inl (Nat.le_refl _)⟩,hd σ H p⟩
end L2
namespace L2
open PySem PySem.Spec PyProof.Rows
structure ClsFn (K:PySem.W.Frag) (C:Addr) (m:Str) (f:Addr):Prop where
  sp:PySem.W.specialIn K (.ref C) "__getattribute__"=some (some (.builtin "type.__getattribute__"))
  rd:PySem.W.readsIn K C (.type "type")=true
  at_:PySem.W.findCls K (.ref C) (.type "type") m=some (.val (.ref f))
  kp:PySem.W.keepIn K (.ref f)=true
section
variable{X:Cx}{CX:CXT}{k:Nat}{f C:Addr}{fd:FuncData}{ps:List Str}{sp:Sp}{dvs:List V}{ds:List Value}{E:XK}{x m:Str}{p pos apos:Pos}{e:Expr}{es:List Expr}{t:TA}
theorem pe_ccall {pl:Sem Bool} (c:ClsFn X.K C m f) (hg:Gl X x) (hm:X.mg x=some (.ref C)) (F:FnOk X.prog X.w X.K X.mg X.base CX k f fd ps sp) (hr:Room k X.A) (hb:Binds X.K fd ps ds) (hd:Vals dvs ds) (hx:Passes CX X E) (ha:PA X (e::es) t)
    (hdb:(x==("__debug__" :Str))=false:=by decide) (hst:starEach (e::es) X.env=(false,eval e X.env)::starEach es X.env:=by rfl) (hpl:(backTo pos (starEach es X.env)).any (·.1)=false:=by rfl)
    (ht:eval (.Call (.Attribute (.Name x p) m apos) (e::es) [] pos) X.env=(do
      let ov←eval (.Name x p) X.env
      standAt apos.atName
      let(f,first)←holding [ov] (getMethod ov m pl)
      callWith pos f first (backTo pos (starEach (e::es) X.env)) (backToKw pos (keywordEach [] X.env))):=by rfl):
    PE X (.Call (.Attribute (.Name x p) m apos) (e::es) [] pos) (tCall sp dvs E t):=by
  intro pins s σ H Q I h;refine PySem.W.methodCall_KW (pl:=pl) (ld_glob I hg hm ?_ hdb) ht;refine PySem.W.method_cls I.kIn c.sp (PySem.W.cls_value I.kIn c.rd c.at_ rfl ?_);refine PySem.W.callWith_K (first:=[]) (h₀:=X.base) I.ok.mod.kin c.kp (thn (ha pos pins _ σ H _ (I.tok _) h) fun us s2 ⟨vs,H2,I2,r,q2⟩=>⟨I2.kIn,?_⟩) hst hpl;exact run_fn F hr hb hd hx I2 r q2
end
section
variable{X:Cx}{o e f:Expr}{apos cpos:Pos}{td ty tx:TE}
def tDSet2 (td ty tx:TE):TE:=fun σ H Q=>td σ H fun x H1=>∃a,x= .ref a∧IsD H1 a∧ty σ H1 fun y H2=>tx σ H2 fun z H3=>∃kvs k,H3 a=some (.dK kvs)∧y=kV k∧kvs.length<sizeLine∧
  (∀v,valV kvs k=some v→Q v H3)∧(valV kvs k=none→Q z (upd H3 a (.dK (putK kvs k z))))
theorem d_setdefault {pins:List (Addr×Obj)} {σ:St} {H:Hp} {s:Shared} {a:Addr} {kvs:List (Key×V)} {k:Key} {z:V} {u r:Value} {A:Around} {E:Value→Shared→Prop} {Q:Value→Shared→Prop} (I:Inv X pins σ H s) (ea:H a=some (.dK kvs)) (ry:RelV (kV k) u) (rz:RelV z r) (hl:kvs.length<sizeLine)
    (h1:∀v,valV kvs k=some v→∀w' s',Inv X pins σ H s'→RelV v w'→Q w' s') (h2:valV kvs k=none→∀s',Inv X pins σ (upd H a (.dK (putK kvs k z))) s'→Q r s'):
    wpAny (model X.prog X.w) A (call (.builtin "dict.setdefault") [.ref a,u,r]) Q E s:=by
  obtain⟨hz,hd,vs,rel,dd⟩:=dk_of I.hok ea
  refine call_meetsIn PySem.F.slot_dict_setdefault dd.typeIs PySem.F.entry_dict_setdefault (PySem.F.args_dict_setdefault_3 _ _ _) (kt_meets_setdefault (mixKind X.prog X.w) a (kV_is ry) hd r)
    ⟨vs,dd,by rw[←rel.length];exact hz,fun v hv=> ?_,fun hn h' dd' hs=> ?_⟩
  · have q:=rel.val k
    rw[hv] at q
    cases e:valV kvs k with
    |none=>rw[e] at q;cases q
    | some v' =>
      rw[e] at q;exact h1 v' e v _ (I.tok _) q
  · have q:=rel.val k
    rw[hn] at q
    have e:valV kvs k=none:=by
      cases e:valV kvs k with
      |none=>rfl
      |some v' =>rw[e] at q;cases q
    have he:∃q,h'.get? a=some q:=let⟨q,_,_,hq,_⟩:=dd';⟨q,hq⟩
    refine h2 e _ (d_write I (by rw[ea];exact True.intro) hs he (dk_new (by have:=length_putK kvs k z;omega) hd (rel.put k rz) dd'))
theorem pe_dset2 (ho:PE X o td) (he:PE X e ty) (hf:PE X f tx) (m:M2 X o "setdefault" apos e f cpos):PE X (.Call (.Attribute o "setdefault" apos) [e,f] [] cpos) (tDSet2 td ty tx):=by
  intro pins s σ H Q I h;refine wpAny_Call_method m.base m.few m.line PySem.F.plainAttrs_dict PySem.F.slot_dict_setdefault PySem.F.type_dict_setdefault (thn (ho pins s σ H _ I h) fun u s1 ⟨x,H1,I1,rx,a,ex,d,q1⟩=> ?_);subst ex;obtain rfl:u=Value.ref a:=rx;obtain⟨t1,t2,_⟩:=isD_at I1 d;refine⟨t1,t2,?_⟩;rw[m.trees]
  refine Calls.callWith_builtin rfl (Calls.evalArgs_plain (Calls.spliced_cons (thn (he pins s1 σ H1 _ I1 q1) fun iv s2 ⟨y,H2,I2,ry,q2⟩=>
    Calls.spliced_cons (thn (hf pins s2 σ H2 _ I2 q2) fun fv s3 ⟨z,H3,I3,rz,kvs,k,ea,ey,hl,q3,q4⟩=>Calls.spliced_nil ?_))))
  subst ey;exact d_setdefault I3 ea ry rz hl (fun v hv w' s4 I4 rw' =>⟨v,H3,I4,rw',q3 v hv⟩) fun hn s4 I4=>⟨z,_,I4,rz,q4 hn⟩
end
section
variable{X:Cx}
theorem sum_get:∀(ns:List Int) (i:Nat),PySem.preSum (fun j=>ns.getD j 0) i=(ns.take i).sum
  |ns,0=>by simp[PySem.preSum]
  | ns,i+1=>by
    show PySem.preSum (fun j=>ns.getD j 0) i+ns.getD i 0=_;rw[sum_get ns i,List.take_add_one,List.sum_append]
    cases e:ns[i]? with
    |none=>simp[List.getD_eq_getElem?_getD,e]
    |some v=>simp[List.getD_eq_getElem?_getD,e]
theorem call_sum (hc:X.calm=true):CallR X (.builtin "sum") (fun xs H Q=>∃(a:Addr) (ns:List Int),xs=[.ref a]∧H a=some (.lst (ns.map V.int))∧ns.length≤2000∧(∀n∈ns,0≤n∧n≤1000000)∧Q (.int ns.sum) H):=by
  intro pins s σ H xs us Q I r h;obtain⟨a,ns,rfl,ha,hl,hb,q⟩:=h;obtain⟨u,rfl,ru⟩:=vals1 r;cases ru;obtain⟨its,r,pl,hz⟩:=I.list (SqL.of ha);have hlen:=r.length;rw[List.length_map] at hlen;have hlt:=I.hok.lt ha;have I1:Inv X pins σ H {s with heap:=s.heap.push {cls:= .type "list_iterator",data:= .fields #[.ref a,.int 0 0]}}:=I.kept (t' :=s.toks) fun b u e=>Heap.get?_push_of_some _ e
  have getb:∀j,0≤ns.getD j 0∧ns.getD j 0≤1000000:=fun j=>by
    rw[List.getD_eq_getElem?_getD]
    cases e:ns[j]? with
    |none=>simp
    |some v=>exact hb v (List.mem_of_getElem? e)
  have sumb:∀j,0≤PySem.preSum (fun j=>ns.getD j 0) j∧PySem.preSum (fun j=>ns.getD j 0) j≤1000000*(j:Int):=by
    intro j
    induction j with
    |zero=>simp[PySem.preSum]
    | succ j ih=>
      have:=getb j;show 0≤PySem.preSum (fun j=>ns.getD j 0) j+ns.getD j 0∧PySem.preSum (fun j=>ns.getD j 0) j+ns.getD j 0≤_
      push_cast
      omega
  refine call_sum_walk (wpAny_pyIter_list pl.isList ⟨_,_,_,_,_,_,fun i=>ns.getD i 0,rfl,Walks.list (A:=X.A.in1) (I.ok.hd hc) _ a (Nat.ne_of_lt hlt) its.toArray,⟨⟨_,Heap.get?_push_size _ rfl,rfl,rfl⟩,pl.isList.push _⟩,?_,?_,?_,fun h' tk t' k=> ?_⟩)
  · intro b hb'
    have hb' :b=s.heap.objs.size∨b=a:=by simpa using hb'
    show b<(s.heap.push _).objs.size;rw[Heap.size_push];rcases hb' with rfl|rfl
    · exact Nat.lt_succ_self _
    · exact Nat.lt_succ_of_lt hlt
  · intro i v hv
    have hv:its[i]? =some v:=by simpa using hv
    have hi:i<its.length:=(List.getElem?_eq_some_iff.mp hv).1;have hx:(ns.map V.int)[i]? =some (V.int ns[i]):=by simp[show i<ns.length by omega]
    obtain⟨u,hu,t,rfl⟩:=r.get hx;rw[hv] at hu;cases hu;refine⟨t,?_⟩;dsimp only;rw[List.getD_eq_getElem?_getD,List.getElem?_eq_getElem (by omega)];rfl
  · intro j hj
    have hj:j<its.length:=by simpa using hj
    have h1:=getb j;have h2:=sumb (j+1)
    push_cast at h2
    unfold PySem.InLong;dsimp only;refine⟨?_,?_⟩<;>(constructor<;>omega)
  · refine⟨.int ns.sum,H,I1.turned (fun b o hb e=>k b o (by simpa using hb) e) (I.hok.fresh (Nat.le_refl _)) (fun z=> ?_) (.inr I.sz) (fun x c e z=> ?_) (fun p hp z=> ?_),⟨t',?_⟩,q⟩
    · exact absurd (z▸I.lt) (Nat.lt_irrefl _)
    · obtain⟨v,o,ho,_⟩:=I.cell x c e
      exact absurd (z▸Heap.lt_size ho) (Nat.lt_irrefl _)
    · obtain⟨ho,_⟩:=I.pin p hp
      exact absurd (z▸Heap.lt_size ho) (Nat.lt_irrefl _)
    · rw[sum_get,List.size_toArray,←hlen,List.take_length]
end
theorem comp_rel {J:It} {n k:Nat} {js:List Nat} {Y:Nat→V→Hp→Prop} {g:TG} {te:TE} {σ:St} {H:Hp} {Q:VK} (E:Nat→V→Hp→Prop) (F:FeedsG J H n Y) (hlen:n≤sizeLine)
    (hst:∀i v H1 H2,(∀c xs,H1 c=some (.tup xs)→H2 c=some (.tup xs))→E i v H1→E i v H2)
    (hbody:∀(i:Nat) (x:V) (H' :Hp) (C1:V→Hp→Prop),i<n→Same H H'→Y i x H'→(∀v H'',Same H' H''→E i v H''→C1 v H'')→
      g x (cσ k js σ) H' fun σ2 H2=>SubS (cσ k js σ) σ2∧te σ2 H2 C1)
    (hq:∀p H' ys,H p=none→Same H H'→H' p=some (.lst ys)→ys.length=n→(∀i v,ys[i]? =some v→E i v H')→Q (.ref p) H'):
    CompGoal J k js g tYes te σ H Q:=by
  intro p hp
  refine⟨fun i m ys H' =>m=n - i∧i≤n∧ys.length=i∧H' p=some (.lst ys)∧Same H H'∧∀j v,ys[j]? =some v→E j v H',
    ⟨n,rfl,Nat.zero_le _,rfl,upd_same,Same.upd hp,fun j v e=>by simp at e⟩,?_⟩
  rintro i m ys H' ⟨rfl,hi,hyl,hl,hs,hE⟩
  refine⟨hl,?_⟩;by_cases hlt:i<n
  · refine .inr ⟨F.go i _ hs hlt,by omega,fun x H'' hy=> ?_⟩
    obtain⟨s1,y1⟩:=F.yld i _ x H'' hs hlt hy;have hb:=hbody i x H'' (fun v H4=>H4 p=some (.lst ys)∧∃m',m' <n - i∧(m' =n - (i+1)∧i+1≤n∧(ys++[v]).length=i+1∧upd H4 p (.lst (ys++[v])) p=some (.lst (ys++[v]))∧Same H (upd H4 p (.lst (ys++[v])))∧∀j v',(ys++[v])[j]? =some v'→E j v' (upd H4 p (.lst (ys++[v]))))) hlt (hs.trans s1) y1 ?_
    · exact hb
    · intro v H4 s4 e4
      have hp4:H4 p=some (.lst ys):=s4 _ _ (s1 _ _ hl)
      have tk:∀c xs,H4 c=some (.tup xs)→upd H4 p (.lst (ys++[v])) c=some (.tup xs):=fun c xs e=>by
        rw[upd_ne (ne_of e hp4 (by intro z;cases z))];exact e
      refine⟨hp4,n - (i+1),by omega,rfl,hlt,by simp[hyl],upd_same,fun c o e=> ?_,fun j v' e=> ?_⟩
      · rw[upd_ne (ne_of_none e hp)]
        exact s4 _ _ (s1 _ _ (hs _ _ e))
      · by_cases hj:j<ys.length
        · rw[List.getElem?_append_left hj] at e
          exact hst _ _ _ _ tk (hst _ _ _ _ (fun c xs q=>s4 _ _ (s1 _ _ q)) (hE j v' e))
        · rw[List.getElem?_append_right (by omega)] at e
          have hj2:j - ys.length=0:=by
            have:=(List.getElem?_eq_some_iff.mp e).1;simp at this;omega
          rw[hj2] at e;cases e;have:j=i:=by omega
          subst this;exact hst _ _ _ _ tk e4
  · have e:i=n:=by omega
    subst e;exact .inl ⟨F.stop _ _ hs (Nat.le_refl _),hq p H' ys hp hs hl hyl hE⟩
section
variable{X:Cx}{e:Expr}{ta:TA}{p pos p' pos' :Pos}
end
section
variable{X:Cx}{e lo stp:Expr}{te tl ts:TE}{pos p2:Pos}
theorem vals_pick {xs:List V} {us:List Value} (r:Vals xs us):∀ns:List Nat,Vals (ns.filterMap (xs[·]?)) (ns.filterMap (us[·]?))
  |[]=> .nil
  | n ::ns=>by
    rw[List.filterMap_cons,List.filterMap_cons]
    cases e:xs[n]? with
    | none=>
      have:us[n]? =none:=by
        rw[List.getElem?_eq_none_iff] at e ⊢;have:=r.length;omega
      rw[this];exact vals_pick r ns
    | some x=>
      obtain⟨u,hu,ru⟩:=r.get e;rw[hu];exact .cons ru (vals_pick r ns)
end
def NFz(X:Cx)(a:Addr):Prop:=∀o u,X.H₀ a≠some (.frz o u)
section
variable{X:Cx}{pins:List (Addr×Obj)}{σ:St}{H:Hp}{s:Shared}{d:Addr}{kvs:List (Key×V)}
theorem Inv.nfz (I:Inv X pins σ H s) (e:H d=some (.dK kvs)):NFz X d:=fun o u q=>by
  have:=I.base.frzs d o u q;rw[e] at this;cases this
theorem Inv.swap {u:HO} {v:HO} (I:Inv X pins σ H s) (e:H d=some u) (nf:NFz X d) (h1:∀xs,u≠.tup xs) (h2:∀y,u≠.own y) (h3:∀ps,u≠.tbl ps) (ok:ObjOk X.prog X.w (upd H d v) s.heap d v):Inv X pins σ (upd H d v) s:=by
  have ne:∀b,H b=none→b≠d:=fun b q z=>by rw[z,e] at q;cases q
  refine⟨I.ok,I.os,I.bare,⟨I.base.keep,I.base.slot,fun b o q n hx=> ?_,I.base.there,fun b xs q=> ?_,fun b o w q=> ?_,fun b ps q=> ?_⟩,I.loc,I.cell,?_,fun x c q=> ?_,fun p hp=> ?_,fun b w q=> ?_,I.len⟩
  · have:=I.base.free b o q n hx
    rw[upd_ne (ne b this)];exact this
  · have:=I.base.tups b xs q
    rw[upd_ne (fun z=>by rw[z,e] at this;exact h1 xs (Option.some.inj this))];exact this
  · have:=I.base.frzs b o w q
    rw[upd_ne (fun z=>nf o w (by rw[←z];exact q))];exact this
  · obtain⟨more,this⟩:=I.base.tbls b ps q
    refine⟨more,?_⟩;rw[upd_ne (fun z=>by rw[z,e] at this;exact h3 _ (Option.some.inj this))];exact this
  · rw[upd_ne (ne _ I.free)]
    exact I.free
  · have:=I.freeC x c q
    rw[upd_ne (ne _ this)];exact this
  · obtain⟨a1,a2,a3⟩:=I.pin p hp
    refine⟨a1,?_,a3⟩;rw[upd_ne (ne _ a2)];exact a2
  · by_cases hb:b=d
    · subst hb
      rw[upd_same] at q;cases q;exact ok
    · rw[upd_ne hb] at q
      refine(I.hok b w q).stay (fun c v hc q' =>q') (fun c q' => ?_) fun c ys q' => ?_
      · rw[upd_ne (fun z=>by rw[z,e] at q';exact h2 _ (Option.some.inj q'))];exact q'
      · rw[upd_ne (fun z=>by rw[z,e] at q';exact h1 _ (Option.some.inj q'))];exact q'
theorem Inv.freeze {o:Obj} (I:Inv X pins σ H s) (e:H d=some (.dK kvs)) (ho:s.heap.get? d=some o):Inv X pins σ (upd H d (.frz o (.dK kvs))) s:=
  I.swap e (I.nfz e) (fun _ z=>nomatch z) (fun _ z=>nomatch z) (fun _ z=>nomatch z) ⟨ho,show ObjOk X.prog X.w H s.heap d (.dK kvs) from I.hok d _ e⟩
theorem Inv.thaw {o:Obj} (I:Inv X pins σ H s) (e:H d=some (.frz o (.dK kvs))) (nf:NFz X d):Inv X pins σ (upd H d (.dK kvs)) s:=by
  have hok:=(show ObjOk X.prog X.w H s.heap d (.frz o (.dK kvs)) from I.hok d _ e).2;exact I.swap e nf (fun _ z=>nomatch z) (fun _ z=>nomatch z) (fun _ z=>nomatch z) hok
end
theorem is_kV {P:Program} {w:World} {k:Key} {u:Value} (h:(mixKind P w).is k u=true):RelV (kV k) u:=by
  have h:keyIs k u=true:=h
  cases k with
  | inl i=>
    cases u with
    | int j t=>
      have:j=i:=by simpa[keyIs,Value.isInt] using h
      subst this;exact⟨t,rfl⟩
    |_=>simp[keyIs,Value.isInt] at h
  | inr x=>
    cases u with
    | str y t=>
      have:y=x:=by simpa[keyIs,Value.isStrOf] using h
      subst this;exact⟨t,rfl⟩
    |_=>simp[keyIs,Value.isStrOf] at h
theorem kv_key {kvs:List (Key×V)} {vs:List (Key×Value)} (r:KV kvs vs):∀{i:Nat} {p:Key×V} {k:Key} {x:Value},kvs[i]? =some p→vs[i]? =some (k,x)→p.1=k:=by
  unfold KV at r
  induction r with
  |nil=>intro i p k x h;simp at h
  | @cons a b as bs h t ih=>
    intro i p k x h1 h2
    cases i with
    | zero=>
      simp at h1 h2;subst h1 h2;exact h.1
    |succ i=>exact ih (by simpa using h1) (by simpa using h2)
section
variable{X:Cx}{tg e:Expr}{te:TE}
def tThaw(X:Cx)(t:TE):TE:=fun σ H Q=>t σ H fun v H' =>∃d o kvs,H' d=some (.frz o (.dK kvs))∧NFz X d∧Q v (upd H' d (.dK kvs))
theorem pe_thaw {t:TE} (he:PE X e t):PE X e (tThaw X t):=by
  intro pins s σ H Q I h;refine thn (he pins s σ H _ I h) fun u s1 ⟨v,H1,I1,r1,d,o,kvs,ed,nf,q⟩=> ?_;exact⟨v,_,I1.thaw ed nf,r1,q⟩
end
end L2
namespace L2
open PySem PySem.Spec PyProof.Rows
structure Fly (h:Heap) (e T:Addr) (oe:Obj):Prop where
  at_:h.get? e=some oe
  fs:∃vs,oe.data= .fields vs∧vs[1]? =some (.ref T)
  ne:T≠e
  tr:∃oT ts,h.get? T=some oT∧oT.data= .fields ts∧ts[3]? =some .none
section
variable{M:Model}{A:Around}{E:Value→Shared→Prop}{s:Shared}
theorem new_entry {base:Heap} {env:Env} {outer:List Env} {L e:Addr} {oe:Obj} {vs:Array Value} {head:Value} {hadNext:Bool} {Q:Unit→Shared→Prop}
    (hfr:A.frames=some (env::outer)) (hl:s.heap.FunFrames base (env::outer)) (hf:env.frame=some L)
    (he:s.heap.get? e=some oe) (hd:oe.data= .fields vs) (hsz:1<vs.size)
    (h:∀h' T,s.heap.objs.size≤T→Fly h' e T (oe.mapFields (·.setIfInBounds 1 (.ref T)))→(∀b o,b≠e→b∉(env::outer).filterMap (·.frame)→s.heap.get? b=some o→h'.get? b=some o)→
      (∀b o,b≠e→s.heap.get? b=some o→∃sl,h'.get? b=some {o with slots:=sl})→Q () {s with heap:=h'}):
    wpAny M A (do let a←frameOf env;let pl←entryPlaceOf L hadNext;let b←EntryCells.newEntry head a .none (rawInt L) .none pl;setField (.ref e) 1 b) (fun _ s' =>wpAny M A (setFlight (.ref e) none) Q E s') E s:=by
  have hene:e∉(env::outer).filterMap (·.frame):=fun hm=>by
    obtain⟨_,o,ho,hnf⟩:=hl.mem hm
    rw[he] at ho;injection ho with ho;subst ho;exact hnf vs hd
  refine wpAny_bind (wpAny_frameOf_fun hfr hl hf fun h₁ hs₁=> ?_);refine wpAny_bind (wpAny_entryPlaceOf fun pl hpl=> ?_);unfold EntryCells.newEntry newFields;refine wpAny_bind (wpAny_newObj_type ?_ (hpl.sizeOk5 _ _ _ _ _));have he₁:h₁.get? e=some oe:=(hs₁.2.1 e hene).trans he;have he₂:=Heap.get?_push_of_some (h:=h₁) {cls:= .type "traceback",dict:=none,data:= .fields ([head,.ref L,.none,rawInt L,.none]++(if pl.isEmpty then List.replicate 6 Value.none else pl)).toArray} he₁;refine wpAny_setField he₂ hd hsz ?_;have hTe:h₁.objs.size≠e:=Nat.ne_of_gt (Heap.lt_size he₁);have hd₃:=Obj.data_mapFields hd (·.setIfInBounds 1 (Value.ref h₁.objs.size));have he₃:=Heap.get?_update_self (Obj.mapFields (·.setIfInBounds 1 (Value.ref h₁.objs.size))) he₂ (Obj.isFreed_of_fields hd₃)
  have hT₃:=(Heap.get?_update_other (h₁.push {cls:= .type "traceback",dict:=none,data:= .fields ([head,.ref L,.none,rawInt L,.none]++(if pl.isEmpty then List.replicate 6 Value.none else pl)).toArray})
    (Obj.mapFields (·.setIfInBounds 1 (Value.ref h₁.objs.size))) (Ne.symm hTe)).trans (Heap.get?_push_size h₁ rfl)
  unfold setFlight;refine wpAny_bind (wpAny_field he₃ hd₃ (x:= .ref h₁.objs.size) (by simp[hsz]) ?_);rw[if_pos (show(Value.ref h₁.objs.size !=Value.none)=true from by simp)];refine wpAny_setField hT₃ rfl (by simp only[List.size_toArray,List.length_append,List.length_cons,List.length_nil]<;>omega) (h _ h₁.objs.size ?_ ?_ ?_ ?_)
  · rw[hs₁.1];exact Nat.le_refl _
  · refine⟨?_,⟨_,hd₃,by simp[hsz]⟩,hTe,_,_,Heap.get?_update_self _ hT₃ (Obj.isFreed_of_fields (Obj.data_mapFields rfl _)),Obj.data_mapFields rfl _,by first|(simp;done)|(rcases hpl with rfl|⟨_,_,_,_,_,_,_,rfl⟩<;>simp)⟩
    rw[Heap.get?_update_other _ _ hTe];exact he₃
  · intro b o hbe hbf hb
    have hb₁:=(hs₁.2.1 b hbf).trans hb;have hbT:h₁.objs.size≠b:=Nat.ne_of_gt (Heap.lt_size hb₁);rw[Heap.get?_update_other _ _ hbT,Heap.get?_update_other _ _ (Ne.symm hbe)];exact Heap.get?_push_of_some _ hb₁
  · intro b o hbe hb
    obtain⟨sl,hb₁⟩:=hs₁.2.2 b o hb;have hbT:h₁.objs.size≠b:=Nat.ne_of_gt (Heap.lt_size hb₁);refine⟨sl,?_⟩;rw[Heap.get?_update_other _ _ hbT,Heap.get?_update_other _ _ (Ne.symm hbe)];exact Heap.get?_push_of_some _ hb₁
theorem leave_first {base:Heap} {env:Env} {outer:List Env} {L e:Addr} {oe:Obj} {vs:Array Value} {Q:Unit→Shared→Prop}
    (hfr:A.frames=some (env::outer)) (hl:s.heap.FunFrames base (env::outer)) (hf:env.frame=some L)
    (he:s.heap.get? e=some oe) (hd:oe.data= .fields vs) (h1:vs[1]? =some .none)
    (h:∀h' T,s.heap.objs.size≤T→Fly h' e T (oe.mapFields (·.setIfInBounds 1 (.ref T)))→(∀b o,b≠e→b∉(env::outer).filterMap (·.frame)→s.heap.get? b=some o→h'.get? b=some o)→
      (∀b o,b≠e→s.heap.get? b=some o→∃sl,h'.get? b=some {o with slots:=sl})→Q () {s with heap:=h'}):wpAny M A (leaving env (.ref e)) Q E s:=by
  unfold leaving noteFrame;simp only[hf];refine wpAny_bind (wpAny_bind (wpAny_field he hd h1 ?_));rw[if_neg (by decide)];exact new_entry hfr hl hf he hd (Array.getElem?_eq_some_iff.mp h1).1 h
theorem leave_next {base:Heap} {env:Env} {outer:List Env} {L e T:Addr} {oe:Obj} {Q:Unit→Shared→Prop}
    (hfr:A.frames=some (env::outer)) (hl:s.heap.FunFrames base (env::outer)) (hf:env.frame=some L) (ht:Fly s.heap e T oe)
    (h:∀h' T',s.heap.objs.size≤T'→Fly h' e T' (oe.mapFields (·.setIfInBounds 1 (.ref T')))→(∀b o,b≠e→b≠T→b∉(env::outer).filterMap (·.frame)→s.heap.get? b=some o→h'.get? b=some o)→
      (∀b o,b≠e→b≠T→s.heap.get? b=some o→∃sl,h'.get? b=some {o with slots:=sl})→Q () {s with heap:=h'}):wpAny M A (leaving env (.ref e)) Q E s:=by
  obtain⟨he,⟨vs,hd,h1⟩,hTe,oT,ts,hT,hdT,h3⟩:=ht;unfold leaving noteFrame;simp only[hf];refine wpAny_bind (wpAny_bind (wpAny_field he hd h1 ?_));rw[if_pos (show(Value.ref T !=Value.none)=true from by simp)];refine wpAny_bind (wpAny_field hT hdT h3 ?_);rw[if_neg (show ¬((Value.none==rawInt L)=true) from by simp[rawInt])];refine wpAny_bind (wpAny_setField hT hdT (Array.getElem?_eq_some_iff.mp h3).1 ?_);have other:∀b,b≠T→(s.heap.update T (Obj.mapFields (·.setIfInBounds 3 Value.none))).get? b=s.heap.get? b:=fun b hb=>Heap.get?_update_other _ _ (Ne.symm hb)
  have noRecord:∀b o,s.heap.get? b=some o→(∀vs,o.data≠.fields vs)→b≠T:=fun b o hb hnf q=>by
    rw[q,hT] at hb;injection hb with hb;subst hb;exact hnf ts hdT
  refine new_entry hfr (hl.of_keeps fun b o hb hnf=>⟨o,(other b (noRecord b o hb hnf)).trans hb,rfl⟩) hf ((other e (Ne.symm hTe)).trans he) hd (Array.getElem?_eq_some_iff.mp h1).1
    fun h' T' hn fl k1 k2=>h h' T' ?_ fl (fun b o hbe hbT hbf hb=>k1 b o hbe hbf ((other b hbT).trans hb)) fun b o hbe hbT hb=>k2 b o hbe ((other b hbT).trans hb)
  have hn' :(s.heap.update T (Obj.mapFields (·.setIfInBounds 3 Value.none))).objs.size≤T' :=hn;rw[Heap.size_after_update] at hn';exact hn'
end
structure TailHas (bm:List Value):Prop where
  hasB:bm.contains (.type "ValueError")=true
  hasBase:bm.contains (.type "BaseException")=true
  noAttr:bm.contains (.type "AttributeError")=false
  noName:bm.contains (.type "NameError")=false
abbrev excNew(C t:Addr):Obj:={cls:= .ref C,data:= .fields #[.ref t,.none,.none,.none,.bool false,.none]}
section
variable{prog:Program}{w:World}{A:Around}{E:Value→Shared→Prop}{h:Heap}{g:Array GenState}{d:Drawn}{t:Nat}{os:OsState}
variable{nm q:Str}{C N:Addr}{bs bm:List Value}{hdct:Bool}{sn:List Str}{sub:List Value}{ab:Bool}{col:Option Bool}{dd:Option Addr}{k0 k1 k2 k3 k5:Option Value}
theorem exc_check_new {M:Model} (T:TailHas bm) {rest:List Value} {Q:Unit→Shared→Prop} (hC:h.get? C=some (excClassObj nm q C N bs bm hdct sn sub ab col dd k0 k1 k2 k3 k5 "ValueError.__new__"))
    (hq:Q () ⟨h,g,d,t,os⟩):wpAny M A (checkBuiltinCall "ValueError.__new__" ⟨.ref C::rest,[]⟩) Q E ⟨h,g,d,t,os⟩:=by
  have F:=PySem.F.excBase_ValueError;have hcont:(Value.ref C::bm).contains (.type "ValueError")=true:=by rw[List.contains_cons,T.hasB,Bool.or_true]
  have hstar:=F.noStar;simp only[checkBuiltinCall,F.newKind,F.newSplit,F.newRow]
  repeat (first|refine wpAny_loadPart_at hC ?_|(refine wpAny_isSubtype_exc hC ?_;rw[hcont])|refine wpAny_staticBase_exc hC ?_|refine wpAny_madeBy_exc hC ?_|simp only[bne_self_eq_false,Bool.false_eq_true,if_false]|wp_step)
  exact hq
theorem exc_new_code (T:TailHas bm) {R:Result→Shared→Prop} {rest:List Value} (hC:h.get? C=some (excClassObj nm q C N bs bm hdct sn sub ab col dd k0 k1 k2 k3 k5 "ValueError.__new__"))
    (hq:R (.ok (.ret (.ref (h.objs.size+1)))) ⟨(h.push {cls:= .type "tuple",data:= .seq rest.toArray}).push (excNew C h.objs.size),g,d,t,os⟩) (hrest:rest.length≤sizeLine:=by size_fits):
    codeAny (model prog w) A (.builtin "ValueError.__new__" ⟨.ref C::rest,[]⟩) R ⟨h,g,d,t,os⟩:=by
  have F:=PySem.F.excBase_ValueError;have hends:=F.ends;have hcB:(Value.ref C::bm).contains (.type "ValueError")=true:=by rw[List.contains_cons,T.hasB,Bool.or_true]
  have hcA:(Value.ref C::bm).contains (.type "AttributeError")=false:=by rw[List.contains_cons,T.noAttr];rfl
  have hcN:(Value.ref C::bm).contains (.type "NameError")=false:=by rw[List.contains_cons,T.noName];rfl
  refine codeAny_builtinAt F.entry ?_;unfold Builtin.«BaseException.__new__»;refine PySem.wpAt_bind ?_;show PySem.wpAt _ _ _ (stack>>= _) _ _ _;refine PySem.wpAt_bind (PySem.wpAt_stack fun p below=>PySem.wpAt_of_wpAny ?_)
  wp_walk
  refine PySem.wpAt_of_wpAny ?_;rw[F.owner]
  repeat (first|with_reducible refine wpAny_madeHere_exc F.canon hC ?_|with_reducible refine wpAny_loadPart_at hC ?_|(with_reducible refine wpAny_isSubtype_exc hC ?_;first|rw[hcB]|rw[hcA]|rw[hcN])|wp_step)
  show R _ _;rw[Heap.size_push];exact hq
theorem exc_type_call (T:TailHas bm) {K:PySem.W.Frag} {rest:List Value} {fI:Addr} {Q:Fin→Shared→Prop}
    (hC:h.get? C=some (excClassObj nm q C N bs bm hdct sn sub ab col dd k0 k1 k2 k3 k5 "ValueError.__new__")) (X:K.In h) (hi:PySem.W.findIn K (.ref C) "__init__"=some (some (.ref fI))) (hf:PySem.W.typeIn K (.ref fI)=some (.type "function"))
    (hq:wpAny (model prog w) A (call (.ref fI) (.ref (h.objs.size+1)::rest)) (fun r s' =>r= .none∧Q (.done (.ret (.ref (h.objs.size+1)))) s') E ⟨(h.push {cls:= .type "tuple",data:= .seq rest.toArray}).push (excNew C h.objs.size),g,d,t,os⟩) (hrest:rest.length≤sizeLine:=by size_fits):
    wpAny (model prog w) A (Builtin.«type.__call__» ⟨.ref C::rest,[]⟩) Q E ⟨h,g,d,t,os⟩:=by
  have F:=PySem.F.excBase_ValueError
  repeat (first|with_reducible refine wpAny_loadPart_at hC ?_|with_reducible refine wpAny_madeBy_exc hC ?_|wp_step)
  refine codeAny_call_builtin_code (Code.quiet_builtin _ F.quiet) (exc_check_new T hC ?_);refine exc_new_code T hC ?_ hrest;show wpAny _ _ _ _ _ _;have hk:∀b o,h.get? b=some o→((h.push {cls:= .type "tuple",data:= .seq rest.toArray}).push (excNew C h.objs.size)).get? b=some o:=fun b o e=>Heap.get?_push_of_some _ (Heap.get?_push_of_some _ e);have hC₁:=hk _ _ hC;have X₁:K.In ((h.push {cls:= .type "tuple",data:= .seq rest.toArray}).push (excNew C h.objs.size)):=X.keeps hk;have hget:((h.push {cls:= .type "tuple",data:= .seq rest.toArray}).push (excNew C h.objs.size)).get? (h.objs.size+1)=some (excNew C h.objs.size):=by heap_get
  have hcC:(Value.ref C::bm).contains (.ref C)=true:=by simp
  unfold isInstance
  repeat (first|with_reducible refine wpAny_loadPart_at hget ?_|(with_reducible refine wpAny_isSubtype_exc hC₁ ?_;rw[hcC])|wp_step)
  show wpAny _ _ (typeLookup (.ref C) _) _ _ _;refine(PySem.W.looks_findIn X₁ hi).here ?_;refine wpAny_holding (wpAny_bind ?_);refine(PySem.W.bind_fn X₁ (.ref (h.objs.size+1)) hf).here ?_;refine wpAny_bind (wpAny_mono hq (fun r s' hr=> ?_) fun _ _ x=>x);obtain⟨rfl,hQ⟩:=hr
  wp_walk
  exact hQ
theorem exc_call (T:TailHas bm) {K:PySem.W.Frag} {rest:List Value} {fI:Addr} {Q:Value→Shared→Prop}
    (hC:h.get? C=some (excClassObj nm q C N bs bm hdct sn sub ab col dd k0 k1 k2 k3 k5 "ValueError.__new__")) (X:K.In h) (hi:PySem.W.findIn K (.ref C) "__init__"=some (some (.ref fI))) (hf:PySem.W.typeIn K (.ref fI)=some (.type "function"))
    (hq:wpAny (model prog w) (A.under (.builtin "type.__call__" ⟨.ref C::rest,[]⟩)) (call (.ref fI) (.ref (h.objs.size+1)::rest)) (fun r s' =>r= .none∧Q (.ref (h.objs.size+1)) s') E ⟨(h.push {cls:= .type "tuple",data:= .seq rest.toArray}).push (excNew C h.objs.size),g,d,t,os⟩) (hrest:rest.length≤sizeLine:=by size_fits):
    wpAny (model prog w) A (call (.ref C) rest) Q E ⟨h,g,d,t,os⟩:=by
  have f1:=tc_lookup;have f2:=tc_bind (.ref C);have hT:(⟨h,g,d,t,os⟩:Shared).TypeIs (.ref C) "type":=⟨_,hC,rfl⟩;refine wpAny_call (codeAny_of_tree ?_);show wpAny _ _ (callAny (.ref C) _) _ _ _
  repeat (any_goals (first|assumption|with_reducible refine wpAny_loadPart_at hC ?_|wp_step))
  refine⟨rfl,?_⟩;exact codeAny_call_builtin_at (Code.quiet_builtin _ (by decide+kernel)) entry_typeCall (wpAny_check_type_call_sub hC (exc_type_call (hrest:=hrest) T hC X hi hf hq))
end
def excP(a C:Addr)(dd:Option Addr)(n:Bool)(h:Heap):Prop:=∃vs:Array Value,h.get? a=some {cls:= .ref C,dict:=dd,data:= .fields vs}∧vs.size=6∧(n=true→vs[1]? =some .none)
theorem ext_ok {P:Program} {w:World} {H:Hp} {h:Heap} {a C:Addr} {dd:Option Addr} {n:Bool} (p:excP a C dd n h):ObjOk P w H h a (.ext (excP a C dd n)):=by
  obtain⟨vs,e,r⟩:=p;exact⟨⟨vs,e,r⟩,⟨_,e⟩,fun h1 h2 ⟨ws,e1,r1⟩ k=>⟨ws,k _ e1,r1⟩⟩
theorem ext_at {P:Program} {w:World} {H:Hp} {h:Heap} {a C:Addr} {dd:Option Addr} {n:Bool} (ok:HOk P w H h) (e:H a=some (.ext (excP a C dd n))):excP a C dd n h:=
  (show ObjOk P w H h a (.ext (excP a C dd n)) from ok a _ e).1
theorem upd_self {H:Hp} {a:Addr} {o:HO} (h:H a=some o):upd H a o=H:=by
  funext b
  by_cases hb:b=a
  · subst hb
    rw[upd_same,h]
  · rw[upd_ne hb]
structure ExcC (K:PySem.W.Frag) (C:Addr):Prop where
  obj:∃nm q N bs bm hdct sn sub ab col dd k0 k1 k2 k3 k5,K.lookup C=some (excClassObj nm q C N bs bm hdct sn sub ab col dd k0 k1 k2 k3 k5 "ValueError.__new__")∧TailHas bm
structure ExcMk (K:PySem.W.Frag) (C f:Addr):Prop extends ExcC K C where
  init:PySem.W.findIn K (.ref C) "__init__"=some (some (.ref f))
  fn:PySem.W.typeIn K (.ref f)=some (.type "function")
  kp:PySem.W.keepIn K (.ref C)=true
section
variable{X:Cx}{CX:CXT}{k:Nat}{f C:Addr}{fd:FuncData}{ps:List Str}{sp:Sp}{E:XK}{x m:Str}{p pos apos:Pos}{e o:Expr}{es:List Expr}{ta:TE}{t:TA}
def tMakeX(C:Addr)(sp:Sp)(E:XK)(t:TA):TE:=fun σ H Q=>t σ H fun vs H1=>∀x,H1 x=none→sp (.ref x::vs) (upd H1 x (.ext (excP x C none true))) (fun v H2=>v= .non∧Q (.ref x) H2) E
theorem run_makeX {pins:List (Addr×Obj)} {σ:St} {H:Hp} {s:Shared} {Q:VK} {us:List Value} {vs:List V} (M:ExcMk X.K C f) (F:FnOk X.prog X.w X.K X.mg X.base CX k f fd ps sp) (hr:Room (k+1) X.A) (hb:Binds X.K fd ps [])
    (hx:Passes CX X E) (I:Inv X pins σ H s) (r:Vals vs us) (hus:us.length≤100)
    (h:∀x,H x=none→sp (.ref x::vs) (upd H x (.ext (excP x C none true))) (fun v H2=>v= .non∧Q (.ref x) H2) E):
    wpAny (model X.prog X.w) X.A (call (.ref C) us) (EP X pins σ Q) X.xe s:=by
  have hq:=h (s.heap.objs.size+1) (I.hok.fresh (Nat.le_succ _));obtain⟨nm,q,N,bs,bm,hdct,sn,sub,ab,col,dd,k0,k1,k2,k3,k5,lk,T⟩:=M.obj;have hC:=I.kIn _ _ lk;have hk:∀b u,s.heap.get? b=some u→((s.heap.push {cls:= .type "tuple",data:= .seq us.toArray}).push (excNew C s.heap.objs.size)).get? b=some u:=fun b u e=>Heap.get?_push_of_some _ (Heap.get?_push_of_some _ e);have hget:((s.heap.push {cls:= .type "tuple",data:= .seq us.toArray}).push (excNew C s.heap.objs.size)).get? (s.heap.objs.size+1)=some (excNew C s.heap.objs.size):=by heap_get
  have I2:Inv X pins σ (upd H (s.heap.objs.size+1) (.ext (excP (s.heap.objs.size+1) C none true))) {s with heap:=(s.heap.push {cls:= .type "tuple",data:= .seq us.toArray}).push (excNew C s.heap.objs.size)}:=
    I.laid (t' :=s.toks) hk (Nat.le_succ _) (ext_ok ⟨_,hget,rfl,fun _=>rfl⟩)
  have r2:Vals (V.ref (s.heap.objs.size+1)::vs) (Value.ref (s.heap.objs.size+1)::us):= .cons rfl r
  have hl:(Value.ref (s.heap.objs.size+1)::us++([]:List Value)).length=ps.length:=by
    have e:=r2.length;rw[F.len _ _ _ _ hq] at e;rw[List.append_nil];exact e.symm
  obtain⟨hp,g,d,tk,os⟩:=s;refine exc_call (hrest:=Nat.le_trans hus (by decide)) T hC I.kIn M.init M.fn (wpAny_call (codeAny_mono (F.run _ X.stack _ _ ⟨Value.ref (hp.objs.size+1)::us,[]⟩ (Value.ref (hp.objs.size+1)::us) _ _ E (hr.make C us []) (I2.env0.make C us []) ?_ r2 hq) fun r s' hq' => ?_))
  · have:=hb _ (Value.ref (hp.objs.size+1)::us) I2.kIn hl
    rw[List.append_nil] at this;exact this
  · cases r with
    |error e=>exact hx pins σ _ _ e s' I2 hq'
    | ok fl=>
      cases fl with
      | ret u=>
        obtain⟨v,H',I3,rv,ev,q3⟩:=I2.after hq';subst ev;exact⟨rv,⟨V.ref (hp.objs.size+1),H',I3,rfl,q3⟩⟩
      |next=>exact False.elim hq'
      |brk=>exact False.elim hq'
      |cont=>exact False.elim hq'
theorem pe_makeX (M:ExcMk X.K C f) (F:FnOk X.prog X.w X.K X.mg X.base CX k f fd ps sp) (hr:Room (k+1) X.A) (hg:Gl X x) (hm:X.mg x=some (.ref C)) (hb:Binds X.K fd ps []) (hx:Passes CX X E)
    (ha:PA X (e::es) t) (hlen:∀vs H Q E,sp vs H Q E→vs.length≤100) (hdb:(x==("__debug__" :Str))=false:=by decide) (he:starEach (e::es) X.env=(false,eval e X.env)::starEach es X.env:=by rfl) (hpl:(backTo pos (starEach es X.env)).any (·.1)=false:=by rfl):
    PE X (.Call (.Name x p) (e::es) [] pos) (tMakeX C sp E t):=by
  intro pins s σ H Q I h;refine wpAny_Call_Name_kw (ld_glob I hg hm ?_ hdb);refine PySem.W.callWith_K (h₀:=X.base) I.ok.mod.kin M.kp (thn (ha pos pins s σ H _ I h) fun us s1 ⟨vs,H1,I1,r,q⟩=>⟨I1.kIn,?_⟩) he hpl;refine run_makeX M F hr hb hx I1 r ?_ q;have h1:=hlen _ _ _ _ (q _ (I1.hok.fresh (Nat.le_refl _)));have h2:=r.length;rw[List.length_cons] at h1;rw[List.nil_append];omega
end
theorem find_vinit(K:PySem.W.Frag):PySem.W.findCls K (.type "ValueError") (.type "type") "__init__"=some (.val (.builtin "ValueError.__init__")):=by kernel_rfl
section
variable{prog:Program}{w:World}{A:Around}{E:Value→Shared→Prop}{h:Heap}{g:Array GenState}{d:Drawn}{t:Nat}{os:OsState}
variable{nm q:Str}{C N:Addr}{bs bm:List Value}{hdct:Bool}{sn:List Str}{sub:List Value}{ab:Bool}{col:Option Bool}{dd:Option Addr}{k0 k1 k2 k3 k5:Option Value}
theorem exc_check_init {M:Model} (T:TailHas bm) {e:Addr} {oe:Obj} {rest:List Value} {Q:Unit→Shared→Prop}
    (hC:h.get? C=some (excClassObj nm q C N bs bm hdct sn sub ab col dd k0 k1 k2 k3 k5 "ValueError.__new__")) (he:h.get? e=some oe) (hcls:oe.cls= .ref C) (hq:Q () ⟨h,g,d,t,os⟩):
    wpAny M A (checkBuiltinCall "ValueError.__init__" ⟨.ref e::rest,[]⟩) Q E ⟨h,g,d,t,os⟩:=by
  have F:=PySem.F.excBase_ValueError;have hcB:(Value.ref C::bm).contains (.type "ValueError")=true:=by rw[List.contains_cons,T.hasB,Bool.or_true]
  have hshort:=F.noStar;simp only[checkBuiltinCall,F.initKind,F.initSplit,F.initRow]
  repeat (first|(with_reducible refine wpAny_loadPart_at he ?_;rw[hcls])|with_reducible refine wpAny_loadPart_at hC ?_|(with_reducible refine wpAny_isSubtype_exc hC ?_;rw[hcB])|wp_step)
  refine wpAny_onRaise ?_
  rw[show ∀(a b:String) (n:Nat),Bind.check ⟨.positional,"*","ValueError",.self,[⟨"args",.varPos,false⟩]⟩ a b n (List.map (fun x=>x.fst) ({pos:=Value.ref e::rest}:Args).kw)=pure () from
    fun a b n=>check_star_args _ _ _ _ _ _]
  exact wpAny_pure hq
theorem exc_vinit (T:TailHas bm) {e:Addr} {vs:Array Value} {de:Option Addr} {x:Value} {Q:Value→Shared→Prop}
    (hC:h.get? C=some (excClassObj nm q C N bs bm hdct sn sub ab col dd k0 k1 k2 k3 k5 "ValueError.__new__")) (he:h.get? e=some {cls:= .ref C,dict:=de,data:= .fields vs}) (hv:vs.size=6)
    (hq:∀h' T',h.get? T' =none→(∀b o,b≠e→h.get? b=some o→h'.get? b=some o)→h'.get? e=some {cls:= .ref C,dict:=de,data:= .fields (vs.setIfInBounds 0 (.ref T'))}→Q .none ⟨h',g,d,t,os⟩):
    wpAny (model prog w) A (call (.builtin "ValueError.__init__") [.ref e,x]) Q E ⟨h,g,d,t,os⟩:=by
  have F:=PySem.F.excBase_ValueError;have hsz:0<vs.size:=by omega
  refine wpAny_call (codeAny_call_builtin F.init.plain F.initEntry (exc_check_init T hC he rfl ?_));unfold Builtin.«BaseException.__init__»
  wp_walk
  have h0:vs[0]? =some vs[0]:=Array.getElem?_eq_getElem hsz;rw[h0];have he2:=Heap.get?_push_of_some {cls:= .type "tuple",data:= .seq #[x]} he
  have fin:Q .none ⟨(h.push {cls:= .type "tuple",data:= .seq #[x]}).update e (Obj.mapFields (·.setIfInBounds 0 (.ref h.objs.size))),g,d,t,os⟩:=by
    refine hq _ h.objs.size (Heap.get?_none_of_le (Nat.le_refl _)) (fun b o hb e' => ?_) ?_
    · rw[Heap.get?_update_other _ _ (Ne.symm hb)]
      exact Heap.get?_push_of_some _ e'
    · exact Heap.get?_update_self _ he2 rfl
  generalize vs[0]=v0;refine wpAny_pure ?_;refine wpAny_bind (wpAny_setField he2 rfl hsz ?_)
  cases v0 with
  |ref a=>exact wpAny_letGo (wpAny_pure fin)
  |_=>exact wpAny_pure (wpAny_pure fin)
end
section
variable{X:Cx}{p pos apos:Pos}{e1 e2:Expr}{t:TA}
def tVInit(K:PySem.W.Frag)(t:TA):TE:=fun σ H Q=>t σ H fun vs H1=>∃a C dd n x,vs=[.ref a,x]∧H1 a=some (.ext (excP a C dd n))∧ExcC K C∧Q .non H1
theorem pe_vinit {pl:Sem Bool} (hg:Gl X "ValueError") (hm:X.mg "ValueError"=none) (ha:PA X [e1,e2] t)
    (hst:starEach [e1,e2] X.env=(false,eval e1 X.env)::starEach [e2] X.env:=by rfl) (hpl:(backTo pos (starEach [e2] X.env)).any (·.1)=false:=by rfl)
    (ht:eval (.Call (.Attribute (.Name "ValueError" p) "__init__" apos) [e1,e2] [] pos) X.env=(do
      let ov←eval (.Name "ValueError" p) X.env
      standAt apos.atName
      let(f,first)←holding [ov] (getMethod ov "__init__" pl)
      callWith pos f first (backTo pos (starEach [e1,e2] X.env)) (backToKw pos (keywordEach [] X.env))):=by rfl):
    PE X (.Call (.Attribute (.Name "ValueError" p) "__init__" apos) [e1,e2] [] pos) (tVInit X.K t):=by
  intro pins s σ H Q I h;refine PySem.W.methodCall_KW (pl:=pl) (ld_blt I hg hm Boot.«ValueError» ?_) ht;obtain⟨m,F⟩:=I.fr;refine PySem.W.method_type F I.mod.kin (by kernel_rfl) (by decide+kernel) (find_vinit X.K) (by decide+kernel) ?_;refine PyProof.Rows.callWith_builtin1 (thn (ha pos pins _ σ H _ (I.tok _) h) fun us s1 ⟨vs,H1,I1,r1,q1⟩=> ?_) hst hpl;obtain⟨a,C,dd,n,x,rfl,hx,hc,q⟩:=q1
  cases r1 with
  | cons r rr=>
    cases rr with
    | cons r' rr=>
      cases rr;cases r;obtain⟨nm,q',N,bs,bm,hdct,sn,sub,ab,col,dd',k0,k1,k2,k3,k5,lk,T⟩:=hc.obj;obtain⟨ws,he,hw,hn⟩:=ext_at I1.hok hx;obtain⟨hp,g,d,tk,os⟩:=s1;refine exc_vinit T (I1.kIn _ _ lk) he hw fun h' T' hT k he' =>⟨.non,H1,?_,rfl,q⟩;have I2:=I1.write (h' :=h') (t' :=tk) (x:=a) (e:=a) (o:= .ext (excP a C dd n)) (by rw[hx];exact True.intro) (.inl rfl) k ⟨_,he'⟩ (ext_ok ⟨_,he',by simp[hw],fun z=>by rw[Array.getElem?_setIfInBounds_ne (by decide)];exact hn z⟩);rw[upd_self hx] at I2;exact I2
end
end L2
namespace L2
open PySem PySem.Spec PyProof.Rows PySem.Builtin.ObjectAttr
theorem refuse_value(self:Value):refuseLoop self "__setattr__" [.type "ValueError",.type "Exception",.type "BaseException",.type "object"]=pure ():=by kernel_rfl
section
variable{prog:Program}{w:World}{A:Around}{E:Value→Shared→Prop}{h:Heap}{g:Array GenState}{d:Drawn}{t:Nat}{os:OsState}
variable {nm q:Str} {C N x:Addr} {bs bm:List Value} {sn:List Str} {sub:List Value} {ab:Bool} {col:Option Bool} {dd:Option Addr} {k0 k1 k2 k3 k5:Option Value} {newId:String}
  {mA:Str→Option Value} {name:Str} {v:Value} {K:PySem.W.Frag}
theorem exc_check_sa {M:Model} {o:Obj} {nameV:Value} {Q:Unit→Shared→Prop} (hob:bm.contains (.type "object")=true)
    (hC:h.get? C=some (excClassObj nm q C N bs bm true sn sub ab col dd k0 k1 k2 k3 k5 newId)) (hx:h.get? x=some o) (hc:o.cls= .ref C) (hq:Q () ⟨h,g,d,t,os⟩):
    wpAny M A (checkBuiltinCall "object.__setattr__" ⟨[.ref x,nameV,v],[]⟩) Q E ⟨h,g,d,t,os⟩:=by
  have SF:=PySem.F.store_object;have hcB:(Value.ref C::bm).contains (.type "object")=true:=by rw[List.contains_cons,hob,Bool.or_true]
  have ha:=SF.args (.ref x) nameV v;simp only[checkBuiltinCall,SF.kind,SF.split];refine wpAny_bind ?_
  · unfold isInstance
    repeat (first|(with_reducible refine wpAny_loadPart_at hx ?_;rw[hc])|(with_reducible refine wpAny_isSubtype_exc hC ?_;rw[hcB])|wp_step)
    exact hq
theorem exc_store_entry {tk:Tok} {Q:Fin→Shared→Prop} {ns:List Str} (hpass:∀self,refuseLoop self "__setattr__" bm=pure ()) (X:K.In h) (hna:PySem.W.findIn K (.ref C) name=some none)
    (hC:h.get? C=some (excClassObj nm q C N bs bm true sn sub ab col dd k0 k1 k2 k3 k5 newId)) (I:h.Inst x C mA)
    (hq:∀h' tk',h'.Inst x C (fun y=>if y=name then some v else mA y)→
      (∀b o,b≠x→(∀o₀ dx,h.get? x=some o₀→o₀.dict=some dx→b≠dx)→h.get? b=some o→h'.get? b=some o)→
      (∀o₀,h.get? x=some o₀→∃o₁,h'.get? x=some o₁∧o₁.cls=o₀.cls∧o₁.data=o₀.data∧o₁.slots=o₀.slots∧(∀dx,o₀.dict=some dx→o₁.dict=some dx)∧(o₀.dict=none→∃dx,o₁.dict=some dx∧h.objs.size≤dx))→Q (.done (.ret .none)) ⟨h',g,d,tk',os⟩) (hw:Within mA ns) (hsz:ns.length≤1000):
    wpAny (model prog w) A (Builtin.«object.__setattr__» ⟨[.ref x,.str name tk,v],[]⟩) Q E ⟨h,g,d,t,os⟩:=by
  obtain⟨o,hx,hc,hnc,hd⟩:=I;have hpass:=hpass (.ref x);unfold Builtin.«object.__setattr__»
  repeat (first|rw[refuse_eq]|(rw[refuseLoop_ref,hpass])|(with_reducible refine wpAny_loadPart_at hx ?_;rw[hc])|with_reducible refine wpAny_mroOf_exc hC ?_|(with_reducible refine(PySem.W.looks_findIn X hna).here ?_)|wp_step)
  rcases hd with⟨hdn,hmA⟩|⟨dx,hdx,hne,hns⟩
  ·
    rw[hdn,if_neg (by simp[typeHasDict])]
    split
    · rename_i hcd
      cases hcd
    split
    · rename_i c hcd
      exact absurd hcd (hnc c)
    · have hx₁:(h.push {cls:= .type "dict",data:= .dict #[]}).get? x=some o:=Heap.get?_push_of_some _ hx
      have hxs:x≠h.objs.size:=Nat.ne_of_lt (Heap.lt_size hx);refine wpAny_bind (wpAny_alloc' ?_);refine wpAny_bind (wpAny_update' hx₁ ?_);refine wpAny_pure ?_
      have hgd:((h.push {cls:= .type "dict",data:= .dict #[]}).update x fun o=>{cls:=o.cls,dict:=some h.objs.size,data:=o.data,slots:=o.slots}).get? h.objs.size
          =some {cls:= .type "dict",data:= .dict #[]}:=
        (Heap.get?_update_ne _ _ _ _ hxs.symm).trans (Heap.get?_push_at rfl rfl)
      have hnd:((h.push {cls:= .type "dict",data:= .dict #[]}).update x fun o=>{cls:=o.cls,dict:=some h.objs.size,data:=o.data,slots:=o.slots}).Ns h.objs.size (fun _=>none):=
        ⟨_,#[],_,hgd,rfl,fun e he=>absurd he (by simp),fun _=>rfl⟩
      show wpAny _ _ (storeInDict h.objs.size (.str name tk) name v) _ _ _;unfold storeInDict newKeyGuard;refine wpAny_bind (wpAny_pure (wpAny_bind (wpAny_nsSet1 (Heap.Ns1.of_empty hnd) fun h' hn' hs=> ?_)));obtain⟨oD,esD,epD,hoD,hdD,hcD⟩:=hn'.count (Within.cons name v Within.nil);refine wpAny_bind (wpAny_lookBehind hoD (by rw[hdD];exact pastItsLine_dict (Nat.le_trans hcD (by rw[List.length_cons,List.length_nil,sizeLine_eq];omega))) ?_)
      wp_walk
      have hx' :h'.get? x=some {cls:=o.cls,dict:=some h.objs.size,data:=o.data,slots:=o.slots}:= ?_
      refine hq h' _ ⟨{cls:=o.cls,dict:=some h.objs.size,data:=o.data,slots:=o.slots},hx',hc,hnc,.inr ⟨h.objs.size,rfl,hxs.symm,?_⟩⟩ (fun b ob hbx _ hb=> ?_)
        (fun o₀ h₀=>by obtain rfl:o=o₀:=Option.some.inj (hx.symm.trans h₀);exact⟨_,hx',rfl,rfl,rfl,(fun dx e=>by rw[hdn] at e;cases e),fun _=>⟨_,rfl,Nat.le_refl _⟩⟩)
      · obtain⟨o',es,ep,e1,e2,e3,eu,e4⟩:=hn'
        exact⟨o',es,ep,e1,e2,e3,eu,fun y=>by rw[e4 y];by_cases hy:y=name<;>simp[hy,hmA]⟩
      · exact(hs.2 b (Nat.ne_of_lt (Heap.lt_size hb))).trans ((Heap.get?_update_ne _ _ _ _ hbx).trans (Heap.get?_push_of_some _ hb))
      · refine(hs.2 x hxs).trans (Heap.get?_update_self _ hx₁ ?_)
        have hfr:=(Heap.get?_some_iff.mp hx).2;obtain⟨oc,od,odt,osl⟩:=o;cases odt<;>first|rfl|exact hfr
  ·
    rw[hdx];refine wpAny_pure ?_;show wpAny _ _ (storeInDict dx (.str name tk) name v) _ _ _;unfold storeInDict newKeyGuard;refine wpAny_bind (wpAny_pure (wpAny_bind (wpAny_nsSet1 hns fun h' hn' hs=> ?_)));obtain⟨oD,esD,epD,hoD,hdD,hcD⟩:=hn'.count (Within.cons name v hw);refine wpAny_bind (wpAny_lookBehind hoD (by rw[hdD];exact pastItsLine_dict (Nat.le_trans hcD (by rw[List.length_cons,sizeLine_eq];omega))) ?_)
    wp_walk
    refine hq h' _ ⟨o,(hs.2 x hne.symm).trans hx,hc,hnc,.inr ⟨dx,hdx,hne,hn'⟩⟩ (fun b ob _ hbd hb=> ?_)
      (fun o₀ h₀=>⟨o₀,(hs.2 x hne.symm).trans h₀,rfl,rfl,rfl,(fun _ e=>e),fun e=>by obtain rfl:o=o₀:=Option.some.inj (hx.symm.trans h₀);rw[hdx] at e;cases e⟩)
    exact(hs.2 b (hbd o dx hx hdx)).trans hb
theorem exc_store {Q:Unit→Shared→Prop} {ns:List Str} (hpass:∀self,refuseLoop self "__setattr__" bm=pure ()) (hob:bm.contains (.type "object")=true) (X:K.In h)
    (hs:PySem.W.findIn K (.ref C) "__setattr__"=some (some (.builtin "object.__setattr__"))) (hna:PySem.W.findIn K (.ref C) name=some none)
    (hC:h.get? C=some (excClassObj nm q C N bs bm true sn sub ab col dd k0 k1 k2 k3 k5 newId)) (I:h.Inst x C mA)
    (hq:∀h' tk',h'.Inst x C (fun y=>if y=name then some v else mA y)→
      (∀b o,b≠x→(∀o₀ dx,h.get? x=some o₀→o₀.dict=some dx→b≠dx)→h.get? b=some o→h'.get? b=some o)→
      (∀o₀,h.get? x=some o₀→∃o₁,h'.get? x=some o₁∧o₁.cls=o₀.cls∧o₁.data=o₀.data∧o₁.slots=o₀.slots∧(∀dx,o₀.dict=some dx→o₁.dict=some dx)∧(o₀.dict=none→∃dx,o₁.dict=some dx∧h.objs.size≤dx))→Q () ⟨h',g,d,tk',os⟩) (hw:Within mA ns) (hsz:ns.length≤1000):
    wpAny (model prog w) A (setAttr (.ref x) name v) Q E ⟨h,g,d,t,os⟩:=by
  obtain⟨o,hx,hc,hnc,hd⟩:=id I
  have J:∃od,PySem.W.InstAt h x o C od:=by
    rcases hd with⟨hdn,_⟩|⟨dx,hdx,_,oD,es,ep,h1,_⟩
    · exact⟨none,hx,hc,by cases e:o.data<;>simp_all[PySem.W.notCls],by rw[hdn];trivial⟩
    · exact⟨some oD,hx,hc,by cases e:o.data<;>simp_all[PySem.W.notCls],by rw[hdx];exact h1⟩
  obtain⟨od,J⟩:=J;refine PySem.W.set_plain (s:=⟨h,g,d,t,os⟩) X J hs ?_;exact codeAny_call_builtin PySem.F.store_object.slot.plain PySem.F.store_object.entry (exc_check_sa hob hC hx hc (exc_store_entry hpass X hna hC I (fun h' tk' a b c=>hq h' tk' a b c) hw hsz))
end
end L2
namespace L2
open PySem PySem.Spec PyProof.Rows
structure ExcF (K:PySem.W.Frag) (C:Addr):Prop where
  obj:∃nm q N bs bm sn sub ab col dd k0 k1 k2 k3 k5,K.lookup C=some (excClassObj nm q C N bs bm true sn sub ab col dd k0 k1 k2 k3 k5 "ValueError.__new__")∧(∀self,refuseLoop self "__setattr__" bm=pure ())∧bm.contains (.type "object")=true
  sa:PySem.W.findIn K (.ref C) "__setattr__"=some (some (.builtin "object.__setattr__"))
section
variable{X:Cx}{pins:List (Addr×Obj)}{σ:St}{H:Hp}{s:Shared}{a C:Addr}{n:Bool}{f:Str}{y:V}{u:Value}{A:Around}{E:Value→Shared→Prop}
theorem rel_within {fs:List (Str×V)} {mA:Str→Option Value} (r:∀f,RelO (fs.lookup f) (mA f)):PySem.Within mA (fs.map (·.1)):=by
  intro g hg;have:=r g
  cases e:fs.lookup g with
  | none=>rw[e] at this;cases q:mA g with
    |none=>rw[q] at hg;simp at hg
    |some v=>rw[q] at this;cases this
  | some v=>
    obtain⟨l1,l2,h1,_⟩:=List.lookup_eq_some_iff.mp e;rw[h1];simp
theorem Inv.two {h' :Heap} {t' :Nat} {dx:Addr} {o1 o2:HO} {φ:Heap→Prop} (I:Inv X pins σ H s) (e:H a=some (.ext φ)) (hd1:(∀xs,H dx≠some (.tup xs))∧(∀y,H dx≠some (.own y))∧(∀o u,H dx≠some (.frz o u))∧∀ps,H dx≠some (.tbl ps)) (hd2:H dx=none→s.heap.objs.size≤dx) (hne:dx≠a)
    (k:∀b o,b≠a→b≠dx→s.heap.get? b=some o→h'.get? b=some o) (ha:∃o,h'.get? a=some o) (hx:∃o,h'.get? dx=some o)
    (n1:ObjOk X.prog X.w (upd (upd H a o1) dx o2) h' a o1) (n2:ObjOk X.prog X.w (upd (upd H a o1) dx o2) h' dx o2):Inv X pins σ (upd (upd H a o1) dx o2) {s with heap:=h',toks:=t'}:=by
  have na:∀b,H b=none→b≠a:=fun b q z=>by rw[z,e] at q;cases q
  have nd:∀b o,s.heap.get? b=some o→H b=none→b≠dx:=fun b o q q' z=>by
    subst z;exact absurd (Nat.lt_of_lt_of_le (Heap.lt_size q) (hd2 q')) (Nat.lt_irrefl _)
  have far:∀b,b≠a→b≠dx→upd (upd H a o1) dx o2 b=H b:=fun b h1 h2=>by rw[upd_ne h2,upd_ne h1]
  refine I.step (g' :=s.gens) (d' :=s.drawn) (ch:=[]) (fun _ z=>nomatch z) (fun b o _ _ _ q n=>k b o (na b n) (nd b o q n) q) (fun b o _ _ _ q n=>⟨o.slots,k b o (na b n) (nd b o q n) q⟩) (fun b o _ q n=>by rw[far b (na b n) (nd b o q n)];exact n)
    (fun b o _ q=> ?_) (fun b xs q=> ?_) (fun b o u q=> ?_) (fun b ps q=>⟨#[],?_⟩) (fun m hm=> ?_) (fun b u q=> ?_) I.bare
  · by_cases h1:b=a
    · rw[h1];exact ha
    · by_cases h2:b=dx
      · rw[h2];exact hx
      · exact⟨o,k b o h1 h2 q⟩
  · rw[far b (fun z=>by rw[z,e] at q;cases q) (fun z=>hd1.1 xs (by rw[←z];exact q))];exact q
  · rw[far b (fun z=>by rw[z,e] at q;cases q) (fun z=>hd1.2.2.1 o u (by rw[←z];exact q))];exact q
  · rw[far b (fun z=>by rw[z,e] at q;cases q) (fun z=>hd1.2.2.2 ps (by rw[←z];exact q)),q];simp
  · obtain⟨o,es,ep,q,r⟩:=hm
    exact⟨o,es,ep,k _ o (na _ I.free) (nd _ o q I.free) q,r⟩
  · by_cases h2:b=dx
    · subst h2
      rw[upd_same] at q;cases q;exact n2
    · rw [upd_ne h2] at q
      by_cases h1:b=a
      · subst h1
        rw[upd_same] at q;cases q;exact n1
      · rw[upd_ne h1] at q
        refine(I.hok b u q).stay (fun c v hc q' =>k c v ?_ ?_ q') (fun c q' => ?_) fun c ys q' => ?_
        · rcases hc with z|z
          · rw[z];exact h1
          · exact fun z' =>by rw[z',e] at z;cases z
        · rcases hc with z|z
          · rw[z];exact h2
          · exact fun z' =>hd1.2.1 b (by rw[←z'];exact z)
        · rw[far c (fun z=>by rw[z,e] at q';cases q') (fun z=>hd1.2.1 b (by rw[←z];exact q'))];exact q'
        · rw[far c (fun z=>by rw[z,e] at q';cases q') (fun z=>hd1.1 ys (by rw[←z];exact q'))];exact q'
theorem rel_put {fs:List (Str×V)} {mA:Str→Option Value} (r:∀f,RelO (fs.lookup f) (mA f)) (ry:RelV y u):∀g,RelO ((putF f y fs).lookup g) (if g=f then some u else mA g):=fun g=>by
  rw[lookup_putF];by_cases h:g=f
  · rw[if_pos h,if_pos h];exact ry
  · rw[if_neg h,if_neg h];exact r g
theorem setattr_x1 {Q:Unit→Shared→Prop} (I:Inv X pins σ H s) (e:H a=some (.ext (excP a C none n))) (c:ExcF X.K C) (na:NoAttr X.K C f) (ry:RelV y u)
    (h:∀dx s',H dx=none→dx≠a→Inv X pins σ (upd (upd H a (.ext (excP a C (some dx) n))) dx (.xd [(f,y)])) s'→Q () s'):wpAny (model X.prog X.w) A (setAttr (.ref a) f u) Q E s:=by
  obtain⟨nm,q,N,bs,bm,sn,sub,ab,col,dd,k0,k1,k2,k3,k5,lk,hp,ho⟩:=c.obj;obtain⟨vs,he,hv,hn⟩:=ext_at I.hok e;have hC:=I.kIn _ _ lk;have I0:=I;obtain⟨hh,g,d,tk,os⟩:=s;refine exc_store (mA:=fun _=>none) (ns:=[]) hp ho I.kIn c.sa na hC ⟨_,he,rfl,(fun c z=>by cases z),.inl ⟨rfl,fun _=>rfl⟩⟩ (fun h' tk' inst kk same=> ?_) (fun g hg=>by simp at hg) (by simp);obtain⟨o1,e1,ec,ed,es,_,enew⟩:=same _ he;obtain⟨dx,ex,hdx⟩:=enew rfl;obtain⟨o2,e2,_,_,hd2⟩:=inst;rw[e1] at e2;cases e2;rcases hd2 with⟨z,_⟩|⟨d',hd',ne',ns'⟩
  · rw[ex] at z;cases z
  rw[ex] at hd';cases hd';have hHdx:H dx=none:=I0.hok.fresh hdx
  have eo:o1={cls:= .ref C,dict:=some dx,data:= .fields vs}:=by
    obtain⟨oc,od,odt,osl⟩:=o1;simp only at ec ed es ex;subst ec ed es ex;rfl
  rw[eo] at e1;refine h dx _ hHdx ne' (I0.two (t' :=tk') e ⟨(fun xs z=>by rw[hHdx] at z;cases z),(fun y z=>by rw[hHdx] at z;cases z),(fun o u z=>by rw[hHdx] at z;cases z),(fun ps z=>by rw[hHdx] at z;cases z)⟩ (fun _=>hdx) ne' (fun b o hb _ q=>kk b o hb (fun o0 dx0 h0 h1=>by rw[he] at h0;cases h0;cases h1) q) ⟨_,e1⟩ (let⟨o,_,_,h1,_⟩:=ns';⟨o,h1⟩) (ext_ok ⟨vs,e1,hv,hn⟩) ⟨_,ns',?_⟩);exact rel_put (fs:=[]) (fun _=>trivial) ry
theorem setattr_x2 {dx:Addr} {fs:List (Str×V)} {Q:Unit→Shared→Prop} (I:Inv X pins σ H s) (e:H a=some (.ext (excP a C (some dx) n))) (ed:H dx=some (.xd fs)) (hne:dx≠a) (hl:fs.length≤900) (c:ExcF X.K C) (na:NoAttr X.K C f) (ry:RelV y u)
    (h:∀s',Inv X pins σ (upd H dx (.xd (putF f y fs))) s'→Q () s'):wpAny (model X.prog X.w) A (setAttr (.ref a) f u) Q E s:=by
  obtain⟨nm,q,N,bs,bm,sn,sub,ab,col,dd,k0,k1,k2,k3,k5,lk,hp,ho⟩:=c.obj;obtain⟨vs,he,hv,hn⟩:=ext_at I.hok e;obtain⟨mA,ns,r⟩:=(show ObjOk X.prog X.w H s.heap dx (.xd fs) from I.hok dx _ ed);have hC:=I.kIn _ _ lk;have I0:=I;obtain⟨hh,g,d,tk,os⟩:=s;refine exc_store (mA:=mA) (ns:=fs.map (·.1)) hp ho I.kIn c.sa na hC ⟨_,he,rfl,(fun c z=>by cases z),.inr ⟨dx,rfl,hne,ns⟩⟩ (fun h' tk' inst kk same=> ?_) (rel_within r) (by rw[List.length_map];omega);obtain⟨o1,e1,ec,edt,es,eold,_⟩:=same _ he;have ex:=eold dx rfl;obtain⟨o2,e2,_,_,hd2⟩:=inst;rw[e1] at e2;cases e2;rcases hd2 with⟨z,_⟩|⟨d',hd',ne',ns'⟩
  · rw[ex] at z;cases z
  rw[ex] at hd';cases hd'
  have eo:o1={cls:= .ref C,dict:=some dx,data:= .fields vs}:=by
    obtain⟨oc,od,odt,osl⟩:=o1;simp only at ec edt es ex;subst ec edt es ex;rfl
  rw[eo] at e1;have I2:=I0.two (t' :=tk') (o1:= .ext (excP a C (some dx) n)) (o2:= .xd (putF f y fs)) e ⟨(fun xs z=>by rw[ed] at z;cases z),(fun y z=>by rw[ed] at z;cases z),(fun o u z=>by rw[ed] at z;cases z),(fun ps z=>by rw[ed] at z;cases z)⟩ (fun z=>by rw[ed] at z;cases z) hne (fun b o hb hb2 q=>kk b o hb (fun o0 dx0 h0 h1=>by rw[he] at h0;cases h0;cases h1;exact hb2) q) ⟨_,e1⟩ (let⟨o,_,_,h1,_⟩:=ns';⟨o,h1⟩) (ext_ok ⟨vs,e1,hv,hn⟩) ⟨_,ns',rel_put r ry⟩;rw[upd_self e] at I2;exact h _ I2
end
section
variable{X:Cx}{o value:Expr}{f:Str}{pos pos' :Pos}{ta tv:TE}
def sFldX (K:PySem.W.Frag) (ta tv:TE) (f:Str):TS:=fun D σ H=>tv σ H fun y H1=>ta σ H1 fun x H2=>∃a C n,x= .ref a∧ExcF K C∧NoAttr K C f∧
  ((H2 a=some (.ext (excP a C none n))∧∀dx,H2 dx=none→dx≠a→D.nx σ (upd (upd H2 a (.ext (excP a C (some dx) n))) dx (.xd [(f,y)])))∨
    ∃dx fs,H2 a=some (.ext (excP a C (some dx) n))∧H2 dx=some (.xd fs)∧dx≠a∧fs.length≤900∧D.nx σ (upd H2 dx (.xd (putF f y fs))))
theorem ps_fldX (ha:PE X o ta) (hv:PE X value tv) (hs:swapsWith value (some (.Attribute o f pos')) pos.line X.env=pure false):PS X (.Assign [.Attribute o f pos'] value pos) (sFldX X.K ta tv f):=by
  intro pins s σ H D I h;refine plainObj_wpAny_Assign_Attribute (thn (hv pins s σ H _ I h) fun u s1 ⟨y,H1,I1,ry,q⟩=>thn (ha pins s1 σ H1 _ I1 q) fun ov s2 ⟨x,H2,I2,rx,a,C,n,ex,c,na,q2⟩=> ?_) hs;subst ex;obtain rfl:ov=Value.ref a:=rx;rcases q2 with⟨e,q3⟩|⟨dx,fs,e,ed,ne,hl,q3⟩
  · exact setattr_x1 I2 e c na ry fun dx s3 hn ne I3=>⟨σ,_,I3,q3 dx hn ne⟩
  · exact setattr_x2 I2 e ed ne hl c na ry fun s3 I3=>⟨σ,_,I3,q3⟩
end
end L2
namespace L2
open PySem PySem.Spec PyProof.Rows PySem.Builtin.ObjectAttr
section
variable{prog:Program}{w:World}{A:Around}{E:Value→Shared→Prop}{s:Shared}{K:PySem.W.Frag}{x C:Addr}{ox:Obj}{od:Option Obj}{name:Str}{expr:Bool}{Q:Value→Shared→Prop}{v:Value}
theorem exc_getattr (X:K.In s.heap) (I:PySem.W.InstAt s.heap x ox C od) (hga:PySem.W.findIn K (.ref C) "__getattribute__"=some (some (.builtin "BaseException.__getattribute__"))) (hhk:PySem.W.findIn K (.ref C) "__getattr__"=some none)
    (hm:PySem.W.mroIn K C (.type "BaseException")=some true) (hf:PySem.W.findObj K C od name=some (.value v)) (hh:PySem.W.handedIn v=true) (h:Q v {s with toks:=s.toks+1}):
    wpAny (model prog w) A (getAttr (.ref x) name expr) Q E s:=by
  have ht:=I.type (M:=model prog w);refine wpAny_bind (wpAny_mkText (wpAny_holding (wpAny_bind (ht _ _ _ _ (fun _ _ e=>e) (wpAny_bind (PySem.W.looks_findIn X hga _ _ _ _ (fun _ _ e=>e) ?_))))));dsimp only;rw[show(onTheHeap (Value.ref C)&&Value.builtin "BaseException.__getattribute__" ==Value.builtin "object.__getattribute__")=false from by rw[show(Value.builtin "BaseException.__getattribute__" ==Value.builtin "object.__getattribute__")=false from by decide+kernel,Bool.and_false],if_neg (by decide)];have hb:PySem.W.Looks (model prog w) s.heap (hookBefore (.ref C)) none:=PySem.W.looks_hook X (by show(if onTheHeap (Value.ref C)=true then _ else _)=_;exact hhk);refine wpAny_bind (hb _ _ _ _ (fun _ _ e=>e) (wpAny_bind (wpAny_attempt (wpAny_holding ?_))));unfold callGetattribute;rw[show(expr&&onTheHeap (Value.builtin "BaseException.__getattribute__"))=false from Bool.and_false _,if_neg (by decide)];unfold boundAndCalled;rw[PySem.F.attr_ValueError.ga.bind];refine wpAny_bind (wpAny_pure ?_);show wpAny _ _ (call (.builtin "BaseException.__getattribute__") [.ref x,.str name s.toks]) _ _ _;refine wpAny_call ?_;refine codeAny_call_builtin PySem.F.attr_ValueError.ga.plain PySem.F.entry_bexc_ga ?_;refine @PySem.W.check_slot (model prog w) _ _ {s with toks:=s.toks+1} "BaseException.__getattribute__" "BaseException" "__getattribute__" (.ref x) [.str name s.toks] [] _ (by decide+kernel) (by decide+kernel) (ht.andThen (PySem.W.looks_mroIn X hm)) (PySem.F.args_bexc_ga (.ref x) (.str name s.toks)) ?_;unfold Builtin.«object.__getattribute__»;refine wpAny_bind (wpAny_pure ?_);refine wpAny_bind (wpAny_pure ?_);refine wpAny_bind (ht _ _ _ _ (fun _ _ e=>e) ?_);refine wpAny_bind (PySem.W.looks_find X I hf _ _ _ _ (fun _ _ e=>e) ?_);refine wpAny_pure ?_;show wpAny _ _ (handedOut v) _ _ _;rw[PySem.W.handedOut_of hh];exact wpAny_pure h
end
structure ExcG (K:PySem.W.Frag) (C:Addr):Prop where
  ga:PySem.W.findIn K (.ref C) "__getattribute__"=some (some (.builtin "BaseException.__getattribute__"))
  hk:PySem.W.findIn K (.ref C) "__getattr__"=some none
  mro:PySem.W.mroIn K C (.type "BaseException")=some true
  hd:PySem.W.hasDictIn K C=true
section
variable{X:Cx}{e:Expr}{f:Str}{pos:Pos}{ta:TE}
theorem getattr_x {pins:List (Addr×Obj)} {σ:St} {H:Hp} {s:Shared} {a C dx:Addr} {n b:Bool} {fs:List (Str×V)} {v:V} {A:Around} {E:Value→Shared→Prop} {Q:Value→Shared→Prop} (I:Inv X pins σ H s) (e:H a=some (.ext (excP a C (some dx) n))) (ed:H dx=some (.xd fs))
    (c:ExcG X.K C) (na:NoAttr X.K C f) (l:fs.lookup f=some v) (h:∀u s',Inv X pins σ H s'→RelV v u→Q u s'):wpAny (model X.prog X.w) A (getAttr (.ref a) f b) Q E s:=by
  obtain⟨vs,he,_,_⟩:=ext_at I.hok e;obtain⟨mA,ns,r⟩:=(show ObjOk X.prog X.w H s.heap dx (.xd fs) from I.hok dx _ ed);obtain⟨od,ho,hl⟩:=lookIn_ns ns;obtain⟨u,hu,ru⟩:=RelO.some_of (v:=v) (o:=mA f) (by rw[←l];exact r f);exact exc_getattr I.kIn ⟨he,rfl,rfl,ho⟩ c.ga c.hk c.mro (PySem.W.findObj_own c.hd na rfl (by rw[hl,hu])) (handed_of ru) (h u _ (I.tok _) ru)
def tFldX(K:PySem.W.Frag)(ta:TE)(f:Str):TE:=fun σ H Q=>ta σ H fun x H1=>∃a C dx n fs v,x= .ref a∧H1 a=some (.ext (excP a C (some dx) n))∧H1 dx=some (.xd fs)∧ExcG K C∧NoAttr K C f∧fs.lookup f=some v∧Q v H1
theorem pe_fldX (he:PE X e ta) (hb:attributeBase e f X.env (eval e X.env)=eval e X.env):PE X (.Attribute e f pos) (tFldX X.K ta f):=by
  intro pins s σ H Q I h;refine attr_of hb (thn (he pins s σ H _ I h) fun u s1 ⟨x,H1,I1,rx,a,C,dx,n,fs,v,ex,ea,ed,c,na,l,q⟩=> ?_);subst ex;obtain rfl:u=Value.ref a:=rx;exact getattr_x I1 ea ed c na l fun u' s2 I2 ru=>⟨v,H1,I2,ru,q⟩
end
end L2
namespace L2
open PySem PySem.Spec PyProof.Rows
def CX1 (P:Program) (w:World):CXT:=fun outer H s E e s' =>∃(a C:Addr) (dd:Option Addr) (T:Addr) (oe:Obj) (H' :Hp),e= .ref a∧s'.os=s.os∧AllBare s'.gens∧Un (frs outer) [] H H' s.heap s'.heap∧HOk P w H' s'.heap∧
  H' a=some (.ext (excP a C dd false))∧Fly s'.heap a T oe∧H' T=none∧s.heap.objs.size≤T∧E (.ref C) dd H'
def Flies(X:Cx)(pins:List (Addr×Obj))(H:Hp)(h:Heap)(a:Addr):Prop:=(∃oe vs,h.get? a=some oe∧oe.data= .fields vs∧vs[1]? =some .none)∨∃T oe,Fly h a T oe∧H T=none∧X.s₀.heap.objs.size≤T∧∀p∈X.pn++pins,p.1≠T
section
variable{X:Cx}{pins:List (Addr×Obj)}{σ:St}{H:Hp}{s:Shared}{a C:Addr}{dd:Option Addr}{n:Bool}{E:XK}
theorem leave_def (I:Inv X pins σ H s) (hst:X.stack=X.env::X.outer) (hfr:X.env.frame=some X.env.locals) (hex:X.ex=[]) (e:H a=some (.ext (excP a C dd n))) (fl:Flies X pins H s.heap a) (q:E (.ref C) dd (upd H a (.ext (excP a C dd false)))) {Ex:Value→Shared→Prop}:
    wpAny (model X.prog X.w) X.A (leaving X.env (.ref a)) (fun _ s'' =>CX1 X.prog X.w X.outer X.H₀ X.s₀ E (.ref a) s'') Ex s:=by
  obtain⟨vs,he,hv,hn⟩:=ext_at I.hok e;have hfs:X.A.frames=some (X.env::X.outer):=by rw[←hst];exact I.ok.frames
  have hl:s.heap.FunFrames X.base (X.env::X.outer):=by rw[←hst];exact I.stack
  have frames0:∀b∈(X.env::X.outer).filterMap (·.frame),H b=none:=fun b hb=>I.stkFree b (by rw[hst];exact hb)
  have mem:∀b,b∈(X.env::X.outer).filterMap (·.frame)→b=X.env.locals∨b∈X.fs:=fun b hb=>by
    rw[List.filterMap_cons,hfr] at hb;rcases List.mem_cons.mp hb with z|z
    · exact .inl z
    · exact .inr z
  have fin :∀(h' :Heap) (T T' :Addr),(X.s₀.heap.objs.size≤T∨T=a)→(H T=none∨T=a)→s.heap.objs.size≤T'→Fly h' a T' (({cls:= .ref C,dict:=dd,data:= .fields vs}:Obj).mapFields (·.setIfInBounds 1 (.ref T')))→
      (∀b o,b≠a→b≠T→b∉(X.env::X.outer).filterMap (·.frame)→s.heap.get? b=some o→h'.get? b=some o)→(∀b o,b≠a→b≠T→s.heap.get? b=some o→∃sl,h'.get? b=some {o with slots:=sl})→
      CX1 X.prog X.w X.outer X.H₀ X.s₀ E (.ref a) {s with heap:=h'}:=by
    intro h' T T' hT1 hT2 hT' f k1 k2;have hT'n:H T' =none:=I.hok.fresh hT';have ha' :∀b,H b=none→b≠a:=fun b z z' =>by rw[z',e] at z;cases z
    have old:∀b o,X.s₀.heap.get? b=some o→b≠T∨T=a:=fun b o z=>by
      rcases hT1 with y|y
      · exact .inl fun z' =>absurd (Nat.lt_of_lt_of_le (Heap.lt_size z) (by rw[z'];exact y)) (Nat.lt_irrefl _)
      · exact .inr y
    refine⟨a,C,dd,T',_,upd H a (.ext (excP a C dd false)),rfl,I.os,I.bare,⟨fun b o z z0 hb _=> ?_,fun b o z z0 hb _=> ?_,fun b o z z0 _=> ?_,fun b o z _=> ?_,fun b xs z=> ?_,fun b o u z=> ?_,fun b ps z=> ?_⟩,fun b u z=> ?_,upd_same,f,?_,Nat.le_trans I.sz hT',q⟩
    · have hx:b∉X.ex:=by rw[hex];simp
      have g:=I.base.keep b o z z0 hb hx;have g0:=I.base.free b o z z0 hx;refine k1 b o (ha' b g0) ?_ (fun hm=> ?_) g
      · rcases old b o z with y|y
        · exact y
        · rw[y];exact ha' b g0
      · rcases mem b hm with y|y
        · exact absurd (Nat.lt_of_lt_of_le (Heap.lt_size z) (by rw[y];exact I.ok.above)) (Nat.lt_irrefl _)
        · exact hb y
    · have hx:b∉X.ex:=by rw[hex];simp
      obtain⟨sl,g⟩:=I.base.slot b o z z0 hb hx;have g0:=I.base.free b o z z0 hx
      obtain⟨sl',g'⟩:=k2 b _ (ha' b g0) (by
        rcases old b o z with y|y
        · exact y
        · rw[y];exact ha' b g0) g
      exact⟨sl',g'⟩
    · have hx:b∉X.ex:=by rw[hex];simp
      have g0:=I.base.free b o z z0 hx;rw[upd_ne (ha' b g0)];exact g0
    · have hx:b∉X.ex:=by rw[hex];simp
      obtain⟨o',g⟩:=I.base.there b o z hx;by_cases hba:b=a
      · rw[hba];exact⟨_,f.at_⟩
      · by_cases hbT:b=T
        · rcases old b o z with y|y
          · exact absurd hbT y
          · exact absurd (hbT.trans y) hba
        · obtain⟨sl,g'⟩:=k2 b o' hba hbT g
          exact⟨_,g'⟩
    · have g:=I.base.tups b xs z
      rw[upd_ne (fun y=>by rw[y,e] at g;cases g)];exact g
    · have g:=I.base.frzs b o u z
      rw[upd_ne (fun y=>by rw[y,e] at g;cases g)];exact g
    · obtain⟨more,g⟩:=I.base.tbls b ps z
      refine⟨more,?_⟩;rw[upd_ne (fun y=>by rw[y,e] at g;cases g)];exact g
    · by_cases hb:b=a
      · subst hb
        rw[upd_same] at z;cases z;exact ext_ok ⟨_,f.at_,by simp[hv],fun y=>nomatch y⟩
      · rw [upd_ne hb] at z
        have notF:∀c u',H c=some u'→c∉(X.env::X.outer).filterMap (·.frame):=fun c u' y hm=>by rw[frames0 c hm] at y;cases y
        have notT:∀c u',c≠a→H c=some u'→c≠T:=fun c u' ya y y' =>by
          rcases hT2 with t|t
          · rw[y',t] at y;cases y
          · exact ya (y'.trans t)
        refine(I.hok b u z).stay (fun c v hc y=> ?_) (fun c y=> ?_) fun c ys y=> ?_
        · rcases hc with y' |y'
          · subst y'
            exact k1 c v hb (notT c u hb z) (notF c u z) y
          · have hca:c≠a:=fun w' =>by rw[w',e] at y';cases y'
            exact k1 c v hca (notT c _ hca y') (notF c _ y') y
        · rw[upd_ne (fun w' =>by rw[w',e] at y;cases y)];exact y
        · rw[upd_ne (fun w' =>by rw[w',e] at y;cases y)];exact y
    · rw[upd_ne (ha' _ hT'n)]
      exact hT'n
  rcases fl with⟨oe,vs',h1,h2,h3⟩|⟨T,oe,f,hT0,hT,_⟩
  · rw[he] at h1
    cases h1;cases h2;refine leave_first (base:=X.base) hfs hl hfr he rfl h3 fun h' T' hT' f k1 k2=>fin h' a T' (.inr rfl) (.inr rfl) hT' f (fun b o hb _ hf g=>k1 b o hb hf g) (fun b o hb _ g=>k2 b o hb g)
  · have hoe:oe={cls:= .ref C,dict:=dd,data:= .fields vs}:=by
      have:=f.at_;rw[he] at this;cases this;rfl
    subst hoe;refine leave_next (base:=X.base) hfs hl hfr f fun h' T' hT' f' k1 k2=>fin h' T T' (.inl hT) (.inl hT0) hT' f' k1 k2
theorem after_exc {e:Value} {s' :Shared} (I:Inv X pins σ H s) (h:CX1 X.prog X.w X.stack H s E e s'):∃(a C:Addr) (dd:Option Addr) (H' :Hp),e= .ref a∧Inv X pins σ H' s'∧H' a=some (.ext (excP a C dd false))∧Flies X pins H' s'.heap a∧E (.ref C) dd H' :=by
  obtain⟨a,C,dd,T,oe,H',rfl,os,bare,un,hok,ea,f,hT,hTs,q⟩:=h;exact⟨a,C,dd,H',rfl,I.call' os un hok bare (fun b z=>absurd z (by simp)),ea,.inr ⟨T,oe,f,hT,Nat.le_trans I.sz hTs,fun p hp z=>absurd (Nat.lt_of_lt_of_le (Heap.lt_size (I.pin p hp).1) (by rw[z];exact hTs)) (Nat.lt_irrefl _)⟩,q⟩
end
section
variable{M:Model}{A:Around}{E:Value→Shared→Prop}{env:Env}
variable{nm q:Str}{C N:Addr}{bs bm:List Value}{hdct:Bool}{sn:List Str}{sub:List Value}{ab:Bool}{col:Option Bool}{dd:Option Addr}{k0 k1 k2 k3 k5:Option Value}{newId:String}
theorem exc_raiseStmt {s:Shared} {x:Sem Value} {Q:Flow→Shared→Prop} (hh:A.handled=none)
    (h:wpAny M A x (fun v s₁=>∃(e C N:Addr) (de:Option Addr) (vs:Array Value) (nm q:Str) (bs bm:List Value) (hdct:Bool) (sn:List Str) (sub:List Value) (ab:Bool) (col:Option Bool) (dd:Option Addr) (k0 k1 k2 k3 k5:Option Value),v= .ref e∧s₁.heap.get? C=some (excClassObj nm q C N bs bm hdct sn sub ab col dd k0 k1 k2 k3 k5 "ValueError.__new__")∧bm.contains (.type "BaseException")=true∧
      s₁.heap.get? e=some {cls:= .ref C,dict:=de,data:= .fields vs}∧vs[1]? =some .none∧E (.ref e) s₁) E s):
    wpAny M A (raiseStmt env (some x) none) Q E s:=by
  unfold raiseStmt;refine wpAny_bind (wpAny_mono h (fun v s₁ h₁=> ?_) fun _ _ x=>x);obtain⟨e,C,N,de,vs,nm,q,bs,bm,hdct,sn,sub,ab,col,dd,k0,k1,k2,k3,k5,rfl,hC,hbase,he,h1,hE⟩:=h₁;have hcB:(Value.ref C::bm).contains (.type "BaseException")=true:=by rw[List.contains_cons,hbase,Bool.or_true]
  obtain⟨hp,g,d,tk,os⟩:=s₁
  repeat (first|with_reducible refine wpAny_loadPart_at he ?_|with_reducible refine wpAny_field he rfl h1 ?_|with_reducible refine wpAny_loadPart_at hC ?_|(with_reducible refine wpAny_isSubtype_exc hC ?_;rw[hcB])|wp_step)
  exact wpAny_raiseNew_none hh hE
end
section
variable{X:Cx}{e:Expr}{pos:Pos}{t:TE}{E:XK}
def sRaise(K:PySem.W.Frag)(E:XK)(t:TE):TS:=fun _ σ H=>t σ H fun v H1=>∃a C dd,v= .ref a∧H1 a=some (.ext (excP a C dd true))∧ExcC K C∧E (.ref C) dd (upd H1 a (.ext (excP a C dd false)))
def Wants(X:Cx)(E:XK):Prop:=∀(pins:List (Addr×Obj)) (σ:St) (H:Hp) (s:Shared) (a C:Addr) (dd:Option Addr) (n:Bool),Inv X pins σ H s→H a=some (.ext (excP a C dd n))→Flies X pins H s.heap a→E (.ref C) dd (upd H a (.ext (excP a C dd false)))→X.xe (.ref a) s
theorem ps_raise (hc:X.calm=true) (hw:Wants X E) (he:PE X e t):PS X (.Raise (some e) none pos) (sRaise X.K E t):=by
  intro pins s σ H D I h;rw[arm_exec_Raise]
  have key:wpAny (model X.prog X.w) X.A (do let v←eval e X.env;standAt pos;pure v) (fun v s₁=>∃(e C N:Addr) (de:Option Addr) (vs:Array Value) (nm q:Str) (bs bm:List Value) (hdct:Bool) (sn:List Str) (sub:List Value) (ab:Bool) (col:Option Bool) (dd:Option Addr) (k0 k1 k2 k3 k5:Option Value),v= .ref e∧s₁.heap.get? C=some (excClassObj nm q C N bs bm hdct sn sub ab col dd k0 k1 k2 k3 k5 "ValueError.__new__")∧bm.contains (.type "BaseException")=true∧
      s₁.heap.get? e=some {cls:= .ref C,dict:=de,data:= .fields vs}∧vs[1]? =some .none∧X.xe (.ref e) s₁) X.xe s:=by
    refine wpAny_bind (thn (he pins s σ H _ I h) fun u s1 ⟨v,H1,I1,r1,a,C,dd,ev,ea,c,q⟩=> ?_);subst ev;obtain rfl:u=Value.ref a:=r1;refine wpAny_bind (wpAny_standAt (wpAny_pure ?_));obtain⟨nm,q',N,bs,bm,hdct,sn,sub,ab,col,dd',k0,k1,k2,k3,k5,lk,T⟩:=c.obj;obtain⟨vs,hea,hv,hn⟩:=ext_at I1.hok ea;exact⟨a,C,N,dd,vs,nm,q',bs,bm,hdct,sn,sub,ab,col,dd',k0,k1,k2,k3,k5,rfl,I1.kIn _ _ lk,T.hasBase,hea,hn rfl,hw pins σ H1 s1 a C dd true I1 ea (.inl ⟨_,vs,hea,rfl,hn rfl⟩) q⟩
  first
    |exact wpAny_bind (wpAny_standAt (exc_raiseStmt (I.ok.hd hc) key))
    |(simp only[evalOpt,Option.map];exact wpAny_bind (wpAny_standAt (exc_raiseStmt (I.ok.hd hc) key)))
    |(show wpAny _ _ (do standAt pos;raiseStmt X.env (some (do let v←eval e X.env;standAt pos;pure v)) none) _ _ s;exact wpAny_bind (wpAny_standAt (exc_raiseStmt (I.ok.hd hc) key)))
theorem passes_of (hw:Wants X E) (hst:True):Passes (CX1 X.prog X.w) X E:=by
  intro pins σ H s e s' I h;obtain⟨a,C,dd,H',rfl,I',ea,fl,q⟩:=after_exc I h;refine hw pins σ H' s' a C dd false I' ea fl ?_;rw[upd_self ea];exact q
end
theorem wants_def {P:Program} {w:World} {K:PySem.W.Frag} {mg:Str→Option Value} {base:Heap} {N:List Str} {qual:Str} {scope:Scope} {f:Addr} {cd:Value} {A:Around} {outer:List Env} {s:Shared} {H:Hp} {E:XK}
    (hfr:(envOfC qual scope s.heap.objs.size f cd).frame=some s.heap.objs.size:=by rfl):Wants (cxOf (CX1 P w) P w K mg base N qual scope f cd A outer s H E) E:=by
  intro pins σ H1 s1 a C dd n I ea fl q;exact leave_def I rfl hfr rfl ea fl q
end L2
namespace L2
open PySem PySem.Spec PyProof.Rows
section
variable{M:Model}{A:Around}{E:Value→Shared→Prop}{s:Shared}
theorem note_first {base:Heap} {env:Env} {outer:List Env} {L e:Addr} {oe:Obj} {vs:Array Value} {Q:Unit→Shared→Prop}
    (hfr:A.frames=some (env::outer)) (hl:s.heap.FunFrames base (env::outer)) (hf:env.frame=some L)
    (he:s.heap.get? e=some oe) (hd:oe.data= .fields vs) (h1:vs[1]? =some .none)
    (h:∀h' T,s.heap.objs.size≤T→Fly h' e T (oe.mapFields (·.setIfInBounds 1 (.ref T)))→(∀b o,b≠e→b∉(env::outer).filterMap (·.frame)→s.heap.get? b=some o→h'.get? b=some o)→
      (∀b o,b≠e→s.heap.get? b=some o→∃sl,h'.get? b=some {o with slots:=sl})→Q () {s with heap:=h'}):wpAny M A (noteFrame (.ref e) env) (fun _ s' =>wpAny M A (setFlight (.ref e) none) Q E s') E s:=by
  unfold noteFrame;simp only[hf];refine wpAny_bind (wpAny_field he hd h1 ?_);rw[if_neg (by decide)];exact new_entry hfr hl hf he hd (Array.getElem?_eq_some_iff.mp h1).1 h
theorem note_next {base:Heap} {env:Env} {outer:List Env} {L e T:Addr} {oe:Obj} {Q:Unit→Shared→Prop}
    (hfr:A.frames=some (env::outer)) (hl:s.heap.FunFrames base (env::outer)) (hf:env.frame=some L) (ht:Fly s.heap e T oe)
    (h:∀h' T',s.heap.objs.size≤T'→Fly h' e T' (oe.mapFields (·.setIfInBounds 1 (.ref T')))→(∀b o,b≠e→b≠T→b∉(env::outer).filterMap (·.frame)→s.heap.get? b=some o→h'.get? b=some o)→
      (∀b o,b≠e→b≠T→s.heap.get? b=some o→∃sl,h'.get? b=some {o with slots:=sl})→Q () {s with heap:=h'}):wpAny M A (noteFrame (.ref e) env) (fun _ s' =>wpAny M A (setFlight (.ref e) none) Q E s') E s:=by
  obtain⟨he,⟨vs,hd,h1⟩,hTe,oT,ts,hT,hdT,h3⟩:=ht;unfold noteFrame;simp only[hf];refine wpAny_bind (wpAny_field he hd h1 ?_);rw[if_pos (show(Value.ref T !=Value.none)=true from by simp)];refine wpAny_bind (wpAny_field hT hdT h3 ?_);rw[if_neg (show ¬((Value.none==rawInt L)=true) from by simp[rawInt])];refine wpAny_bind (wpAny_setField hT hdT (Array.getElem?_eq_some_iff.mp h3).1 ?_);have other:∀b,b≠T→(s.heap.update T (Obj.mapFields (·.setIfInBounds 3 Value.none))).get? b=s.heap.get? b:=fun b hb=>Heap.get?_update_other _ _ (Ne.symm hb)
  have noRecord:∀b o,s.heap.get? b=some o→(∀vs,o.data≠.fields vs)→b≠T:=fun b o hb hnf q=>by
    rw[q,hT] at hb;injection hb with hb;subst hb;exact hnf ts hdT
  refine new_entry hfr (hl.of_keeps fun b o hb hnf=>⟨o,(other b (noRecord b o hb hnf)).trans hb,rfl⟩) hf ((other e (Ne.symm hTe)).trans he) hd (Array.getElem?_eq_some_iff.mp h1).1
    fun h' T' hn fl k1 k2=>h h' T' ?_ fl (fun b o hbe hbT hbf hb=>k1 b o hbe hbf ((other b hbT).trans hb)) fun b o hbe hbT hb=>k2 b o hbe ((other b hbT).trans hb)
  have hn' :(s.heap.update T (Obj.mapFields (·.setIfInBounds 3 Value.none))).objs.size≤T' :=hn;rw[Heap.size_after_update] at hn';exact hn'
end
structure Held (X:Cx) (pins:List (Addr×Obj)) (H:Hp) (h:Heap) (a T:Addr):Prop where
  fly:∃oe,Fly h a T oe
  no:H T=none
  young:X.s₀.heap.objs.size≤T
  pin:∀p∈X.pn++pins,p.1≠T
section
variable{X:Cx}{pins:List (Addr×Obj)}{σ:St}{H:Hp}{s:Shared}{a C:Addr}{dd:Option Addr}{n:Bool}
theorem Inv.noted {h' :Heap} {T T' :Addr} {vs:Array Value} (I:Inv X pins σ H s) (hst:X.stack=X.env::X.outer) (hfr:X.env.frame=some X.env.locals) (e:H a=some (.ext (excP a C dd n))) (hv:vs.size=6)
    (hT:T=a∨(H T=none∧X.s₀.heap.objs.size≤T∧(∀p∈X.pn++pins,p.1≠T)∧∃oT ts,s.heap.get? T=some oT∧oT.data= .fields ts)) (he:h'.get? a=some {cls:= .ref C,dict:=dd,data:= .fields vs})
    (k1:∀b o,b≠a→b≠T→b∉(X.env::X.outer).filterMap (·.frame)→s.heap.get? b=some o→h'.get? b=some o) (k2:∀b o,b≠a→b≠T→s.heap.get? b=some o→∃sl,h'.get? b=some {o with slots:=sl}):
    Inv X pins σ (upd H a (.ext (excP a C dd false))) {s with heap:=h'}:=by
  have frames0:∀b∈(X.env::X.outer).filterMap (·.frame),H b=none:=fun b hb=>I.stkFree b (by rw[hst];exact hb)
  have mem:∀b,b∈(X.env::X.outer).filterMap (·.frame)→b=X.env.locals∨b∈X.fs:=fun b hb=>by
    rw[List.filterMap_cons,hfr] at hb;rcases List.mem_cons.mp hb with z|z
    · exact .inl z
    · exact .inr z
  have ha' :∀b,H b=none→b≠a:=fun b z z' =>by rw[z',e] at z;cases z
  obtain⟨m0,⟨oL,esL,epL,hL,hdL,rL⟩,_⟩:=id I.loc
  have LT:X.env.locals≠T:=fun z=>by
    rcases hT with y|⟨_,_,_,oT,ts,g1,g2⟩
    · exact ha' _ I.free (z.trans y)
    · rw[z,g1] at hL;cases hL;rw[g2] at hdL;cases hdL
  have chT:∀b,b∉(if T=a then[] else[T]:List Addr)→b≠a→b≠T:=fun b hb hba z=>by
    by_cases hTa:T=a
    · exact hba (z.trans hTa)
    · rw[if_neg hTa] at hb
      exact hb (by rw[z];simp)
  refine I.step (g' :=s.gens) (t' :=s.toks) (d' :=s.drawn) (ch:=if T=a then[] else[T]) (fun b hb=> ?_) (fun b o hbL hbf hc q z=>k1 b o (ha' b z) (chT b hc (ha' b z)) (fun hm=>(mem b hm).elim hbL hbf) q) (fun b o _ _ hc q z=>k2 b o (ha' b z) (chT b hc (ha' b z)) q)
    (fun b o _ q z=>by rw[upd_ne (ha' b z)];exact z) (fun b o hc q=> ?_) (fun b xs z=> ?_) (fun b o u z=> ?_) (fun b ps z=>⟨#[],?_⟩) (fun m hm=> ?_) (fun b u z=> ?_) I.bare
  · by_cases hTa:T=a
    · rw[if_pos hTa] at hb;cases hb
    · rw[if_neg hTa] at hb
      have hb:b=T:=by simpa using hb
      subst hb;rcases hT with y|⟨g0,g1,g2,oT,ts,g3,g4⟩
      · exact absurd y hTa
      · refine⟨.inr g1,Ne.symm LT,fun x c q z=> ?_,g2⟩
        obtain⟨v,o,ho,hd⟩:=I.cell x c q;rw[z,g3] at ho;cases ho;rw[g4] at hd;cases hd
  · by_cases hba:b=a
    · rw[hba];exact⟨_,he⟩
    · obtain⟨sl,g⟩:=k2 b o hba (chT b hc hba) q
      exact⟨_,g⟩
  · rw[upd_ne (fun y=>by rw[y,e] at z;cases z)];exact z
  · rw[upd_ne (fun y=>by rw[y,e] at z;cases z)];exact z
  · rw[upd_ne (fun y=>by rw[y,e] at z;cases z),z];simp
  · obtain⟨o,es,ep,q,hd,r⟩:=hm
    obtain⟨sl,g⟩:=k2 _ o (ha' _ I.free) LT q;exact⟨_,es,ep,g,hd,r⟩
  · by_cases hb:b=a
    · subst hb
      rw[upd_same] at z;cases z;exact ext_ok ⟨vs,he,hv,fun y=>nomatch y⟩
    · rw [upd_ne hb] at z
      have notF:∀c u',H c=some u'→c∉(X.env::X.outer).filterMap (·.frame):=fun c u' y hm=>by rw[frames0 c hm] at y;cases y
      have notT:∀c u',c≠a→H c=some u'→c≠T:=fun c u' ya y y' =>by
        rcases hT with t|⟨t,_⟩
        · exact ya (y'.trans t)
        · rw[y',t] at y;cases y
      refine(I.hok b u z).stay (fun c v hc y=> ?_) (fun c y=> ?_) fun c ys y=> ?_
      · rcases hc with y' |y'
        · subst y'
          exact k1 c v hb (notT c u hb z) (notF c u z) y
        · have hca:c≠a:=fun w' =>by rw[w',e] at y';cases y'
          exact k1 c v hca (notT c _ hca y') (notF c _ y') y
      · rw[upd_ne (fun w' =>by rw[w',e] at y;cases y)];exact y
      · rw[upd_ne (fun w' =>by rw[w',e] at y;cases y)];exact y
theorem note_held {M:Model} {E:Value→Shared→Prop} {Q:Unit→Shared→Prop} (I:Inv X pins σ H s) (hst:X.stack=X.env::X.outer) (hfr:X.env.frame=some X.env.locals) (e:H a=some (.ext (excP a C dd n))) (fl:Flies X pins H s.heap a)
    (h:∀s' T,Inv X pins σ (upd H a (.ext (excP a C dd false))) s'→Held X pins (upd H a (.ext (excP a C dd false))) s'.heap a T→Q () s'):
    wpAny M X.A (noteFrame (.ref a) X.env) (fun _ s' =>wpAny M X.A (setFlight (.ref a) none) Q E s') E s:=by
  obtain⟨vs,he,hv,hn⟩:=ext_at I.hok e;have hfs:X.A.frames=some (X.env::X.outer):=by rw[←hst];exact I.ok.frames
  have hl:s.heap.FunFrames X.base (X.env::X.outer):=by rw[←hst];exact I.stack
  have ha' :∀b,H b=none→b≠a:=fun b z z' =>by rw[z',e] at z;cases z
  have hold:∀{h' :Heap} {T' :Addr} {oe:Obj},s.heap.objs.size≤T'→Fly h' a T' oe→Held X pins (upd H a (.ext (excP a C dd false))) h' a T' :=fun{h' T' oe} hT f=>
    ⟨⟨oe,f⟩,by rw[upd_ne (ha' _ (I.hok.fresh hT))];exact I.hok.fresh hT,Nat.le_trans I.sz hT,fun p hp z=>absurd (Nat.lt_of_lt_of_le (Heap.lt_size (I.pin p hp).1) (by rw[z];exact hT)) (Nat.lt_irrefl _)⟩
  rcases fl with⟨oe,vs',h1,h2,h3⟩|⟨T,oe,f,hT0,hT,hTp⟩
  · rw[he] at h1
    cases h1;cases h2;exact note_first (base:=X.base) hfs hl hfr he rfl h3 fun h' T' hT' f k1 k2=>h _ T' (I.noted (vs:=vs.setIfInBounds 1 (.ref T')) (T:=a) (T' :=T') hst hfr e (by simp[hv]) (.inl rfl) f.at_ (fun b o hb _ hf g=>k1 b o hb hf g) fun b o hb _ g=>k2 b o hb g) (hold hT' f)
  · have hoe:oe={cls:= .ref C,dict:=dd,data:= .fields vs}:=by
      have:=f.at_;rw[he] at this;cases this;rfl
    subst hoe;obtain⟨oT,ts,g1,g2,_⟩:=f.tr;exact note_next (base:=X.base) hfs hl hfr f fun h' T' hT' f' k1 k2=>h _ T' (I.noted (vs:=vs.setIfInBounds 1 (.ref T')) (T:=T) (T' :=T') hst hfr e (by simp[hv]) (.inr ⟨hT0,hT,hTp,oT,ts,g1,g2⟩) f'.at_ k1 k2) (hold hT' f')
end
end L2
namespace L2
open PySem PySem.Spec PyProof.Rows
section
variable{X:Cx}{pins:List (Addr×Obj)}{σ:St}{H:Hp}{s:Shared}{a T:Addr}
abbrev Cx.inExc(X:Cx)(a:Addr)(E:Value→Shared→Prop):Cx:={X with A:=X.A.mark (some (.ref a)),calm:=false,xe:=E}
theorem Inv.inExc (I:Inv X pins σ H s) (a:Addr) (E:Value→Shared→Prop):Inv (X.inExc a E) pins σ H s:=
  ⟨⟨I.ok.mod,I.ok.kind,I.ok.glob,I.ok.blt,I.ok.above,I.ok.inj,I.ok.has,I.ok.cab,(fun z=>nomatch z),I.ok.frames,I.ok.stk,I.ok.exf,I.ok.bs,I.ok.bsz,I.ok.noex,I.ok.exfs,I.ok.funs,I.ok.frf⟩,I.os,I.bare,I.base,I.loc,I.cell,I.free,I.freeC,I.pin,I.hok,I.len⟩
theorem Inv.outExc{E:Value→Shared→Prop}(ok:X.Ok)(I:Inv (X.inExc a E) pins σ H s):Inv X pins σ H s:=⟨ok,I.os,I.bare,I.base,I.loc,I.cell,I.free,I.freeC,I.pin,I.hok,I.len⟩
abbrev Cx.pinned(X:Cx)(pn:List (Addr×Obj))(E:Value→Shared→Prop):Cx:={X with pn:=X.pn++pn,xe:=E}
theorem Inv.toPinned (I:Inv X pins σ H s) (E:Value→Shared→Prop):Inv (X.pinned pins E) [] σ H s:=
  ⟨⟨I.ok.mod,I.ok.kind,I.ok.glob,I.ok.blt,I.ok.above,I.ok.inj,I.ok.has,I.ok.cab,I.ok.hd,I.ok.frames,I.ok.stk,I.ok.exf,I.ok.bs,I.ok.bsz,I.ok.noex,I.ok.exfs,I.ok.funs,I.ok.frf⟩,I.os,I.bare,I.base,I.loc,I.cell,I.free,I.freeC,fun p hp=>I.pin p (by simpa using hp),I.hok,I.len⟩
theorem Inv.ofPinned {E:Value→Shared→Prop} {pins' :List (Addr×Obj)} (ok:X.Ok) (I:Inv (X.pinned pins E) pins' σ H s):Inv X pins σ H s:=
  ⟨ok,I.os,I.bare,I.base,I.loc,I.cell,I.free,I.freeC,fun p hp=>I.pin p (List.mem_append_left _ hp),I.hok,I.len⟩
theorem Inv.unbound {h' :Heap} {t' i:Nat} {x:Str} {u:Option Value} {m:Str→Option Value} (I:Inv X pins σ H s) (hN:X.N.Nodup) (hi:X.N[i]? =some x) (hm:s.heap.Ns X.env.locals m) (hn:h'.Ns X.env.locals (fun y=>if y=x then u else m y)) (sb:Heap.SameBut X.env.locals s.heap h'):
    Inv X pins (σ.set i none) H {s with heap:=h',toks:=t'}:=by
  have old:∀b o,X.s₀.heap.get? b=some o→b≠X.env.locals:=fun b o q z=>absurd (Nat.lt_of_lt_of_le (Heap.lt_size q) (by rw[z];exact I.ok.above)) (Nat.lt_irrefl _);have loc0:=I.free;refine⟨I.ok,I.os,I.bare,⟨fun b o q z hb hx=> ?_,fun b o q z hb hx=> ?_,I.base.free,fun b o q hx=> ?_,I.base.tups,I.base.frzs,I.base.tbls⟩,⟨_,hn,fun j y v e1 e2 e3=> ?_⟩,fun y c q=> ?_,I.free,I.freeC,fun p hp=> ?_,fun b o q=> ?_,?_⟩
  · exact(sb.2 b (old b o q)).trans (I.base.keep b o q z hb hx)
  · obtain⟨sl,g⟩:=I.base.slot b o q z hb hx
    exact⟨sl,(sb.2 b (old b o q)).trans g⟩
  · obtain⟨o',g⟩:=I.base.there b o q hx
    exact⟨o',(sb.2 b (old b o q)).trans g⟩
  · have hj:j≠i:=fun z=>by
      subst z;by_cases hl:j<σ.length
      · rw[List.getElem?_set_self hl] at e2;cases e2
      · rw[List.getElem?_eq_none (by rw[List.length_set];omega)] at e2;cases e2
    rw[List.getElem?_set_ne (Ne.symm hj)] at e2;obtain⟨m0,hm0,hl⟩:=I.loc;obtain⟨w',rw',lk⟩:=hl j y v e1 e2 e3
    have hyx:y≠x:=fun z=>by
      subst z;have h1:=(List.getElem?_eq_some_iff.mp e1).1;exact hj ((List.getElem?_inj h1 hN).mp (e1.trans hi.symm))
    refine⟨w',rw',?_⟩;rcases lk with⟨k1,k2⟩|⟨k1,c,k2,k3⟩
    · refine .inl ⟨k1,?_⟩
      dsimp only;rw[if_neg hyx,show m=m0 from(Heap.Ns.eq_nsMap hm).trans (Heap.Ns.eq_nsMap hm0).symm];exact k2
    · refine .inr ⟨k1,c,k2,?_⟩
      obtain⟨o,g1,g2⟩:=k3;exact⟨o,(sb.2 c (I.cne y c k2)).trans g1,g2⟩
  · obtain⟨v,o,g1,g2⟩:=I.cell y c q
    exact⟨v,o,(sb.2 c (I.cne y c q)).trans g1,g2⟩
  · obtain⟨g1,g2,g3,g4⟩:=I.pin p hp
    exact⟨(sb.2 p.1 g3).trans g1,g2,g3,g4⟩
  · refine(I.hok b o q).stay (fun c v hc g=>(sb.2 c ?_).trans g) (fun _ g=>g) fun _ _ g=>g
    rcases hc with z|z
    · rw[z];exact fun z' =>by rw[z',loc0] at q;cases q
    · exact fun z' =>by rw[z',loc0] at z;cases z
  · rw[List.length_set];exact I.len
theorem land_held {M:Model} {A:Around} {E:Value→Shared→Prop} {Q:Unit→Shared→Prop} (I:Inv X pins σ H s) (hd:Held X pins H s.heap a T) (h:∀s',Inv X pins σ H s'→Held X pins H s'.heap a T→Q () s'):
    wpAny M A (setFlight (.ref a) none) Q E s:=by
  obtain⟨⟨oe,he,⟨vs,hdv,h1⟩,ne,oT,ts,hT,hdT,h3⟩,h0,hy,hp⟩:=hd;have hsz:3<ts.size:=(Array.getElem?_eq_some_iff.mp h3).1;refine wpAny_setFlight_none he hdv h1 hT hdT hsz ?_;obtain⟨m0,⟨oL,esL,epL,hL,hdL,rL⟩,_⟩:=id I.loc;have LT:T≠X.env.locals:=fun z=>by rw[←z,hT] at hL;cases hL;rw[hdT] at hdL;cases hdL
  have I1:Inv X pins σ H {s with heap:=s.heap.update T (Obj.mapFields (·.setIfInBounds 3 .none))}:=I.turned (t' :=s.toks) (fun b o hb q=>by rw[Heap.get?_update_other _ _ (Ne.symm hb)];exact q) h0 LT (.inr hy)
    (fun x c q z=>by obtain⟨v,o,ho,hd⟩:=I.cell x c q;rw[z,hT] at ho;cases ho;rw[hdT] at hd;cases hd) hp
  refine h _ I1 ⟨⟨oe,by show(s.heap.update T _).get? a=_;rw[Heap.get?_update_other _ _ ne];exact he,⟨vs,hdv,h1⟩,ne,_,_,Heap.get?_update_self _ hT (Obj.isFreed_of_fields (Obj.data_mapFields hdT _)),Obj.data_mapFields hdT _,by simp[hsz]⟩,h0,hy,hp⟩
end
section
variable{M:Model}{A:Around}{E:Value→Shared→Prop}
theorem exc_matches {h:Heap} {g:Array GenState} {d:Drawn} {t:Nat} {os:OsState} {e C D N N' :Addr} {oe:Obj} {nm q nm' q' :Str} {bs bm bs' bm' :List Value} {hdct hdct' :Bool} {sn sn' :List Str} {sub sub' :List Value} {ab ab' :Bool} {col col' :Option Bool} {dd dd' :Option Addr} {k0 k1 k2 k3 k5 j0 j1 j2 j3 j5:Option Value} {i j:String} {Q:Bool→Shared→Prop}
    (hC:h.get? C=some (excClassObj nm q C N bs bm hdct sn sub ab col dd k0 k1 k2 k3 k5 i)) (hD:h.get? D=some (excClassObj nm' q' D N' bs' bm' hdct' sn' sub' ab' col' dd' j0 j1 j2 j3 j5 j)) (he:h.get? e=some oe) (hcls:oe.cls= .ref C) (hbase:bm'.contains (.type "BaseException")=true)
    (hin:(Value.ref C::bm).contains (.ref D)=true) (hq:Q true ⟨h,g,d,t,os⟩):wpAny M A (excMatches (.ref e) (.ref D)) Q E ⟨h,g,d,t,os⟩:=by
  have hcB:(Value.ref D::bm').contains (.type "BaseException")=true:=by rw[List.contains_cons,hbase,Bool.or_true]
  have f:=tc_notTuple;unfold excMatches
  repeat (first|(with_reducible refine wpAny_loadPart_at he ?_;rw[hcls])|with_reducible refine wpAny_loadPart_at hD ?_|(with_reducible refine wpAny_isSubtype_exc hD ?_;rw[hcB])|(with_reducible refine wpAny_isSubtype_exc hC ?_;rw[hin])|wp_step)
  exact hq
end
structure Under (K:PySem.W.Frag) (C D:Addr):Prop where
  ex:∃nm q N bs bm hdct sn sub ab col dd k0 k1 k2 k3 k5 i,K.lookup C=some (excClassObj nm q C N bs bm hdct sn sub ab col dd k0 k1 k2 k3 k5 i)∧(Value.ref C::bm).contains (.ref D)=true
section
variable{X:Cx}{body suite:List Stmt}{b0:Stmt}{rest:List ExceptHandler}{c nm:Str}{cp hpos pos:Pos}{tb:XK→TS}{th:TS}{i:Nat}{D:Addr}
def endsAs (i:Nat) (D:Ends):Ends where
  nx:=fun σ H=>D.nx (σ.set i none) H
  rt:=D.rt
  bk:=fun σ H=>D.bk (σ.set i none) H
  ct:=fun σ H=>D.ct (σ.set i none) H
def eTry(K:PySem.W.Frag)(len:Nat)(D:Addr)(i:Nat)(th:TS)(Ds:Ends):XK:=fun Cv dd H=>∃C,Cv= .ref C∧Under K C D∧∀(a:Addr) (σ:St),H a=some (.ext (excP a C dd false))→σ.length=len→th (endsAs i Ds) (σ.set i (some (.ref a))) H
def sTry(K:PySem.W.Frag)(len:Nat)(D:Addr)(i:Nat)(tb:XK→TS)(th:TS):TS:=fun Ds σ H=>tb (eTry K len D i th Ds) Ds σ H
theorem ps_tryAs (hst:X.stack=X.env::X.outer) (hfr:X.env.frame=some X.env.locals) (hN:X.N.Nodup) (hi:X.N[i]? =some nm) (hloc:X.env.kindOf nm=some .local) (hg:Gl X c) (hm:X.mg c=some (.ref D)) (hD:ExcC X.K D)
    (hb:∀(E:XK) (pn:List (Addr×Obj)) (W:Value→Shared→Prop),Wants (X.pinned pn W) E→PSs (X.pinned pn W) body (tb E)) (hs:∀a,PSs (X.inExc a fun _ _=>False) (b0::suite) th) (hdb:(c==("__debug__" :Str))=false:=by decide):
    PS X (.Try body (.ExceptHandler (some (.Name c cp)) (some nm) (b0::suite) hpos::rest) [] [] pos) (sTry X.K X.N.length D i tb th):=by
  intro pins s σ H Ds I h;refine wpAny_Try_except ?_
  have hw:Wants (X.pinned pins fun e s₁=>wpAny (model X.prog X.w) X.A (noteFrame e X.env) (fun _ s₂=>wpAny (model X.prog X.w) X.A (setFlight e none) (fun _ s₃=>wpAny (model X.prog X.w) X.A (handleBy e X.env (.ExceptHandler (some (.Name c cp)) (some nm) (b0::suite) hpos::rest)) (SP X pins Ds) X.xe s₃) X.xe s₂) X.xe s₁)
      (eTry X.K X.N.length D i th Ds):=by
    intro pins' σ' H' s' a C dd n I' ea fl q;have J:Inv X pins σ' H' s' :=I'.ofPinned I.ok
    have fl' :Flies X pins H' s'.heap a:=by
      rcases fl with z|⟨T,oe,f,z1,z2,z3⟩
      · exact .inl z
      · exact .inr ⟨T,oe,f,z1,z2,fun p hp=>z3 p (List.mem_append_left _ hp)⟩
    obtain⟨C',eC,un,q⟩:=q;cases eC;refine note_held J hst hfr ea fl' fun s2 T I2 held=> ?_;have ea2:upd H' a (.ext (excP a C dd false)) a=some (.ext (excP a C dd false)):=upd_same;obtain⟨vs,he,hv,_⟩:=ext_at I2.hok ea2;refine wpAny_handleBy_cons (codeAny_handlers_test ?_) (by intro q;cases q);refine ld_glob (I2.inExc a fun _ _=>False) hg hm ?_ hdb;obtain⟨nm1,q1,N1,bs1,bm1,hd1,sn1,sub1,ab1,col1,dd1,k0,k1,k2,k3,k5,i1,lk,hin⟩:=un.ex;obtain⟨nm2,q2,N2,bs2,bm2,hd2,sn2,sub2,ab2,col2,dd2,j0,j1,j2,j3,j5,lk2,T2⟩:=hD.obj;have hC:=I2.kIn _ _ lk;have hDD:=I2.kIn _ _ lk2;obtain⟨hp2,g2,d2,t2,os2⟩:=s2;refine exc_matches hC hDD he rfl T2.hasBase hin ?_;refine codeAny_handlers_suite_as ?_;refine land_held I2 held fun s3 I3 held3=> ?_;refine store_ok (X:=X.inExc a fun _ _=>False) (I3.inExc a fun _ _=>False) hN hi (.inl hloc) (show RelV (.ref a) (.ref a) from rfl) (fun s4 I4=> ?_) (.inr hloc);refine wpAny_mono (hs a pins s4 _ _ (endsAs i Ds) I4 (q a σ' ea2 I3.len)) (fun f s5 z=> ?_) fun _ _ z=>z.elim;have hcls:(X.env.scope.kind== .class||(X.env.scope.kind== .module&&X.env.locals !=X.env.globals))=false:=by rw[I.ok.kind];rfl
    have goes:∀{σ5:St} {H5:Hp} {Q:Unit→Shared→Prop},Inv X pins σ5 H5 s5→(∀s6,Inv X pins (σ5.set i none) H5 s6→Q () s6)→wpAny (model X.prog X.w) X.A (do bindName X.env nm .none;unbindBehindTheSuite X.env nm hpos) Q X.xe s5:=fun{σ5 H5 Q} J5 hQ=>by
      obtain⟨m,hm5,_⟩:=id J5.loc;exact wpAny_nameGoes_keeps hloc hm5 hcls fun h' v hn sb=>hQ _ (J5.unbound (t' :=s5.toks+1) hN hi hm5 hn sb)
    cases f with
    |next=>obtain⟨σ5,H5,I5,q5⟩:=z;exact goes (I5.outExc I.ok) fun s6 I6=>⟨_,_,I6,q5⟩
    |brk=>obtain⟨σ5,H5,I5,q5⟩:=z;exact goes (I5.outExc I.ok) fun s6 I6=>⟨_,_,I6,q5⟩
    |cont=>obtain⟨σ5,H5,I5,q5⟩:=z;exact goes (I5.outExc I.ok) fun s6 I6=>⟨_,_,I6,q5⟩
    |ret u=>obtain⟨v,σ5,H5,I5,r5,q5⟩:=z;exact goes (I5.outExc I.ok) fun s6 I6=>⟨v,_,_,I6,r5,q5⟩
  refine wpAny_mono (hb _ pins _ hw [] s σ H Ds (I.toPinned _) h) (fun f s1 z=> ?_) fun _ _ z=>z
  cases f with
  |next=>obtain⟨σ',H',I',q⟩:=z;exact wpAny_execs_nil ⟨σ',H',I'.ofPinned I.ok,q⟩
  |brk=>obtain⟨σ',H',I',q⟩:=z;exact⟨σ',H',I'.ofPinned I.ok,q⟩
  |cont=>obtain⟨σ',H',I',q⟩:=z;exact⟨σ',H',I'.ofPinned I.ok,q⟩
  |ret u=>obtain⟨v,σ',H',I',r,q⟩:=z;exact⟨v,σ',H',I'.ofPinned I.ok,r,q⟩
end
end L2
namespace L2
open PySem PySem.Spec PyProof.Rows
section
variable{P:Program}{w:World}{K:PySem.W.Frag}{mg:Str→Option Value}{base:Heap}
theorem Fun.okX {x qual:Str} {st:Stmt} {f:Addr} {fd:FuncData} {N ps:List Str} {k:Nat} {sp:Sp} (F:Fun K x qual st f fd) (S:FnScope N ps (defScope st)) (len:∀vs H Q E,sp vs H Q E→vs.length=ps.length)
    (hbody:∀(cdv:Value) (A:Around) (outer:List Env) (s:Shared) (H:Hp) (vs:List V) (Q:VK) (E:XK),Room k (A.deeper (envOfC qual (defScope st) s.heap.objs.size f cdv))→sp vs H Q E→
      ∃t,PSs (cxOf (CX1 P w) P w K mg base N qual (defScope st) f cdv A outer s H E) (defBody st) t∧t {nx:=fun _ H' =>Q .non H',rt:=Q} (start N vs) H):FnOk P w K mg base (CX1 P w) (k+1) f fd ps sp:=by
  obtain⟨oc,od,kV,doc,pm,an,cdv,ct,osl,rfl,lk,hcd⟩:=F.ex;exact fn_of lk hcd S len fun A outer s H vs Q E hr hsp=>hbody cdv A outer s H vs Q E hr hsp
end
end L2
namespace L2
open PySem PySem.Spec PyProof.Rows
section
variable{X:Cx}
end
end L2
namespace My
open PySem PySem.NumText PyProof.Rows L2
end My
namespace L2
open PySem PySem.Spec PySem.SeqAt PyProof.Rows
section
variable{X:Cx}
theorem op_ne_dat (hu:X.A.units+100<cLine):OpR X (compareOp .NotEq) (fun x y H Q=>∃d e,Dat H x d∧Dat H y e∧shaped d=true∧shaped e=true∧noMix d e=true∧Q (.bl (!PySem.Spec.same d e)) H):=by
  intro pins s σ H x y v u Q I rx ry h;obtain⟨d,e,hd,he,s1,s2,m,q⟩:=h;obtain⟨⟨as,rd⟩,_⟩:=hd.reads I.hok rx;obtain⟨⟨bs,re⟩,_⟩:=he.reads I.hok ry;exact ne_dataH_same rd re s1 s2 (by omega) m ⟨.bl _,H,I,rfl,q⟩
end
section
variable{X:Cx}{e:Expr}{f:Str}{pos:Pos}{ta:TE}{K:PySem.W.Frag}
theorem pe_fldXK (hK:X.K=K) (he:PE X e ta) (hb:attributeBase e f X.env (eval e X.env)=eval e X.env):PE X (.Attribute e f pos) (tFldX K ta f):=by
  subst hK;exact pe_fldX he hb
end
section
variable{X:Cx}{e:Expr}{es:List Expr}{st:Stmt}{sts:List Stmt}{te:TE}{ta:TA}{t u:TS}
end
section
variable{P:Program}{w:World}{K:PySem.W.Frag}{mg:Str→Option Value}{base:Heap}
end
end L2
namespace L2
open PySem PySem.Spec PyProof.Rows PySem.Builtin.ObjectAttr
section
variable{K:PySem.W.Frag}{C:Addr}
variable{prog:Program}{w:World}{A:Around}{E:Value→Shared→Prop}{s:Shared}{x:Addr}{ox:Obj}{od:Option Obj}
end
section
variable{X:Cx}{K:PySem.W.Frag}
end
structure RoomH (k:Nat) (A:Around):Prop where
  dp:A.depth+3*k+5<recursionLimit
  un:A.units+16*k+200<cLine
  gd:A.guards=some []
theorem Room.mark{k:Nat}{A:Around}(r:Room k A)(v:Option Value):RoomH k (A.mark v):=⟨r.dp,r.un,r.gd⟩
structure FnOkH (P:Program) (w:World) (K:PySem.W.Frag) (mg:Str→Option Value) (base:Heap) (k:Nat) (f:Addr) (fd:FuncData) (ps:List Str) (sp:Sp):Prop where
  len:∀vs H Q E,sp vs H Q E→vs.length=ps.length
  run:∀(A:Around) (outer:List Env) (s:Shared) (H:Hp) (args:Args) (us:List Value) (vs:List V) (Q:VK) (E:XK),RoomH k A→Env0 P w K mg base A outer s H→BindsTo s fd args (ps.zip us)→Vals vs us→sp vs H Q E→
    codeAny (model P w) A (.call (.ref f) args) (CR CX0 outer P w H s Q E) s
theorem FnOkH.mono {P:Program} {w:World} {K:PySem.W.Frag} {mg:Str→Option Value} {base:Heap} {j k:Nat} {f:Addr} {fd:FuncData} {ps:List Str} {sp:Sp} (F:FnOkH P w K mg base j f fd ps sp) (h:j≤k):FnOkH P w K mg base k f fd ps sp:=
  ⟨F.len,fun A outer s H args us vs Q E hr=>F.run A outer s H args us vs Q E ⟨by have:=hr.dp;omega,by have:=hr.un;omega,hr.gd⟩⟩
section
variable{X:Cx}{k:Nat}{f:Addr}{fd:FuncData}{ps:List Str}{sp:Sp}{x:Str}{p pos:Pos}{e:Expr}{es:List Expr}{t:TA}{K:PySem.W.Frag}
end
section
variable{X:Cx}
end
end L2
namespace L2
open PySem PySem.Spec PyProof.Rows
section
variable{X:Cx}{CX:CXT}{k:Nat}{f C:Addr}{fd:FuncData}{ps:List Str}{sp:Sp}{dvs:List V}{ds:List Value}{E:St→XK}{x m:Str}{p pos apos:Pos}{e o:Expr}{es:List Expr}{ta:TE}{t:TA}
end
section
variable{X:Cx}{body suite:List Stmt}{b0:Stmt}{rest:List ExceptHandler}{c nm:Str}{cp hpos pos:Pos}{tb:(St→XK)→TS}{th:TS}{i:Nat}{D:Addr}
end
end L2
namespace L2
open PySem PySem.Spec PyProof.Rows
theorem keys_miss:typeLookup (.type "list") "keys"=pure none:=by rw[typeLookup_type,builtinLookup_eq_fast];kernel_rfl
section
variable{prog:Program}{w:World}{A:Around}{E:Value→Shared→Prop}{s:Shared}
theorem keys_of_list {a:Addr} {o:Obj} {xs:Array Value} {k:Nat} {Q:Option Value→Shared→Prop}
    (hx:s.heap.get? a=some o) (hc:o.cls= .type "list") (hdat:o.data= .seq xs k) (hd:o.dict=none) (hA:A.handled=none)
    (h:∀h' tk,(∀b q,s.heap.get? b=some q→h'.get? b=some q)→Q none {s with heap:=h',toks:=tk}):
    wpAny (model prog w) A (getAttr? (.ref a) "keys") Q E s:=by
  obtain⟨c,dct,dat,sl⟩:=o;simp only at hc hdat hd;subst hc hdat hd;obtain⟨hp,g,d,tk,os⟩:=s;have hT:∀tk',(⟨hp,g,d,tk',os⟩:Shared).TypeIs (.ref a) "list":=fun _=>⟨_,hx,rfl⟩;have f1:=sub_AttributeError;have f3:=F.slot_list_getattribute.lookup;have f4:=F.slot_list_getattribute.bind (.ref a);have f5:=am_list_getattr_none;unfold getAttr? getAttrBy? getAttrBy
  repeat (any_goals (first|assumption|exact hT _|((with_reducible show wpAny _ _ (call (Value.builtin "list.__getattribute__") _ _) _ _ _);refine call_meets F.slot_list_getattribute (hT _) am_entry_list_getattribute (F.args_list_getattribute_2 _ _) (meets_getattribute_miss_list a xs k sl "keys" _ keys_miss (by decide+kernel) (by size_fits)) ⟨hx,hA,fun h' tk' e hx' => ?_⟩)|wp_step))
  obtain⟨t',u',he⟩:=hx'.there;show wpAny _ _ (getattributeRaised _ _ _ _ _ _ _) _ _ _;unfold getattributeRaised
  repeat (any_goals (first|assumption|wp_step))
  exact h _ _ hx'.keeps
theorem entry_dict_loop:entryFor table "dict.update.loop"=some Builtin.«dict.update.loop» :=entryFor_of_tree (by kernel_rfl)
theorem plain_dict_loop:plainId "dict.update.loop"=true:=by decide+kernel
theorem pair_items {a:Addr} {x y:Value} {h:Value→Sem (List Value)} {Q:List Value→Shared→Prop} (ht:s.heap.IsTuple a #[x,y]) (hq:Q [x,y] s):wpAny (model prog w) A ((Builtin.Dict.pairItems (.ref a)).tryCatch h) Q E s:=by
  obtain⟨o,ho,hc,n,hd⟩:=ht;have hT:s.TypeIs (.ref a) "tuple":=⟨_,ho,hc⟩;refine wpAny_tryCatch ?_;unfold Builtin.Dict.pairItems;refine wpAny_bind (wpAny_typeOf hT ?_);rw[if_pos (by decide)];refine wpAny_bind (wpAny_seqItems ho hd ?_);exact wpAny_pure hq
end
section
variable{prog:Program}{w:World}{A:Around}{R:Result→Shared→Prop}{I:Addr}{fp wr:List Addr}{G:Array GenState→Array GenState→Prop}{n:Nat}{P:Nat→Value→Prop}{St:Nat→Shared→Prop}{κ:Type}[DecidableEq κ]{knd:KeyKind prog w κ}
theorem stored_le (vs:List (κ×Value)) (k:κ) (v:Value):(stored vs k v).length≤vs.length+1:=by
  unfold stored
  split
  · rw[List.length_map];omega
  · rw[List.length_append];simp
theorem merged_snoc (vs ps:List (κ×Value)) (p:κ×Value):merged vs (ps++[p])=stored (merged vs ps) p.1 p.2:=by
  unfold merged;rw[List.foldl_append];rfl
theorem merged_le (ps:List (κ×Value)):∀vs:List (κ×Value),(merged vs ps).length≤vs.length+ps.length:=by
  induction ps with
  |nil=>intro vs;exact Nat.le_refl _
  | cons p r ih=>
    intro vs;have h:=ih (stored vs p.1 p.2);have h2:=stored_le vs p.1 p.2;show(merged (stored vs p.1 p.2) r).length≤_;rw[List.length_cons];omega
theorem dict_loop (W:WalksS prog w A.in1 I fp wr G n P St) (D:Addr) (hDf:D∉fp) (ps:List (κ×Value)) (hn:ps.length=n) (hb:n≤sizeLine):
    ∀ (k i:Nat) (s:Shared),n - i=k→i≤n→St i s→s.heap.DictOf knd D (merged [] (ps.take i))→
      (∀i v,P i v→∃a key q x,v= .ref a∧ps[i]? =some (q,x)∧knd.is q key=true∧a∉D::wr∧s.heap.IsTuple a #[key,x])→
      (∀s',Moved (D::wr) G s s'→s'.heap.DictOf knd D (merged [] ps)→R (.ok (.ret .none)) s')→
      codeAny (model prog w) A (.builtin "dict.update.loop" ⟨[.ref D,.ref I,rawInt i,.none],[]⟩) R s:=by
  have hDw:D∉wr:=fun h=>hDf (W.sub _ h);have hsub:∀b∈wr,b∈D::wr:=fun b hb=>List.mem_cons_of_mem _ hb;intro k
  induction k with
  | zero=>
    intro i s hk hi hst hS hT hR;have hin:i=n:=by omega
    subst hin;refine codeAny_builtin entry_dict_loop ?_;rw[Around.under_plainId plain_dict_loop _];show wpAny _ A.in1 (pyNext (.ref I)>>= _) _ _ s;refine wpAny_bind (W.done s _ _ hst fun s' hm=> ?_);show wpAny _ A.in1 (Builtin.Dict.addKeywords D []>>= fun _=>ret Value.none) _ _ s';refine wpAny_bind (wpAny_pure (wpAny_pure (hR s' (hm.mono hsub) ?_)));obtain⟨o,es,ep,ho,rest⟩:=hS;rw[List.take_of_length_le (by omega)] at rest;exact⟨o,es,ep,hm.heap D _ hDw ho,rest⟩
  | succ k ih=>
    intro i s hk hi hst hS hT hR;have hlt:i<n:=by omega
    refine codeAny_builtin entry_dict_loop ?_;rw[Around.under_plainId plain_dict_loop _];show wpAny _ A.in1 (pyNext (.ref I)>>= _) _ _ s;refine wpAny_bind (W.item i s _ _ hlt hst fun v s' hP hst' hm=> ?_);obtain⟨a,key,q,x,rfl,hq,hkey,ha,ht⟩:=hT i v hP;have keep:∀{b:Addr} {o:Obj},b∉D::wr→s.heap.get? b=some o→s'.heap.get? b=some o:=fun{b o} hb e=>hm.heap b o (fun z=>hb (hsub b z)) e
    have ht' :s'.heap.IsTuple a #[key,x]:=by
      obtain⟨o,ho,rest⟩:=ht;exact⟨o,keep ha ho,rest⟩
    have hS' :s'.heap.DictOf knd D (merged [] (ps.take i)):=by
      obtain⟨o,es,ep,ho,rest⟩:=hS;exact⟨o,es,ep,hm.heap D _ hDw ho,rest⟩
    have hle:=merged_le (ps.take i) [];rw[List.length_take] at hle;show wpAny _ A.in1 (holding [Value.ref a] _>>= _) _ _ s';refine wpAny_bind (wpAny_holding ?_);refine wpAny_bind (pair_items ht' ?_);show wpAny _ A.in1 (holding [key,x] (dictSet D key x)) _ _ s';refine wpAny_holding ?_;refine wpAny_dictSet_pairs hkey hS' (fun h' hd' hs' => ?_) (by simp at hle;omega)
    have e1:ps.take (i+1)=ps.take i++[(q,x)]:=by
      rw[List.take_add_one,hq];rfl
    refine wpAny_pure ⟨plainId_quiet plain_dict_loop _,?_⟩;have e2:rawInt ((i:Int)+1)=rawInt ((i+1:Nat):Int):=by rw[Int.natCast_add];rfl
    show codeAny _ _ (.builtin "dict.update.loop" ⟨[.ref D,.ref I,rawInt ((i:Int)+1),.none],[]⟩) _ _;rw[e2]
    have keep2:∀{b:Addr} {o:Obj},b∉D::wr→s'.heap.get? b=some o→h'.get? b=some o:=fun{b o} hb e=>by
      rw[hs'.2 b (fun z=>hb (by rw[z];exact List.mem_cons_self))];exact e
    refine ih (i+1) _ (by omega) hlt (W.frame _ s' _ _ hst' (Nat.le_succ _) fun b hb o e=> ?_) ?_ (fun j u hu=> ?_) fun s'' hm'' hS'' => ?_
    · rw[hs'.2 b (fun z=>hDf (by rw[←z];exact hb))]
      exact e
    · show h'.DictOf knd D (merged [] (ps.take (i+1)))
      rw[e1,merged_snoc];exact hd'
    · obtain⟨a',key',q',x',h1,h2,h3,h4,o,ho,rest⟩:=hT j u hu
      exact⟨a',key',q',x',h1,h2,h3,h4,o,keep2 h4 (keep h4 ho),rest⟩
    · refine hR s'' (Moved.trans W.gtrans ((hm.mono hsub).then_heap (Nat.le_succ _) fun b o hb e=> ?_) hm'') hS''
      exact keep2 hb e
end
section
variable{prog:Program}{w:World}{A:Around}{E:Value→Shared→Prop}{s:Shared}{κ:Type}[DecidableEq κ]{knd:KeyKind prog w κ}
theorem dict_pairs {l:Addr} {items:Array Value} {ps:List (κ×Value)} {Q:Value→Shared→Prop} (hh:A.handled=none) (hl:s.heap.IsList l items) (hld:∀o,s.heap.get? l=some o→o.dict=none) (hn:ps.length=items.size) (hb:items.size≤sizeLine)
    (hT:∀(i:Nat) v,items[i]? =some v→∃a key q x,v= .ref a∧ps[i]? =some (q,x)∧knd.is q key=true∧s.heap.IsTuple a #[key,x])
    (h:∀(h' :Heap) (tk:Nat),h'.DictOf knd s.heap.objs.size (merged [] ps)→(∀b o,s.heap.get? b=some o→h'.get? b=some o)→Q (.ref s.heap.objs.size) {s with heap:=h',toks:=tk}):
    wpAny (model prog w) A (call (.type "dict") [.ref l]) Q E s:=by
  refine callType_codes (Q₁:=fun obj s₁=>obj= .ref s.heap.objs.size∧s₁={s with heap:=s.heap.push {cls:= .type "dict",data:= .dict #[]}}) F.kt_called_dict (F.kt_typeCall_dict_1 _) F.entry_dict_init (kt_code_dict_new _ ⟨rfl,rfl⟩) ?_
  rintro obj s₁ ⟨rfl,rfl⟩
  have hnew:(s.heap.push {cls:= .type "dict",data:= .dict #[]}).DictOf knd s.heap.objs.size []:=Heap.DictOf.new s.heap;obtain⟨ol,hol,hcl,nl,hdl⟩:=id hl;have hol' :(s.heap.push {cls:= .type "dict",data:= .dict #[]}).get? l=some ol:=Heap.get?_push_of_some _ hol;have hlS:l<s.heap.objs.size:=Heap.lt_size hol;refine⟨hnew.typeIs,F.args_dict_init_2 _ _,?_⟩;unfold Builtin.«dict.__init__»;refine wpAny_bind ?_;unfold Builtin.Dict.selfAndRest;refine wpAny_bind (wpAny_notOrdered_dict hnew.typeIs ?_);show wpAny _ _ (pure (s.heap.objs.size,[Value.ref l])) _ _ _;refine wpAny_pure ?_;show wpAny _ _ (Builtin.Dict.updateFrom "dict.__init__" s.heap.objs.size (.ref l) [] .none) _ _ _;unfold Builtin.Dict.updateFrom;have hTl:Shared.TypeIs {s with heap:=s.heap.push {cls:= .type "dict",data:= .dict #[]}} (.ref l) "list":=⟨_,hol',hcl⟩;refine wpAny_bind (wpAny_typeOf hTl ?_);rw[if_pos (by decide)];refine wpAny_bind (keys_of_list hol' hcl hdl (hld _ hol) (by simp[hh]) fun h2 tk2 k2=> ?_);rw[if_pos (show(none:Option Value).isNone=true from rfl)];refine wpAny_bind (wpAny_rule ?_);have hl2:h2.IsList l items:=⟨ol,k2 _ _ hol',hcl,nl,hdl⟩;refine wpAny_bind (wpAny_pyIter_list (s:={s with heap:=h2,toks:=tk2}) hl2 ?_);refine wpAny_pure ⟨plainId_quiet plain_dict_loop _,?_⟩;have hold:∀b o,s.heap.get? b=some o→(h2.push {cls:= .type "list_iterator",data:= .fields #[.ref l,.int 0 0]}).get? b=some o:=fun b o e=>Heap.get?_push_of_some _ (k2 _ _ (Heap.get?_push_of_some _ e));have hD2:h2.get? s.heap.objs.size=some {cls:= .type "dict",data:= .dict #[]}:=k2 _ _ (Heap.get?_push_size _ rfl);have hDlt:s.heap.objs.size<h2.objs.size:=Heap.lt_size hD2;have hneI:l≠h2.objs.size:=Nat.ne_of_lt (Nat.lt_trans hlS hDlt)
  have hDf:s.heap.objs.size∉[h2.objs.size,l]:=by
    simp only[List.mem_cons,List.not_mem_nil,or_false,not_or];exact⟨Nat.ne_of_lt hDlt,Nat.ne_of_gt hlS⟩
  refine dict_loop (knd:=knd) ((Walks.list (by simp[hh]) _ l hneI items).toS) s.heap.objs.size hDf ps hn hb (items.size - 0) 0 _ (by omega) (Nat.zero_le _) ⟨⟨_,Heap.get?_push_size _ rfl,rfl,rfl⟩,(hl2.push _)⟩ ?_ (fun i v hv=> ?_) fun s' hm hd' => ?_
  · obtain⟨o,es,ep,ho,rest⟩:=hnew
    exact⟨o,es,ep,Heap.get?_push_of_some _ (k2 _ _ ho),rest⟩
  · obtain⟨a,key,q,x,h1,h2',h3,o,ho,rest⟩:=hT i v hv
    have hlt:a<s.heap.objs.size:=Heap.lt_size ho;refine⟨a,key,q,x,h1,h2',h3,?_,o,hold _ _ ho,rest⟩;simp only[List.mem_cons,List.not_mem_nil,or_false,not_or];exact⟨Nat.ne_of_lt hlt,Nat.ne_of_lt (Nat.lt_trans hlt hDlt)⟩
  · obtain⟨h',g',d',tk',os'⟩:=s'
    have eg:g' =s.gens:=hm.gens;have ed:d' =s.drawn:=hm.drawn;have eo:os' =s.os:=hm.os;subst eg;subst ed;subst eo
    refine⟨rfl,h h' tk' hd' fun b o e=> ?_⟩;have hb1:b<s.heap.objs.size:=Heap.lt_size e;refine hm.heap b o ?_ (hold _ _ e);simp only[List.mem_cons,List.not_mem_nil,or_false,not_or];exact⟨Nat.ne_of_lt hb1,Nat.ne_of_lt (Nat.lt_trans hb1 hDlt)⟩
end
section
variable{X:Cx}
def PairsAt(H:Hp)(ys:List V)(kvs:List (Key×V)):Prop:=ys.length=kvs.length∧∀(i:Nat) k v,kvs[i]? =some (k,v)→∃a,ys[i]? =some (.ref a)∧H a=some (.tup [kV k,v])
theorem pick {kvs:List (Key×V)}:∀(R:Nat→Key→V→Value→Prop),(∀(i:Nat) k v,kvs[i]? =some (k,v)→∃x,RelV v x∧R i k v x)→∃ps:List (Key×Value),KV kvs ps∧∀(i:Nat) k v,kvs[i]? =some (k,v)→∃x,ps[i]? =some (k,x)∧R i k v x:=by
  induction kvs with
  |nil=>exact fun R _=>⟨[],.nil,fun i k v e=>by simp at e⟩
  | cons p r ih=>
    intro R h;obtain⟨k0,v0⟩:=p;obtain⟨x0,r0,h0⟩:=h 0 k0 v0 rfl;obtain⟨ps,hps,hi⟩:=ih (fun i=>R (i+1)) fun i k v e=>h (i+1) k v (by simpa using e);refine⟨(k0,x0)::ps,.cons ⟨rfl,r0⟩ hps,fun i k v e=> ?_⟩
    cases i with
    | zero=>
      simp at e;obtain⟨rfl,rfl⟩:=e;exact⟨x0,rfl,h0⟩
    | succ i=>
      obtain⟨x,e1,e2⟩:=hi i k v (by simpa using e);exact⟨x,by simpa using e1,e2⟩
theorem call_dict_pairs (hc:X.calm=true):CallR X (.type "dict") (fun xs H Q=>∃p ys kvs,xs=[.ref p]∧H p=some (.lst ys)∧PairsAt H ys kvs∧∀d,H d=none→Q (.ref d) (upd H d (.dK (mergeK [] kvs)))):=by
  intro pins s σ H xs us Q I r h;obtain⟨p,ys,kvs,rfl,hq,⟨hlen,hP⟩,q⟩:=h;obtain⟨u,rfl,rx⟩:=vals1 r;cases rx;obtain⟨hz,its,n,r',e0⟩:=(show ObjOk X.prog X.w H s.heap p (.lst ys) from I.hok p _ hq);have hl:=r'.length
  obtain⟨ps,hps,hi⟩:=pick (kvs:=kvs) (fun i k v x=>∃a key,its[i]? =some (.ref a)∧RelV (kV k) key∧s.heap.IsTuple a #[key,x]) fun i k v e=>by
    obtain⟨a,ea,eH⟩:=hP i k v e;obtain⟨u,hu,ru⟩:=r'.get ea;cases ru;obtain⟨_,us,rus,o,h1,h2,n,h3⟩:=(show ObjOk X.prog X.w H s.heap a (.tup [kV k,v]) from I.hok a _ eH);obtain⟨key,x,rfl,r1,r2⟩:=vals2 rus;exact⟨x,r2,a,key,hu,r1,o,h1,h2,n,h3⟩
  have hpl:=hps.length;refine dict_pairs (knd:=mixKind X.prog X.w) (I.ok.hd hc) ⟨_,e0,rfl,n,rfl⟩ (fun o e=> ?_) (ps:=ps) (by simp;omega) (by simp;omega) (fun i v hv=> ?_) fun h' tk hd kp=> ?_
  · rw[e0] at e
    cases e;rfl
  · have hv:its[i]? =some v:=by simpa using hv
    have hil:i<kvs.length:=by
      have:=(List.getElem?_eq_some_iff.mp hv).1;omega
    obtain⟨x,e1,a,key,e2,r1,ht⟩:=hi i kvs[i].1 kvs[i].2 (by simp[hil]);rw[e2] at hv;cases hv;exact⟨a,key,kvs[i].1,x,rfl,e1,kV_is r1,ht⟩
  · have hle:=length_mergeK kvs []
    simp at hle;exact⟨.ref s.heap.objs.size,_,I.laid (t' :=tk) kp (Nat.le_refl _) (dk_new (by omega) (dk_empty (P:=X.prog) (w:=X.w) (H:=H) s.heap I.big).2.1 (hps.merge .nil) hd),rfl,q _ (I.hok.fresh (Nat.le_refl _))⟩
theorem call_dict_copy:CallR X (.type "dict") (fun xs H Q=>∃p kvs,xs=[.ref p]∧H p=some (.dK kvs)∧∀d,H d=none→Q (.ref d) (upd H d (.dK kvs))):=by
  intro pins s σ H xs us Q I r h;obtain⟨p,kvs,rfl,hq,q⟩:=h;obtain⟨u,rfl,rx⟩:=vals1 r;cases rx;obtain⟨hz,hs,vs,rel,dd⟩:=dk_of I.hok hq;have hl:=rel.length;refine kt_call_dict (knd:=mixKind X.prog X.w) hs dd (by omega) fun h' hd hsb=> ?_
  have kp:∀b o,s.heap.get? b=some o→h'.get? b=some o:=fun b o e=>by
    rw[hsb.2 b (Nat.ne_of_lt (Heap.lt_size e))];exact Heap.get?_push_of_some _ e
  exact⟨.ref s.heap.objs.size,_,I.laid (t' :=s.toks) kp (Nat.le_refl _) (dk_new hz (dk_empty (P:=X.prog) (w:=X.w) (H:=H) s.heap I.big).2.1 rel hd),rfl,q _ (I.hok.fresh (Nat.le_refl _))⟩
end
end L2
namespace L2
open PySem PySem.Spec PyProof.Rows
def viewO(v d:Addr):HO:= .ext fun h=>h.IsItemsView v d
def rItems(x:V)(vs:List V)(H:Hp)(Q:VK):Prop:=∃d kvs,x= .ref d∧vs=[]∧H d=some (.dK kvs)∧∀v,H v=none→Q (.ref v) (upd H v (viewO v d))
theorem mt_items {X:Cx}:MtR X "dict.items" rItems:=by
  intro pins s σ H x vs v us Q I rx rv h;obtain⟨d,kvs,rfl,rfl,hH,q⟩:=h;cases rx;have hus:=rv.zero;subst hus;obtain⟨hz,hs,vs,rel,dd⟩:=dk_of I.hok hH;refine call_meetsIn PySem.F.slot_dict_items dd.typeIs PySem.F.entry_dict_items (PySem.F.args_dict_items_1 _) (meets_dict_items (mixKind X.prog X.w) d hs) ⟨⟨vs,dd⟩,?_⟩;refine⟨.ref s.heap.objs.size,_,I.laid (a:=s.heap.objs.size) (o:=viewO s.heap.objs.size d) (t' :=s.toks) (fun _ _ q=>Heap.get?_push_of_some _ q) (Nat.le_refl _) ?_,rfl,q _ (I.hok.fresh (Nat.le_refl _))⟩;refine⟨⟨_,Heap.get?_push_size _ rfl,rfl,rfl⟩,⟨_,Heap.get?_push_size _ rfl⟩,fun h1 h2 ⟨o,e,r⟩ k=>⟨o,k _ e,r⟩⟩
def Iti (d:Addr) (o:Obj) (kvs:List (Key×V)):It:=
  ⟨fun i H=>i<kvs.length∧H d=some (.frz o (.dK kvs)),fun i H x H' =>∃T k v,x= .ref T∧H T=none∧H' =upd H T (.tup [kV k,v])∧kvs[i]? =some (k,v),fun i H=>kvs.length≤i∧H d=some (.frz o (.dK kvs))⟩
theorem kv_val {kvs:List (Key×V)} {vs:List (Key×Value)} (r:KV kvs vs):∀{i:Nat} {p:Key×V} {k:Key} {x:Value},kvs[i]? =some p→vs[i]? =some (k,x)→RelV p.2 x:=by
  unfold KV at r
  induction r with
  |nil=>intro i p k x h;simp at h
  | @cons a b as bs h t ih=>
    intro i p k x h1 h2
    cases i with
    | zero=>
      simp at h1 h2;subst h1 h2;exact h.2
    |succ i=>exact ih (by simpa using h1) (by simpa using h2)
theorem turn_items {P:Program} {w:World} {K:PySem.W.Frag} {elts:List Expr} {kt:Nat} {pt:Pos} (d it:Addr) (o:Obj) (kvs:List (Key×V)) (ep:Nat) (es:Array DictEntry) (hd:o.data= .dict es ep):
    Turn P w K (.Tuple elts kt pt) (Iti d o kvs) [it] it (fun i h=>∃ok ov,IsItemIter h it d i kvs.length ep ok ov) where
  mem:=by simp
  obj:=fun i h st b hb=>by
    have e:b=it:=by simpa using hb
    subst e;obtain⟨ok,ov,e⟩:=st;exact⟨_,e,fun v z=>by cases z⟩
  keep:=fun i h h' st k=>by
    obtain⟨ok,ov,e⟩:=st;exact⟨ok,ov,k it (by simp) _ e⟩
  item := by
    intro X hP hw hK hc i pins s σ H E I hf st hg;subst hP hw hK;obtain⟨hi,hq⟩:=hg;obtain⟨ho,z,hs,vs,rel,o',es',ep',g1,g2,g3,g4,g5,g6⟩:=(show ObjOk X.prog X.w H s.heap d (.frz o (.dK kvs)) from I.hok d _ hq);rw[ho] at g1;cases g1;rw[hd] at g3;cases g3;have hl:=rel.length;obtain⟨⟨k,x⟩,hx⟩:∃p,vs[i]? =some p:=⟨vs[i],by simp[show i<vs.length by omega]⟩;obtain⟨f0,f1,f2,f3,f4,f5⟩:=hf it (by simp);obtain⟨ok,ov,st⟩:=st;rw[hl] at st;have hilt:it<s.heap.objs.size:=Heap.lt_size st
    obtain⟨p,hp,hp1,hp2⟩:∃p:Key×V,kvs[i]? =some p∧p.1=k∧RelV p.2 x:=by
      have:kvs[i]? =some kvs[i]:=by simp[hi]
      exact⟨_,this,kv_key rel this hx,kv_val rel this hx⟩
    obtain⟨pk,pv⟩:=p;have hp1:pk=k:=hp1;subst hp1;refine wpAny_pyNext_items_item (knd:=mixKind X.prog X.w) st ⟨o,es,ho,g2,hd,g4,g5,g6⟩ hx fun key h' hkey hout hT hsz hk=> ?_;refine⟨.ref s.heap.objs.size,rfl,?_⟩;refine wpAny_letOwnedTupleGo_items hout fun h'' he'' hs'' => ?_;have hTn:H s.heap.objs.size=none:=I.hok.fresh (Nat.le_refl _);have hTe:s.heap.objs.size≠it:=Nat.ne_of_gt hilt;have kk:∀b o,b≠it→s.heap.get? b=some o→h''.get? b=some o:=fun b o hb q=>(hs''.2 b hb).trans (hk b o hb q);have hT'' :h''.get? s.heap.objs.size=some {cls:= .type "tuple",data:= .seq #[key,x]}:=(hs''.2 _ hTe).trans hT;have hne:∀b u,H b=some u→b≠it:=fun b u q z=>by rw[z,f0] at q;cases q
    have I2 :Inv X pins σ (upd H s.heap.objs.size (.tup [kV pk,pv])) {s with heap:=h''}:=by
      have new:ObjOk X.prog X.w (upd H s.heap.objs.size (.tup [kV pk,pv])) h'' s.heap.objs.size (.tup [kV pk,pv]):=⟨(show 2≤sizeLine by decide),[key,x],.cons (is_kV hkey) (.cons hp2 .nil),⟨_,hT'',rfl,_,rfl⟩⟩
      refine I.step (g' :=s.gens) (d' :=s.drawn) (ch:=[it]) (fun b hb=> ?_) (fun b o _ _ hc q _=>kk b o (fun z=>hc (by simp[z])) q) (fun b o _ _ hc q _=>⟨o.slots,kk b o (fun z=>hc (by simp[z])) q⟩)
        (fun b o _ q n=> ?_) (fun b o hc q=>⟨o,kk b o (fun z=>hc (by simp[z])) q⟩) (fun b ys q=> ?_) (fun b o ys q=> ?_) (fun b ps q=>⟨#[],?_⟩) (fun m hm=> ?_) (fun b u q=> ?_) I.bare
      · have hb:b=it:=by simpa using hb
        subst hb;exact⟨f3,f1,f4,f5⟩
      · rw[upd_ne (Nat.ne_of_lt (Heap.lt_size q))];exact n
      · rw[upd_ne (ne_of_none q hTn)];exact q
      · rw[upd_ne (ne_of_none q hTn)];exact q
      · rw[upd_ne (ne_of_none q hTn),q];simp
      · obtain⟨o,es,ep,q,r⟩:=hm
        exact⟨o,es,ep,kk _ o (Ne.symm f1) q,r⟩
      · by_cases hb:b=s.heap.objs.size
        · subst hb
          rw[upd_same] at q;cases q;exact new
        · rw[upd_ne hb] at q
          refine(I.hok b u q).stay (fun c v hc q' =>kk c v ?_ q') (fun c q' => ?_) fun c ys q' => ?_
          · rcases hc with z|z
            · rw[z];exact hne b u q
            · exact hne c _ z
          · rw[upd_ne (ne_of_none q' hTn)];exact q'
          · rw[upd_ne (ne_of_none q' hTn)];exact q'
    refine⟨.ref s.heap.objs.size,_,I2,rfl,⟨_,pk,pv,rfl,hTn,rfl,hp⟩,⟨_,_,by rw[hl];exact he''⟩,fun b hb=> ?_⟩;have hb:b=it:=by simpa using hb
    subst hb;rw[upd_ne (Ne.symm hTe)];exact f0
  done:=by
    intro X hP hw hK hc i pins s σ H E I hf st hg;subst hP hw hK;obtain⟨hi,hq⟩:=hg;obtain⟨ho,z,hs,vs,rel,o',es',ep',g1,g2,g3,g4,g5,g6⟩:=(show ObjOk X.prog X.w H s.heap d (.frz o (.dK kvs)) from I.hok d _ hq);rw[ho] at g1;cases g1;rw[hd] at g3;cases g3;have hl:=rel.length;obtain⟨f0,f1,f2,f3,f4,f5⟩:=hf it (by simp);obtain⟨ok,ov,st⟩:=st;rw[hl] at st;exact wpAny_pyNext_items_end (knd:=mixKind X.prog X.w) (I.ok.hd hc) st ⟨o,es,ho,g2,hd,g4,g5,g6⟩ (by simp;omega) fun h' eb=>⟨rfl,I.turned (t' :=s.toks) (fun b ob hb e=>eb b ob hb e) f0 f1 f3 f4 f5⟩
  self:=fun _ _ _ _ _ st h=>by
    obtain⟨ok,ov,st⟩:=st;exact PySem.W.kcp_self st h
section
variable{X:Cx}{e:Expr}{te:TE}{elts:List Expr}{kt:Nat}{pt:Pos}
def iItems(X:Cx)(te:TE):TI:=fun σ H R=>te σ H fun x H1=>∃v d kvs,x= .ref v∧H1 v=some (viewO v d)∧H1 d=some (.dK kvs)∧∀o,NFz X d→R (Iti d o kvs) (upd H1 d (.frz o (.dK kvs)))
theorem pi_items (he:PE X e te):PI X (.Tuple elts kt pt) e (iItems X te):=by
  intro pins s σ H R I h;refine thn (he pins s σ H _ I h) fun v s1 ⟨x,H1,I1,r1,v',a,kvs,ex,hv,hq,q⟩=> ?_;subst ex;cases r1;obtain⟨z,hs,vs,rel,o,es,ep,g1,g2,g3,g4,g5,g6⟩:=dk_of I1.hok hq;obtain⟨hview,_⟩:=(show ObjOk X.prog X.w H1 s1.heap v' (viewO v' a) from I1.hok v' _ hv);have hl:=rel.length;refine wpAny_pyIter_items (knd:=mixKind X.prog X.w) (kvs:=vs) (ep:=ep) hview ⟨o,es,g1,g2,g3,g4,g5,g6⟩ ?_;have I2:=I1.freeze hq g1;have hn:H1 s1.heap.objs.size=none:=I1.hok.fresh (Nat.le_refl _);have hf:FpOk X pins (upd H1 a (.frz o (.dK kvs))) s1.heap.objs.size:=I1.fpOk (Nat.le_refl _) (by rw[upd_ne (fun z=>by rw[z,hq] at hn;cases hn)];exact hn);refine⟨s1.heap.objs.size,[s1.heap.objs.size],_,_,_,rfl,I2.kept (t' :=s1.toks) fun b ob e=>Heap.get?_push_of_some _ e,turn_items a _ o kvs ep es g3,⟨_,_,by rw[hl];exact Heap.get?_push_size _ rfl⟩,fun b hb=> ?_,q o (I1.nfz hq)⟩;have e:b=s1.heap.objs.size:=by simpa using hb
  subst e;exact hf
def tThawS(X:Cx)(t:TS):TS:=fun D σ H=>t {D with nx:=fun σ' H' =>∃d o kvs,H' d=some (.frz o (.dK kvs))∧NFz X d∧D.nx σ' (upd H' d (.dK kvs))} σ H
theorem ps_thaw {st:Stmt} {t:TS} (h:PS X st t):PS X st (tThawS X t):=by
  intro pins s σ H D I q;refine thn (h pins s σ H _ I q) fun f s1 q1=> ?_
  cases f with
  | next=>
    obtain⟨σ',H',I',d,o,kvs,ed,nf,q'⟩:=q1;exact⟨σ',_,I'.thaw ed nf,q'⟩
  |brk=>exact q1
  |cont=>exact q1
  |ret u=>exact q1
end
theorem feeds_items {d:Addr} {o:Obj} {kvs:List (Key×V)} {H:Hp} (h:H d=some (.frz o (.dK kvs))):FeedsG (Iti d o kvs) H kvs.length (fun i x H' =>∃T k v,x= .ref T∧H' T=some (.tup [kV k,v])∧kvs[i]? =some (k,v)) where
  go:=fun i H' s hi=>⟨hi,s _ _ h⟩
  yld:=fun i H' x H'' s hi q=>by
    obtain⟨T,k,v,rfl,hT,rfl,hy⟩:=q;exact⟨Same.upd hT,T,k,v,rfl,upd_same,hy⟩
  stop:=fun i H' s hi=>⟨hi,s _ _ h⟩
end L2
namespace L2
open PySem PySem.Spec PyProof.Rows
section
variable{prog:Program}{w:World}{A:Around}{E:Value→Shared→Prop}{s:Shared}
theorem draw_list {it t:Addr} {items:Array Value} (hne:t≠it):∀(n i:Nat) (s:Shared) (Q:List Value→Shared→Prop),s.heap.IsListIter it t i→s.heap.IsList t items→i+n≤items.size→
    (∀h',h'.IsListIter it t (i+n)→Heap.SameBut it s.heap h'→Q ((items.toList.drop i).take n) {s with heap:=h'})→wpAny (model prog w) A (draw (.ref it) n) Q E s
  | 0,i,s,Q,hit,_,_,hQ=>by
    show wpAny _ _ (pure []) Q E s;exact wpAny_pure (by simpa using hQ s.heap hit (Heap.SameBut.refl ..))
  | n+1,i,s,Q,hit,ht,hle,hQ=>by
    have hlt:i<items.size:=by omega
    show wpAny _ _ (pyNext (.ref it)>>= _) Q E s;refine wpAny_bind (wpAny_pyNext_list_item hit ht (x:=items[i]) (by simp[hlt]) fun h₁ hit₁ hs₁=> ?_);refine wpAny_bind (wpAny_holding (draw_list hne n (i+1) _ _ hit₁ (ht.extBut hs₁.extBut hne) (by omega) fun h₂ hit₂ hs₂=>wpAny_pure ?_));have hd:items.toList.drop i=items[i]::items.toList.drop (i+1):=by simp[List.drop_eq_getElem_cons,hlt]
    have:=hQ h₂ (by rw[show i+(n+1)=i+1+n by omega];exact hit₂) (hs₁.trans hs₂);rw[hd,List.take_succ_cons] at this;exact this
theorem unpackItems_list {t:Addr} {items:Array Value} {Q:List Value→Shared→Prop} (hh:A.handled=none) (ht:s.heap.IsList t items)
    (hQ:∀h',Heap.ExtBut s.heap.objs.size s.heap h'→Q items.toList {s with heap:=h'}):wpAny (model prog w) A (unpackItems (.ref t) items.size none) Q E s:=by
  have hlt:t≠s.heap.objs.size:=by obtain⟨o,ho,_⟩:=ht;exact Nat.ne_of_lt (Heap.lt_size ho)
  unfold unpackItems;refine wpAny_bind ?_
  · unfold notIterableAtAll
    refine wpAny_bind (wpAny_specialOf ht.typeIs F.slot_list_iter.lookup ?_);refine wpAny_pure ?_;simp only[Bool.false_eq_true,if_false];refine wpAny_bind (wpAny_holding (wpAny_pyIter_list ht ?_));refine wpAny_bind (wpAny_holding (draw_list hlt items.size 0 _ _ ⟨_,Heap.get?_push_size _ rfl,rfl,rfl⟩ (ht.push _) (by omega) fun h₁ hit₁ hs₁=> ?_))
    have hall:List.take items.size (List.drop 0 items.toList)=items.toList:=by
      rw[List.drop_zero];exact List.take_of_length_le (by simp)
    rw[hall];rw[if_neg (by simp)];have ht₁:h₁.IsList t items:=(ht.push _).extBut hs₁.extBut hlt;refine wpAny_bind (wpAny_holding (wpAny_pyNext_list_end hh hit₁ ht₁ (by simp) fun h₂ he₂=> ?_));simp only[Option.isSome_none,Bool.false_eq_true,if_false];refine wpAny_pure (hQ h₂ fun b o hb e=>he₂ b o hb (hs₁.extBut b o hb (Heap.get?_push_of_some _ e)))
theorem assign_Tuple_list {env:Env} {elts:List Expr} {x1} {pos:Pos} {t:Addr} {items:Array Value} {Q:Unit→Shared→Prop} (hh:A.handled=none) (ht:s.heap.IsList t items)
    (hn:(assignEach elts env).length=items.size) (hstar:(assignEach elts env).findIdx? (·.1)=none)
    (h:∀h',Heap.ExtBut s.heap.objs.size s.heap h'→wpAny (model prog w) A (assignInOrder ((assignEach elts env).map (·.2)) items.toList) Q E {s with heap:=h'}):
    wpAny (model prog w) A (assign (.Tuple elts x1 pos) env (.ref t)) Q E s:=by
  rw[arm_assign_Tuple];refine wpAny_bind (wpAny_standAt ?_);unfold unpack;rw[hn,hstar];exact wpAny_bind (wpAny_holding (unpackItems_list hh ht h))
end
section
variable{X:Cx}{pos:Pos}
def gTupL(K:PySem.W.Frag)(n:Nat)(t:TGs):TG:=fun v σ H Q=>∃a xs,v= .ref a∧SqL K H a xs∧xs.length=n∧t xs σ H Q
theorem pg_tupL {es:List Expr} {k:Nat} {t:TGs} {n:Nat} (hc:X.calm=true) (h:PGs X es t)
    (hn:(assignEach es X.env).length=n:=by rfl) (hst:(assignEach es X.env).findIdx? (·.1)=none:=by rfl):PG X (.Tuple es k pos) (gTupL X.K n t):=by
  intro pins s σ H v u Q I r hw;obtain⟨a,xs,e1,hq,hl,hw⟩:=hw;subst e1;cases r;obtain⟨its,rv,ht,hz⟩:=I.list hq;refine assign_Tuple_list (I.ok.hd hc) ht.isList (by simp[hn,←hl,rv.length]) hst fun h' hx=> ?_;have I1:Inv X pins σ H {s with heap:=h'}:=I.kept (t' :=s.toks) fun b o e=>hx b o (Nat.ne_of_lt (Heap.lt_size e)) e;exact h pins _ σ H xs _ Q I1 (by simpa using rv) hw
theorem for_items {d:Addr} {o:Obj} {kvs:List (Key×V)} {g:TG} {tb:TS} {D:Ends} {σ:St} {H:Hp} (Pv:Nat→St→Hp→Prop) (h0:Pv 0 σ H) (hl:∀i σ H,Pv i σ H→H d=some (.frz o (.dK kvs)))
    (hs:∀i k v T σ H,kvs[i]? =some (k,v)→H T=none→Pv i σ H→g (.ref T) σ (upd H T (.tup [kV k,v])) fun σ2 H2=>tb {D with nx:=Pv (i+1),ct:=Pv (i+1),bk:=D.nx} σ2 H2) (hd:∀σ H,Pv kvs.length σ H→D.nx σ H):
    ∃ W:Nat→Nat→St→Hp→Prop,(∃m,W 0 m σ H)∧∀i m σ H,W i m σ H→
      ((Iti d o kvs).stop i H∧D.nx σ H)∨((Iti d o kvs).go i H∧∃N:St→Hp→Prop,(∀σ' H',N σ' H'→∃m',m' <m∧W (i+1) m' σ' H')∧∀x H',(Iti d o kvs).yld i H x H'→g x σ H' fun σ2 H2=>tb {D with nx:=N,ct:=N,bk:=D.nx} σ2 H2):=by
  refine⟨fun i m σ H=>m=kvs.length - i∧i≤kvs.length∧Pv i σ H,⟨kvs.length,by simp,Nat.zero_le _,h0⟩,?_⟩
  rintro i m σ H ⟨rfl,hi,p⟩
  have q:=hl i σ H p;by_cases hlt:i<kvs.length
  · refine .inr ⟨⟨hlt,q⟩,Pv (i+1),fun σ' H' p' =>⟨kvs.length - (i+1),by omega,rfl,hlt,p'⟩,fun x H' y=> ?_⟩
    obtain⟨T,k,v,rfl,hT,rfl,e⟩:=y;exact hs i k v T σ _ e hT p
  · have e:i=kvs.length:=by omega
    subst e;exact .inl ⟨⟨Nat.le_refl _,q⟩,hd σ H p⟩
theorem call_list_ofK {K:PySem.W.Frag} (hK:X.K=K):CallR X (.type "list") (fun xs H Q=>∃p ys,xs=[.ref p]∧(SqL K H p ys∨SqT K H p ys)∧∀l,H l=none→Q (.ref l) (upd H l (.lst ys))):=by
  subst hK;exact call_list_of
theorem pairs_of {H:Hp}:∀{ys:List V},(∀(i:Nat) v,ys[i]? =some v→∃t k w,v= .ref t∧H t=some (.tup [kV k,w]))→∃kvs,PairsAt H ys kvs
  |[],_=>⟨[],rfl,fun i k v e=>by simp at e⟩
  | y ::r,h=>by
    obtain⟨t,k,w,rfl,e⟩:=h 0 y rfl;obtain⟨kvs,hl,hk⟩:=pairs_of (ys:=r) fun i v e=>h (i+1) v (by simpa using e);refine⟨(k,w)::kvs,by rw[List.length_cons,List.length_cons,hl],fun i k' v' e' => ?_⟩
    cases i with
    | zero=>
      simp at e';obtain⟨rfl,rfl⟩:=e';exact⟨t,rfl,e⟩
    | succ i=>
      obtain⟨a,e1,e2⟩:=hk i k' v' (by simpa using e');exact⟨a,by simpa using e1,e2⟩
end
end L2
namespace L2
open PySem PySem.Spec PyProof.Rows
theorem range_down {n:Nat}:∀i∈sliceRange ((n:Int) - 1) (max (-1) (min 0 ((n:Int) - 1))) (-1),1≤i:=by
  intro i hi;unfold sliceRange at hi;obtain⟨k,hk,rfl⟩:=List.mem_map.mp hi;have hk:=List.mem_range.mp hk;rw[if_neg (by decide)] at hk;by_cases hn:(n:Int) - 1>max (-1) (min 0 ((n:Int) - 1))
  · rw[if_pos hn] at hk
    have e:((n:Int) - 1 - max (-1) (min 0 ((n:Int) - 1)) - -1 - 1) / (- -1)=(n:Int) - 1:=by
      have h1: - -1=(1:Int):=by decide
      rw[h1,Int.ediv_one];omega
    rw[e] at hk;omega
  · rw[if_neg hn] at hk
    simp at hk
section
variable{X:Cx}{e hi stp:Expr}{te th ts:TE}{pos p2:Pos}
def tRev0 (K:PySem.W.Frag) (te th ts:TE):TE:=fun σ H Q=>te σ H fun x H1=>tPart th σ H1 fun o1 H2=>tPart ts σ H2 fun o H3=>∃a xs,x= .ref a∧o1=some 0∧o=some (-1)∧SqL K H3 a xs∧
  ∀p zs,H3 p=none→zs.length≤xs.length→(∀z∈zs,∃i:Nat,1≤i∧xs[i]? =some z)→Q (.ref p) (upd H3 p (.lst zs))
theorem pe_rev0 (he:PE X e te) (hhi:PE X hi th) (hst:PE X stp ts):PE X (.Subscript e (.Slice none (some hi) (some stp) p2) pos) (tRev0 X.K te th ts):=by
  intro pins s σ H Q I h;refine Subscript_ (thn (he pins s σ H _ I h) fun v s1 ⟨x,H1,I1,r1,q1⟩=> ?_);refine wpAny_Slice ?_;rw[evalPart_none];refine wpAny_pure ?_;refine thn (po_some hhi pins s1 σ H1 _ I1 q1) fun vl s2 ⟨o1,H2,I2,pl,q2⟩=> ?_;refine thn (po_some hst pins s2 σ H2 _ I2 q2) fun vs s3 ⟨o,H3,I3,ps,a,xs,hx,ho1,ho,hq,q⟩=> ?_;subst ho ho1 hx;cases r1;have I4:Inv X pins σ H3 {s3 with heap:=s3.heap.push {cls:= .type "slice",data:= .fields #[.none,vl,vs]}}:=I3.kept (t' :=s3.toks) fun b ob q=>Heap.get?_push_of_some _ q;obtain⟨its,r,ht,hz⟩:=I4.list hq;have hlen:=r.length;show wpAny (model X.prog X.w) X.A (subscriptTail e (.Slice none (some hi) (some stp) p2) (.ref a) (.ref s3.heap.objs.size)) (EP X pins σ Q) X.xe {s3 with heap:=s3.heap.push {cls:= .type "slice",data:= .fields #[.none,vl,vs]}};refine tail_any (ops:=[.ref a,.ref s3.heap.objs.size]) ht.isList.typeIs slot_list_getitem.lookup ?_ (by with_unfolding_all rfl);refine wpAny_getItem_list_slice ht.isList (Heap.IsSliceOf.new ..) .none pl ps (by simp) ?_ (by rw[List.size_toArray]<;>omega);have hzl:(sliceRange ((its.length:Int) - 1) (max (-1) (min 0 ((its.length:Int) - 1))) (-1)).length≤its.length:=sliceRange_length_le _ _ _ _ (fun z=>absurd z (by decide)) fun _=>by omega
  have hpick:slicePick its.toArray none (some 0) (some (-1))=((sliceRange ((its.length:Int) - 1) (max (-1) (min 0 ((its.length:Int) - 1))) (-1)).filterMap (its[·]?)).toArray:=by
    unfold slicePick;rw[List.size_toArray]
    congr 2
    funext k
    simp
  rw[hpick];have hzs:((sliceRange ((its.length:Int) - 1) (max (-1) (min 0 ((its.length:Int) - 1))) (-1)).filterMap (xs[·]?)).length≤xs.length:=Nat.le_trans (List.length_filterMap_le _ _) (by omega);refine⟨.ref _,_,I4.laid (t' :=s3.toks) (o:= .lst ((sliceRange ((its.length:Int) - 1) (max (-1) (min 0 ((its.length:Int) - 1))) (-1)).filterMap (xs[·]?))) (fun b ob q=>Heap.get?_push_of_some _ q) (Nat.le_refl _) ⟨by omega,_,0,vals_pick r _,Heap.get?_push_size _ rfl⟩,rfl,q _ _ ?_ hzs ?_⟩
  · exact I4.hok.fresh (Nat.le_refl _)
  · intro z hz
    obtain⟨n,hn,e⟩:=List.mem_filterMap.mp hz;exact⟨n,range_down n hn,e⟩
end
end L2
namespace My
open PySem L2 PyProof.Rows
theorem sc_RoomError___init__:FnScope ["self","text"] ["self","text"] (defScope s_RoomError___init__):=⟨rfl,rfl,rfl,by decide+kernel,rfl,by decide+kernel,by decide+kernel⟩
theorem sc_Gone___init__:FnScope ["self","found","by"] ["self","found","by"] (defScope s_Gone___init__):=⟨rfl,rfl,rfl,by decide+kernel,rfl,by decide+kernel,by decide+kernel⟩
theorem sc_is_number:FnScope ["thing"] ["thing"] (defScope s_is_number):=⟨rfl,rfl,rfl,by decide+kernel,rfl,by decide+kernel,by decide+kernel⟩
theorem sc_is_whole:FnScope ["thing","low","high"] ["thing","low","high"] (defScope s_is_whole):=⟨rfl,rfl,rfl,by decide+kernel,rfl,by decide+kernel,by decide+kernel⟩
theorem sc_is_count:FnScope ["thing"] ["thing"] (defScope s_is_count):=⟨rfl,rfl,rfl,by decide+kernel,rfl,by decide+kernel,by decide+kernel⟩
theorem sc_is_pair:FnScope ["thing"] ["thing"] (defScope s_is_pair):=⟨rfl,rfl,rfl,by decide+kernel,rfl,by decide+kernel,by decide+kernel⟩
theorem sc_Ring___init__:FnScope ["self","house","frame","many"] ["self","house","frame","many"] (defScope s_Ring___init__):=⟨rfl,rfl,rfl,by decide+kernel,rfl,by decide+kernel,by decide+kernel⟩
theorem sc_Ring_turn:FnScope ["self","ended","standing","number"] ["self"] (defScope s_Ring_turn):=⟨rfl,rfl,rfl,by decide+kernel,rfl,by decide+kernel,by decide+kernel⟩
theorem sc_Ring_frames:FnScope ["self"] ["self"] (defScope s_Ring_frames):=⟨rfl,rfl,rfl,by decide+kernel,rfl,by decide+kernel,by decide+kernel⟩
theorem sc_Ring_last:FnScope ["self","standing"] ["self"] (defScope s_Ring_last):=⟨rfl,rfl,rfl,by decide+kernel,rfl,by decide+kernel,by decide+kernel⟩
theorem sc_Frames___init__:FnScope ["self"] ["self"] (defScope s_Frames___init__):=⟨rfl,rfl,rfl,by decide+kernel,rfl,by decide+kernel,by decide+kernel⟩
theorem sc_Frames_begin:FnScope ["self","frame"] ["self","frame"] (defScope s_Frames_begin):=⟨rfl,rfl,rfl,by decide+kernel,rfl,by decide+kernel,by decide+kernel⟩
theorem sc_Frames_finish:FnScope ["self","frame","ended","number"] ["self","frame"] (defScope s_Frames_finish):=⟨rfl,rfl,rfl,by decide+kernel,rfl,by decide+kernel,by decide+kernel⟩
theorem sc_Frames_part:FnScope ["self","frame"] ["self","frame"] (defScope s_Frames_part):=⟨rfl,rfl,rfl,by decide+kernel,rfl,by decide+kernel,by decide+kernel⟩
theorem sc_Frames_row:FnScope ["self","frame","outward","step"] ["self","frame"] (defScope s_Frames_row):=⟨rfl,rfl,rfl,by decide+kernel,rfl,by decide+kernel,by decide+kernel⟩
theorem sc_Frames_ended_by:FnScope ["self","frame"] ["self","frame"] (defScope s_Frames_ended_by):=⟨rfl,rfl,rfl,by decide+kernel,rfl,by decide+kernel,by decide+kernel⟩
theorem sc_Frames_stands:FnScope ["self","thing"] ["self","thing"] (defScope s_Frames_stands):=⟨rfl,rfl,rfl,by decide+kernel,rfl,by decide+kernel,by decide+kernel⟩
theorem sc_Frames_standing:FnScope ["self"] ["self"] (defScope s_Frames_standing):=⟨rfl,rfl,rfl,by decide+kernel,rfl,by decide+kernel,by decide+kernel⟩
theorem sc_Frames_begun:FnScope ["self"] ["self"] (defScope s_Frames_begun):=⟨rfl,rfl,rfl,by decide+kernel,rfl,by decide+kernel,by decide+kernel⟩
theorem sc_Frames_was_begun:FnScope ["self","thing"] ["self","thing"] (defScope s_Frames_was_begun):=⟨rfl,rfl,rfl,by decide+kernel,rfl,by decide+kernel,by decide+kernel⟩
theorem sc_Frames_want_begun:FnScope ["self","thing"] ["self","thing"] (defScope s_Frames_want_begun):=⟨rfl,rfl,rfl,by decide+kernel,rfl,by decide+kernel,by decide+kernel⟩
theorem sc_Frames_want_standing:FnScope ["self","thing"] ["self","thing"] (defScope s_Frames_want_standing):=⟨rfl,rfl,rfl,by decide+kernel,rfl,by decide+kernel,by decide+kernel⟩
theorem sc_Frames_want_beginning:FnScope ["self","thing"] ["self","thing"] (defScope s_Frames_want_beginning):=⟨rfl,rfl,rfl,by decide+kernel,rfl,by decide+kernel,by decide+kernel⟩
theorem sc_Frames_want_finishing:FnScope ["self","thing"] ["self","thing"] (defScope s_Frames_want_finishing):=⟨rfl,rfl,rfl,by decide+kernel,rfl,by decide+kernel,by decide+kernel⟩
theorem sc_House___init__:FnScope ["self","limit"] ["self","limit"] (defScope s_House___init__):=⟨rfl,rfl,rfl,by decide+kernel,rfl,by decide+kernel,by decide+kernel⟩
theorem sc_House_make:FnScope ["self","frame","size","spare","place","floor"] ["self","frame","size"] (defScope s_House_make):=⟨rfl,rfl,rfl,by decide+kernel,rfl,by decide+kernel,by decide+kernel⟩
theorem sc_House_size:FnScope ["self","way"] ["self","way"] (defScope s_House_size):=⟨rfl,rfl,rfl,by decide+kernel,rfl,by decide+kernel,by decide+kernel⟩
theorem sc_House_used:FnScope ["self"] ["self"] (defScope s_House_used):=⟨rfl,rfl,rfl,by decide+kernel,rfl,by decide+kernel,by decide+kernel⟩
theorem sc_House_left:FnScope ["self"] ["self"] (defScope s_House_left):=⟨rfl,rfl,rfl,by decide+kernel,rfl,by decide+kernel,by decide+kernel⟩
theorem sc_House_greatest:FnScope ["self"] ["self"] (defScope s_House_greatest):=⟨rfl,rfl,rfl,by decide+kernel,rfl,by decide+kernel,by decide+kernel⟩
theorem sc_House_twin:FnScope ["self","other","frame","floor"] ["self"] (defScope s_House_twin):=⟨rfl,rfl,rfl,by decide+kernel,rfl,by decide+kernel,by decide+kernel⟩
theorem sc_House_is_way:FnScope ["self","thing"] ["self","thing"] (defScope s_House_is_way):=⟨rfl,rfl,rfl,by decide+kernel,rfl,by decide+kernel,by decide+kernel⟩
theorem sc_House_want_room:FnScope ["self","thing","taker"] ["self","thing"] (defScope s_House_want_room):=⟨rfl,rfl,rfl,by decide+kernel,rfl,by decide+kernel,by decide+kernel⟩
theorem sc__law_cell:FnScope ["_law_script","_law_k"] ["_law_script","_law_k"] (defScope s__law_cell):=⟨rfl,rfl,rfl,by decide+kernel,rfl,by decide+kernel,by decide+kernel⟩
theorem sc__law_box:FnScope ["_law_cell_here"] ["_law_cell_here"] (defScope s__law_box):=⟨rfl,rfl,rfl,by decide+kernel,rfl,by decide+kernel,by decide+kernel⟩
theorem sc__law_take:FnScope ["_law_box_here","_law_many","_law_digit","_law_one_here","_law_other"] ["_law_box_here","_law_many"] (defScope s__law_take):=⟨rfl,rfl,rfl,by decide+kernel,rfl,by decide+kernel,by decide+kernel⟩
theorem sc__law_house:FnScope ["_law_limit"] ["_law_limit"] (defScope s__law_house):=⟨rfl,rfl,rfl,by decide+kernel,rfl,by decide+kernel,by decide+kernel⟩
theorem sc__law_standing:FnScope ["_law_model"] ["_law_model"] (defScope s__law_standing):=⟨rfl,rfl,rfl,by decide+kernel,rfl,by decide+kernel,by decide+kernel⟩
theorem sc__law_row:FnScope ["_law_model","_law_frame","_law_found"] ["_law_model","_law_frame"] (defScope s__law_row):=⟨rfl,rfl,rfl,by decide+kernel,rfl,by decide+kernel,by decide+kernel⟩
theorem sc__law_begin:FnScope ["_law_model","_law_frame"] ["_law_model","_law_frame"] (defScope s__law_begin):=⟨rfl,rfl,rfl,by decide+kernel,rfl,by decide+kernel,by decide+kernel⟩
theorem sc__law_finish:FnScope ["_law_model","_law_frame","_law_ended","_law_k"] ["_law_model","_law_frame"] (defScope s__law_finish):=⟨rfl,rfl,rfl,by decide+kernel,rfl,by decide+kernel,by decide+kernel⟩
theorem sc__law_given:FnScope ["_law_model","_law_frame"] ["_law_model","_law_frame"] (defScope s__law_given):=⟨rfl,rfl,rfl,by decide+kernel,rfl,by decide+kernel,by decide+kernel⟩
theorem sc__law_used:FnScope ["_law_model"] ["_law_model"] (defScope s__law_used):=⟨rfl,rfl,rfl,by decide+kernel,rfl,by decide+kernel,by decide+kernel⟩
theorem sc__law_make:FnScope ["_law_model","_law_frame","_law_size","_law_way"] ["_law_model","_law_frame","_law_size"] (defScope s__law_make):=⟨rfl,rfl,rfl,by decide+kernel,rfl,by decide+kernel,by decide+kernel⟩
theorem sc__law_one:FnScope ["_law_box_here","_law_some","_law_way","_law_at"] ["_law_box_here","_law_some"] (defScope s__law_one):=⟨rfl,rfl,rfl,by decide+kernel,rfl,by decide+kernel,by decide+kernel⟩
theorem sc__law_frames:FnScope ["_law_model","_law_ring"] ["_law_model","_law_ring"] (defScope s__law_frames):=⟨rfl,rfl,rfl,by decide+kernel,rfl,by decide+kernel,by decide+kernel⟩
theorem sc__law_turned:FnScope ["_law_model","_law_ring","_law_own","_law_ended","_law_new"] ["_law_model","_law_ring"] (defScope s__law_turned):=⟨rfl,rfl,rfl,by decide+kernel,rfl,by decide+kernel,by decide+kernel⟩
theorem sc__law_deed:FnScope ["_law_box_here","_law_house_here","_law_model","_law_rings","_law_rows","_law_act","_law_at","_law_near","_law_frame","_law_size","_law_found"] ["_law_box_here","_law_house_here","_law_model","_law_rings","_law_rows"] (defScope s__law_deed):=⟨rfl,rfl,rfl,by decide+kernel,rfl,by decide+kernel,by decide+kernel⟩
theorem sc__law_touched:FnScope ["_law_house_here","_law_way","_law_found","e"] ["_law_house_here","_law_way"] (defScope s__law_touched):=⟨rfl,rfl,rfl,by decide+kernel,rfl,by decide+kernel,by decide+kernel⟩
theorem sc__law_right:FnScope ["_law_house_here","_law_model","_law_rings","_law_rows","_law_ring","_law_row_here","_law_due","_law_turn","_law_found","_law_way"] ["_law_house_here","_law_model","_law_rings","_law_rows"] (defScope s__law_right):=⟨rfl,rfl,rfl,by decide+kernel,rfl,by decide+kernel,by decide+kernel⟩
theorem sc__law_begun:FnScope ["_law_box_here","_law_flat","_law_house_here","_law_model","_law_rings","_law_rows","_law_turn","_law_outer","_law_many"] ["_law_box_here"] (defScope s__law_begun):=⟨rfl,rfl,rfl,by decide+kernel,rfl,by decide+kernel,by decide+kernel⟩
theorem sc__law_twinned:FnScope ["_law_house_here","_law_twin","_law_frame"] ["_law_house_here"] (defScope s__law_twinned):=⟨rfl,rfl,rfl,by decide+kernel,rfl,by decide+kernel,by decide+kernel⟩
theorem sc_law:FnScope ["_law_script","_law_box_here","_law_both","_law_k","_law_at","_law_twins","_law_turn","_law_house_here","_law_model","_law_rings","_law_rows"] ["_law_script"] (defScope s_law):=⟨rfl,rfl,rfl,by decide+kernel,rfl,by decide+kernel,by decide+kernel⟩
structure Adr where
  a_RoomError___init__:Addr
  d_RoomError___init__:FuncData
  a_Gone___init__:Addr
  d_Gone___init__:FuncData
  a_is_number:Addr
  d_is_number:FuncData
  a_is_whole:Addr
  d_is_whole:FuncData
  a_is_count:Addr
  d_is_count:FuncData
  a_is_pair:Addr
  d_is_pair:FuncData
  a_Ring___init__:Addr
  d_Ring___init__:FuncData
  a_Ring_turn:Addr
  d_Ring_turn:FuncData
  a_Ring_frames:Addr
  d_Ring_frames:FuncData
  a_Ring_last:Addr
  d_Ring_last:FuncData
  a_Frames___init__:Addr
  d_Frames___init__:FuncData
  a_Frames_begin:Addr
  d_Frames_begin:FuncData
  a_Frames_finish:Addr
  d_Frames_finish:FuncData
  a_Frames_part:Addr
  d_Frames_part:FuncData
  a_Frames_row:Addr
  d_Frames_row:FuncData
  a_Frames_ended_by:Addr
  d_Frames_ended_by:FuncData
  a_Frames_stands:Addr
  d_Frames_stands:FuncData
  a_Frames_standing:Addr
  d_Frames_standing:FuncData
  a_Frames_begun:Addr
  d_Frames_begun:FuncData
  a_Frames_was_begun:Addr
  d_Frames_was_begun:FuncData
  a_Frames_want_begun:Addr
  d_Frames_want_begun:FuncData
  a_Frames_want_standing:Addr
  d_Frames_want_standing:FuncData
  a_Frames_want_beginning:Addr
  d_Frames_want_beginning:FuncData
  a_Frames_want_finishing:Addr
  d_Frames_want_finishing:FuncData
  a_House___init__:Addr
  d_House___init__:FuncData
  a_House_make:Addr
  d_House_make:FuncData
  a_House_size:Addr
  d_House_size:FuncData
  a_House_used:Addr
  d_House_used:FuncData
  a_House_left:Addr
  d_House_left:FuncData
  a_House_greatest:Addr
  d_House_greatest:FuncData
  a_House_twin:Addr
  d_House_twin:FuncData
  a_House_is_way:Addr
  d_House_is_way:FuncData
  a_House_want_room:Addr
  d_House_want_room:FuncData
  a__law_cell:Addr
  d__law_cell:FuncData
  a__law_box:Addr
  d__law_box:FuncData
  a__law_take:Addr
  d__law_take:FuncData
  a__law_house:Addr
  d__law_house:FuncData
  a__law_standing:Addr
  d__law_standing:FuncData
  a__law_row:Addr
  d__law_row:FuncData
  a__law_begin:Addr
  d__law_begin:FuncData
  a__law_finish:Addr
  d__law_finish:FuncData
  a__law_given:Addr
  d__law_given:FuncData
  a__law_used:Addr
  d__law_used:FuncData
  a__law_make:Addr
  d__law_make:FuncData
  a__law_one:Addr
  d__law_one:FuncData
  a__law_frames:Addr
  d__law_frames:FuncData
  a__law_turned:Addr
  d__law_turned:FuncData
  a__law_deed:Addr
  d__law_deed:FuncData
  a__law_touched:Addr
  d__law_touched:FuncData
  a__law_right:Addr
  d__law_right:FuncData
  a__law_begun:Addr
  d__law_begun:FuncData
  a__law_twinned:Addr
  d__law_twinned:FuncData
  a_law:Addr
  d_law:FuncData
  a_RoomError:Addr
  a_Gone:Addr
  a_Ring:Addr
  a_Frames:Addr
  a_House:Addr
structure Txt (K:PySem.W.Frag) (mg:Str→Option Value) (A:Adr):Prop where
  F_RoomError___init__:Fun K "__init__" "RoomError.__init__" s_RoomError___init__ A.a_RoomError___init__ A.d_RoomError___init__
  b_RoomError___init__:Binds K A.d_RoomError___init__ ["self","text"] []
  F_Gone___init__:Fun K "__init__" "Gone.__init__" s_Gone___init__ A.a_Gone___init__ A.d_Gone___init__
  b_Gone___init__:Binds K A.d_Gone___init__ ["self","found","by"] []
  m_is_number:mg "is_number"=some (.ref A.a_is_number)
  F_is_number:Fun K "is_number" "is_number" s_is_number A.a_is_number A.d_is_number
  b_is_number:Binds K A.d_is_number ["thing"] []
  m_is_whole:mg "is_whole"=some (.ref A.a_is_whole)
  F_is_whole:Fun K "is_whole" "is_whole" s_is_whole A.a_is_whole A.d_is_whole
  b_is_whole:Binds K A.d_is_whole ["thing","low","high"] []
  m_is_count:mg "is_count"=some (.ref A.a_is_count)
  F_is_count:Fun K "is_count" "is_count" s_is_count A.a_is_count A.d_is_count
  b_is_count:Binds K A.d_is_count ["thing"] []
  m_is_pair:mg "is_pair"=some (.ref A.a_is_pair)
  F_is_pair:Fun K "is_pair" "is_pair" s_is_pair A.a_is_pair A.d_is_pair
  b_is_pair:Binds K A.d_is_pair ["thing"] []
  F_Ring___init__:Fun K "__init__" "Ring.__init__" s_Ring___init__ A.a_Ring___init__ A.d_Ring___init__
  b_Ring___init__:Binds K A.d_Ring___init__ ["self","house","frame","many"] []
  F_Ring_turn:Fun K "turn" "Ring.turn" s_Ring_turn A.a_Ring_turn A.d_Ring_turn
  b_Ring_turn:Binds K A.d_Ring_turn ["self"] []
  t_Ring_turn:Meth K A.a_Ring "turn" A.a_Ring_turn
  F_Ring_frames:Fun K "frames" "Ring.frames" s_Ring_frames A.a_Ring_frames A.d_Ring_frames
  b_Ring_frames:Binds K A.d_Ring_frames ["self"] []
  t_Ring_frames:Meth K A.a_Ring "frames" A.a_Ring_frames
  F_Ring_last:Fun K "last" "Ring.last" s_Ring_last A.a_Ring_last A.d_Ring_last
  b_Ring_last:Binds K A.d_Ring_last ["self"] []
  t_Ring_last:Meth K A.a_Ring "last" A.a_Ring_last
  F_Frames___init__:Fun K "__init__" "Frames.__init__" s_Frames___init__ A.a_Frames___init__ A.d_Frames___init__
  b_Frames___init__:Binds K A.d_Frames___init__ ["self"] []
  F_Frames_begin:Fun K "begin" "Frames.begin" s_Frames_begin A.a_Frames_begin A.d_Frames_begin
  b_Frames_begin:Binds K A.d_Frames_begin ["self","frame"] []
  t_Frames_begin:Meth K A.a_House "begin" A.a_Frames_begin
  F_Frames_finish:Fun K "finish" "Frames.finish" s_Frames_finish A.a_Frames_finish A.d_Frames_finish
  b_Frames_finish:Binds K A.d_Frames_finish ["self","frame"] []
  t_Frames_finish:Meth K A.a_House "finish" A.a_Frames_finish
  F_Frames_part:Fun K "part" "Frames.part" s_Frames_part A.a_Frames_part A.d_Frames_part
  b_Frames_part:Binds K A.d_Frames_part ["self","frame"] []
  t_Frames_part:Meth K A.a_House "part" A.a_Frames_part
  F_Frames_row:Fun K "row" "Frames.row" s_Frames_row A.a_Frames_row A.d_Frames_row
  b_Frames_row:Binds K A.d_Frames_row ["self","frame"] []
  t_Frames_row:Meth K A.a_House "row" A.a_Frames_row
  F_Frames_ended_by:Fun K "ended_by" "Frames.ended_by" s_Frames_ended_by A.a_Frames_ended_by A.d_Frames_ended_by
  b_Frames_ended_by:Binds K A.d_Frames_ended_by ["self","frame"] []
  t_Frames_ended_by:Meth K A.a_House "ended_by" A.a_Frames_ended_by
  F_Frames_stands:Fun K "stands" "Frames.stands" s_Frames_stands A.a_Frames_stands A.d_Frames_stands
  b_Frames_stands:Binds K A.d_Frames_stands ["self","thing"] []
  t_Frames_stands:Meth K A.a_House "stands" A.a_Frames_stands
  F_Frames_standing:Fun K "standing" "Frames.standing" s_Frames_standing A.a_Frames_standing A.d_Frames_standing
  b_Frames_standing:Binds K A.d_Frames_standing ["self"] []
  t_Frames_standing:Meth K A.a_House "standing" A.a_Frames_standing
  F_Frames_begun:Fun K "begun" "Frames.begun" s_Frames_begun A.a_Frames_begun A.d_Frames_begun
  b_Frames_begun:Binds K A.d_Frames_begun ["self"] []
  t_Frames_begun:Meth K A.a_House "begun" A.a_Frames_begun
  F_Frames_was_begun:Fun K "was_begun" "Frames.was_begun" s_Frames_was_begun A.a_Frames_was_begun A.d_Frames_was_begun
  b_Frames_was_begun:Binds K A.d_Frames_was_begun ["self","thing"] []
  t_Frames_was_begun:Meth K A.a_House "was_begun" A.a_Frames_was_begun
  F_Frames_want_begun:Fun K "want_begun" "Frames.want_begun" s_Frames_want_begun A.a_Frames_want_begun A.d_Frames_want_begun
  b_Frames_want_begun:Binds K A.d_Frames_want_begun ["self","thing"] []
  t_Frames_want_begun:Meth K A.a_House "want_begun" A.a_Frames_want_begun
  F_Frames_want_standing:Fun K "want_standing" "Frames.want_standing" s_Frames_want_standing A.a_Frames_want_standing A.d_Frames_want_standing
  b_Frames_want_standing:Binds K A.d_Frames_want_standing ["self","thing"] []
  t_Frames_want_standing:Meth K A.a_House "want_standing" A.a_Frames_want_standing
  F_Frames_want_beginning:Fun K "want_beginning" "Frames.want_beginning" s_Frames_want_beginning A.a_Frames_want_beginning A.d_Frames_want_beginning
  b_Frames_want_beginning:Binds K A.d_Frames_want_beginning ["self","thing"] []
  t_Frames_want_beginning:Meth K A.a_House "want_beginning" A.a_Frames_want_beginning
  F_Frames_want_finishing:Fun K "want_finishing" "Frames.want_finishing" s_Frames_want_finishing A.a_Frames_want_finishing A.d_Frames_want_finishing
  b_Frames_want_finishing:Binds K A.d_Frames_want_finishing ["self","thing"] []
  t_Frames_want_finishing:Meth K A.a_House "want_finishing" A.a_Frames_want_finishing
  F_House___init__:Fun K "__init__" "House.__init__" s_House___init__ A.a_House___init__ A.d_House___init__
  b_House___init__:Binds K A.d_House___init__ ["self","limit"] []
  F_House_make:Fun K "make" "House.make" s_House_make A.a_House_make A.d_House_make
  b_House_make:Binds K A.d_House_make ["self","frame","size"] []
  t_House_make:Meth K A.a_House "make" A.a_House_make
  F_House_size:Fun K "size" "House.size" s_House_size A.a_House_size A.d_House_size
  b_House_size:Binds K A.d_House_size ["self","way"] []
  t_House_size:Meth K A.a_House "size" A.a_House_size
  F_House_used:Fun K "used" "House.used" s_House_used A.a_House_used A.d_House_used
  b_House_used:Binds K A.d_House_used ["self"] []
  t_House_used:Meth K A.a_House "used" A.a_House_used
  F_House_left:Fun K "left" "House.left" s_House_left A.a_House_left A.d_House_left
  b_House_left:Binds K A.d_House_left ["self"] []
  t_House_left:Meth K A.a_House "left" A.a_House_left
  F_House_greatest:Fun K "greatest" "House.greatest" s_House_greatest A.a_House_greatest A.d_House_greatest
  b_House_greatest:Binds K A.d_House_greatest ["self"] []
  t_House_greatest:Meth K A.a_House "greatest" A.a_House_greatest
  F_House_twin:Fun K "twin" "House.twin" s_House_twin A.a_House_twin A.d_House_twin
  b_House_twin:Binds K A.d_House_twin ["self"] []
  t_House_twin:Meth K A.a_House "twin" A.a_House_twin
  F_House_is_way:Fun K "is_way" "House.is_way" s_House_is_way A.a_House_is_way A.d_House_is_way
  b_House_is_way:Binds K A.d_House_is_way ["self","thing"] []
  t_House_is_way:Meth K A.a_House "is_way" A.a_House_is_way
  F_House_want_room:Fun K "want_room" "House.want_room" s_House_want_room A.a_House_want_room A.d_House_want_room
  b_House_want_room:Binds K A.d_House_want_room ["self","thing"] []
  t_House_want_room:Meth K A.a_House "want_room" A.a_House_want_room
  m__law_cell:mg "_law_cell"=some (.ref A.a__law_cell)
  F__law_cell:Fun K "_law_cell" "_law_cell" s__law_cell A.a__law_cell A.d__law_cell
  b__law_cell:Binds K A.d__law_cell ["_law_script","_law_k"] []
  m__law_box:mg "_law_box"=some (.ref A.a__law_box)
  F__law_box:Fun K "_law_box" "_law_box" s__law_box A.a__law_box A.d__law_box
  b__law_box:Binds K A.d__law_box ["_law_cell_here"] []
  m__law_take:mg "_law_take"=some (.ref A.a__law_take)
  F__law_take:Fun K "_law_take" "_law_take" s__law_take A.a__law_take A.d__law_take
  b__law_take:Binds K A.d__law_take ["_law_box_here","_law_many"] []
  m__law_house:mg "_law_house"=some (.ref A.a__law_house)
  F__law_house:Fun K "_law_house" "_law_house" s__law_house A.a__law_house A.d__law_house
  b__law_house:Binds K A.d__law_house ["_law_limit"] []
  m__law_standing:mg "_law_standing"=some (.ref A.a__law_standing)
  F__law_standing:Fun K "_law_standing" "_law_standing" s__law_standing A.a__law_standing A.d__law_standing
  b__law_standing:Binds K A.d__law_standing ["_law_model"] []
  m__law_row:mg "_law_row"=some (.ref A.a__law_row)
  F__law_row:Fun K "_law_row" "_law_row" s__law_row A.a__law_row A.d__law_row
  b__law_row:Binds K A.d__law_row ["_law_model","_law_frame"] []
  m__law_begin:mg "_law_begin"=some (.ref A.a__law_begin)
  F__law_begin:Fun K "_law_begin" "_law_begin" s__law_begin A.a__law_begin A.d__law_begin
  b__law_begin:Binds K A.d__law_begin ["_law_model","_law_frame"] []
  m__law_finish:mg "_law_finish"=some (.ref A.a__law_finish)
  F__law_finish:Fun K "_law_finish" "_law_finish" s__law_finish A.a__law_finish A.d__law_finish
  b__law_finish:Binds K A.d__law_finish ["_law_model","_law_frame"] []
  m__law_given:mg "_law_given"=some (.ref A.a__law_given)
  F__law_given:Fun K "_law_given" "_law_given" s__law_given A.a__law_given A.d__law_given
  b__law_given:Binds K A.d__law_given ["_law_model","_law_frame"] []
  m__law_used:mg "_law_used"=some (.ref A.a__law_used)
  F__law_used:Fun K "_law_used" "_law_used" s__law_used A.a__law_used A.d__law_used
  b__law_used:Binds K A.d__law_used ["_law_model"] []
  m__law_make:mg "_law_make"=some (.ref A.a__law_make)
  F__law_make:Fun K "_law_make" "_law_make" s__law_make A.a__law_make A.d__law_make
  b__law_make:Binds K A.d__law_make ["_law_model","_law_frame","_law_size"] []
  m__law_one:mg "_law_one"=some (.ref A.a__law_one)
  F__law_one:Fun K "_law_one" "_law_one" s__law_one A.a__law_one A.d__law_one
  b__law_one:Binds K A.d__law_one ["_law_box_here","_law_some"] []
  m__law_frames:mg "_law_frames"=some (.ref A.a__law_frames)
  F__law_frames:Fun K "_law_frames" "_law_frames" s__law_frames A.a__law_frames A.d__law_frames
  b__law_frames:Binds K A.d__law_frames ["_law_model","_law_ring"] []
  m__law_turned:mg "_law_turned"=some (.ref A.a__law_turned)
  F__law_turned:Fun K "_law_turned" "_law_turned" s__law_turned A.a__law_turned A.d__law_turned
  b__law_turned:Binds K A.d__law_turned ["_law_model","_law_ring"] []
  m__law_deed:mg "_law_deed"=some (.ref A.a__law_deed)
  F__law_deed:Fun K "_law_deed" "_law_deed" s__law_deed A.a__law_deed A.d__law_deed
  b__law_deed:Binds K A.d__law_deed ["_law_box_here","_law_house_here","_law_model","_law_rings","_law_rows"] []
  m__law_touched:mg "_law_touched"=some (.ref A.a__law_touched)
  F__law_touched:Fun K "_law_touched" "_law_touched" s__law_touched A.a__law_touched A.d__law_touched
  b__law_touched:Binds K A.d__law_touched ["_law_house_here","_law_way"] []
  m__law_right:mg "_law_right"=some (.ref A.a__law_right)
  F__law_right:Fun K "_law_right" "_law_right" s__law_right A.a__law_right A.d__law_right
  b__law_right:Binds K A.d__law_right ["_law_house_here","_law_model","_law_rings","_law_rows"] []
  m__law_begun:mg "_law_begun"=some (.ref A.a__law_begun)
  F__law_begun:Fun K "_law_begun" "_law_begun" s__law_begun A.a__law_begun A.d__law_begun
  b__law_begun:Binds K A.d__law_begun ["_law_box_here"] []
  m__law_twinned:mg "_law_twinned"=some (.ref A.a__law_twinned)
  F__law_twinned:Fun K "_law_twinned" "_law_twinned" s__law_twinned A.a__law_twinned A.d__law_twinned
  b__law_twinned:Binds K A.d__law_twinned ["_law_house_here"] []
  m_law:mg "law"=some (.ref A.a_law)
  F_law:Fun K "law" "law" s_law A.a_law A.d_law
  b_law:Binds K A.d_law ["_law_script"] []
  m_RoomError:mg "RoomError"=some (.ref A.a_RoomError)
  X_RoomError:ExcMk K A.a_RoomError A.a_RoomError___init__
  c_RoomError___init__:ClsFn K A.a_RoomError "__init__" A.a_RoomError___init__
  e_RoomError:ExcF K A.a_RoomError
  g_RoomError:ExcG K A.a_RoomError
  U_RoomError_RoomError:Under K A.a_RoomError A.a_RoomError
  m_Gone:mg "Gone"=some (.ref A.a_Gone)
  X_Gone:ExcMk K A.a_Gone A.a_Gone___init__
  c_Gone___init__:ClsFn K A.a_Gone "__init__" A.a_Gone___init__
  e_Gone:ExcF K A.a_Gone
  g_Gone:ExcG K A.a_Gone
  U_Gone_Gone:Under K A.a_Gone A.a_Gone
  U_Gone_RoomError:Under K A.a_Gone A.a_RoomError
  n_Gone_by:NoAttr K A.a_Gone "by"
  n_Gone_found:NoAttr K A.a_Gone "found"
  m_Ring:mg "Ring"=some (.ref A.a_Ring)
  K_Ring:Cls K A.a_Ring
  M_Ring:Mk K A.a_Ring A.a_Ring___init__
  n_Ring_frame:NoAttr K A.a_Ring "frame"
  n_Ring_house:NoAttr K A.a_Ring "house"
  n_Ring_many:NoAttr K A.a_Ring "many"
  n_Ring_turned:NoAttr K A.a_Ring "turned"
  m_Frames:mg "Frames"=some (.ref A.a_Frames)
  K_Frames:Cls K A.a_Frames
  M_Frames:Mk K A.a_Frames A.a_Frames___init__
  c_Frames___init__:ClsFn K A.a_Frames "__init__" A.a_Frames___init__
  n_Frames_parents:NoAttr K A.a_Frames "parents"
  n_Frames_takers:NoAttr K A.a_Frames "takers"
  m_House:mg "House"=some (.ref A.a_House)
  K_House:Cls K A.a_House
  M_House:Mk K A.a_House A.a_House___init__
  n_House_bound:NoAttr K A.a_House "bound"
  n_House_floors:NoAttr K A.a_House "floors"
  n_House_lengths:NoAttr K A.a_House "lengths"
  n_House_parents:NoAttr K A.a_House "parents"
  n_House_peak:NoAttr K A.a_House "peak"
  n_House_takers:NoAttr K A.a_House "takers"
  B_law:∀(s:Shared) (u:Value),BindsTo s A.d_law ⟨[u],[]⟩ [("_law_script",u)]
  z_ValueError:mg "ValueError"=none
  z_bool:mg "bool"=none
  z_dict:mg "dict"=none
  z_enumerate:mg "enumerate"=none
  z_int:mg "int"=none
  z_isinstance:mg "isinstance"=none
  z_len:mg "len"=none
  z_list:mg "list"=none
  z_max:mg "max"=none
  z_min:mg "min"=none
  z_range:mg "range"=none
  z_repr:mg "repr"=none
  z_reversed:mg "reversed"=none
  z_sum:mg "sum"=none
  z_tuple:mg "tuple"=none
  z_zip:mg "zip"=none
  u_GROUND:∃u,RelV (V.int 0) u∧mg "GROUND"=some u
  u_MOST_CELLS:∃u,RelV (V.int 1000) u∧mg "MOST_CELLS"=some u
  u_MOST_CELLS_OF_ROOM:∃u,RelV (V.int 6) u∧mg "MOST_CELLS_OF_ROOM"=some u
  u_MOST_FRAMES:∃u,RelV (V.int 100) u∧mg "MOST_FRAMES"=some u
  u_MOST_OF_RING:∃u,RelV (V.int 4) u∧mg "MOST_OF_RING"=some u
def oV:Option Nat→V
  |none=> .non
  |some n=> .int n
theorem pt_ne:¬(("parents" :Str)="takers"):=by decide+kernel
structure HX where
  bd:V
  fa:V
  la:V
  pk:V
def flds2(pa ta:Addr):List (Str×V):=putF "takers" (.ref ta) (putF "parents" (.ref pa) [])
def flds(pa ta:Addr)(z:HX):List (Str×V):=putF "peak" z.pk (putF "lengths" z.la (putF "floors" z.fa (putF "bound" z.bd (flds2 pa ta))))
theorem flds_p (pa ta:Addr) (z:HX):(flds pa ta z).lookup ("parents" :Str)=some (.ref pa):=by
  unfold flds flds2;rw[lookup_putF,if_neg (by decide+kernel),lookup_putF,if_neg (by decide+kernel),lookup_putF,if_neg (by decide+kernel),lookup_putF,if_neg (by decide+kernel),lookup_putF,if_neg pt_ne,lookup_putF,if_pos rfl]
theorem flds_t (pa ta:Addr) (z:HX):(flds pa ta z).lookup ("takers" :Str)=some (.ref ta):=by
  unfold flds flds2;rw[lookup_putF,if_neg (by decide+kernel),lookup_putF,if_neg (by decide+kernel),lookup_putF,if_neg (by decide+kernel),lookup_putF,if_neg (by decide+kernel),lookup_putF,if_pos rfl]
theorem flds_b (pa ta:Addr) (z:HX):(flds pa ta z).lookup ("bound" :Str)=some z.bd:=by
  unfold flds;rw[lookup_putF,if_neg (by decide+kernel),lookup_putF,if_neg (by decide+kernel),lookup_putF,if_neg (by decide+kernel),lookup_putF,if_pos rfl]
theorem flds_f (pa ta:Addr) (z:HX):(flds pa ta z).lookup ("floors" :Str)=some z.fa:=by
  unfold flds;rw[lookup_putF,if_neg (by decide+kernel),lookup_putF,if_neg (by decide+kernel),lookup_putF,if_pos rfl]
theorem flds_l (pa ta:Addr) (z:HX):(flds pa ta z).lookup ("lengths" :Str)=some z.la:=by
  unfold flds;rw[lookup_putF,if_neg (by decide+kernel),lookup_putF,if_pos rfl]
theorem flds_k (pa ta:Addr) (z:HX):(flds pa ta z).lookup ("peak" :Str)=some z.pk:=by
  unfold flds;rw[lookup_putF,if_pos rfl]
theorem flds_no {pa ta:Addr} {z:HX} {m:Str} (h:¬m="peak" ∧¬m="lengths" ∧¬m="floors" ∧¬m="bound" ∧¬m="takers" ∧¬m="parents"):(flds pa ta z).lookup m=none:=by
  obtain⟨h1,h2,h3,h4,h5,h6⟩:=h;unfold flds flds2;rw[lookup_putF,if_neg h1,lookup_putF,if_neg h2,lookup_putF,if_neg h3,lookup_putF,if_neg h4,lookup_putF,if_neg h5,lookup_putF,if_neg h6]
  all_goals rfl
structure FrAt (C:Addr) (H:Hp) (f pa ta:Addr) (ps ts:List (Option Nat)):Prop where
  ob:∃dx z,H f=some (.ins C dx (flds pa ta z))
  pl:H pa=some (.lst (ps.map oV))
  tl:H ta=some (.lst (ts.map oV))
  ne:pa≠ta
theorem FrAt.same {C:Addr} {H H' :Hp} {f pa ta:Addr} {ps ts:List (Option Nat)} (F:FrAt C H f pa ta ps ts) (s:Same H H'):FrAt C H' f pa ta ps ts:=by
  obtain⟨⟨dx,z,h⟩,h1,h2,h3⟩:=F;exact⟨⟨dx,z,s _ _ h⟩,s _ _ h1,s _ _ h2,h3⟩
structure WF (ps ts:List (Option Nat)):Prop where
  len:ps.length=ts.length
  pos:0<ps.length
  le:ps.length≤101
  root:ps[0]? =some none
  par:∀i,0<i→i<ps.length→∃j,ps[i]? =some (some j)∧j<i
  tk:∀(i j:Nat),ts[i]? =some (some j)→j<ps.length
def begunB(ps:List (Option Nat))(t:Int):Bool:=decide (0≤t)&&decide (t≤(ps.length:Int) - 1)
def standB(ts:List (Option Nat))(t:Int):Bool:=decide (0≤t)&&(ts[t.toNat]? ==some none)
theorem at_map{xs:List (Option Nat)}{i:Nat}{o:Option Nat}(h:xs[i]? =some o):atI (xs.map oV) (i:Int)=some (oV o):=atI_nat (by rw[List.getElem?_map,h];rfl)
section
variable{P:Program}{w:World}{K:PySem.W.Frag}{mg:Str→Option Value}{base:Heap}{A:Adr}
def spNumI:Sp:=fun vs H Q _=>∃i:Int,vs=[.int i]∧Q (.bl true) H
theorem ok_is_number (T:Txt K mg A):FnOk P w K mg base CX0 1 A.a_is_number A.d_is_number ["thing"] spNumI:=by
  refine T.F_is_number.ok sc_is_number (fun vs H Q E h=> ?_) (fun cdv Ar outer s H vs Q E hr h=> ?_)
  · obtain⟨v,rfl,_⟩:=h
    rfl
  · obtain⟨i,rfl,k⟩:=h
    refine⟨_,(pss_one (ps_ret (pe_and (pe_callB call_isinst (by rfl) T.z_isinstance Boot.«isinstance» (pa_cons (pv 0) (pa_cons (pe_bltn (v:= .ty "int") rfl T.z_int Boot.«int» rfl) pa_nil))) (pe_one (pe_not (pe_callB call_isinst (by rfl) T.z_isinstance Boot.«isinstance» (pa_cons (pv 0) (pa_cons (pe_bltn (v:= .ty "bool") rfl T.z_bool Boot.«bool» rfl) pa_nil)))))))),?_⟩;exact⟨_,rfl,_,_,_,_,rfl,.int i,rfl,_,rfl,iteT ⟨_,rfl,_,_,_,_,rfl,.int i,rfl,_,rfl,k⟩⟩
def spWholeI:Sp:=fun vs H Q _=>∃i lo hi:Int,vs=[.int i,.int lo,.int hi]∧Q (.bl (decide (lo≤i)&&decide (i≤hi))) H
theorem whole_if {lo hi i:Int} {Q:Bool→Prop} (k:Q (decide (lo≤i)&&decide (i≤hi))) (A1:Prop) (h:Q (decide (i≤hi))→A1):if decide (lo≤i)=true then A1 else Q false:=by
  by_cases q:lo≤i
  · rw[decide_eq_true q] at k ⊢
    exact iteT (h (by simpa using k))
  · rw[decide_eq_false q] at k ⊢
    exact iteF (by simpa using k)
theorem ok_is_whole (T:Txt K mg A):FnOk P w K mg base CX0 2 A.a_is_whole A.d_is_whole ["thing","low","high"] spWholeI:=by
  have G_is_number:FnOk P w K mg base CX0 1 A.a_is_number A.d_is_number ["thing"] spNumI:=ok_is_number T;refine T.F_is_whole.ok sc_is_whole (fun vs H Q E h=> ?_) (fun cdv Ar outer s H vs Q E hr h=> ?_)
  · obtain⟨v,lo,hi,rfl,_⟩:=h
    rfl
  · obtain⟨i,lo,hi,rfl,k⟩:=h
    refine⟨_,(pss_one (ps_ret (pe_and (pe_call G_is_number hr rfl T.m_is_number T.F_is_number.kp T.b_is_number .nil pass0 (pa_cons (pv 0) pa_nil)) (pe_one (pe_chain op_le op_le (pv 1) (pv 0) (pv 2)))))),?_⟩;refine⟨_,rfl,i,rfl,_,rfl,?_⟩;exact iteT ⟨_,rfl,_,rfl,lo,i,rfl,rfl,_,rfl,whole_if (Q:=fun b=>Q (.bl b) H) k _ fun q=>⟨_,rfl,i,hi,rfl,rfl,q⟩⟩
def spBegun(C:Addr):Sp:=fun vs H Q _=>∃f pa ta ps ts,vs=[.ref f]∧FrAt C H f pa ta ps ts∧Q (.int ((ps.length:Int) - 1)) H
theorem ok_Frames_begun (T:Txt K mg A):FnOk P w K mg base CX0 1 A.a_Frames_begun A.d_Frames_begun ["self"] (spBegun A.a_House):=by
  refine T.F_Frames_begun.ok sc_Frames_begun (fun vs H Q E h=> ?_) (fun cdv Ar outer s H vs Q E hr h=> ?_)
  · obtain⟨f,pa,ta,ps,ts,rfl,_⟩:=h
    rfl
  · obtain⟨f,pa,ta,ps,ts,rfl,F,k⟩:=h
    obtain⟨⟨dx,z,ho⟩,hp,ht,ne⟩:=id F;refine⟨_,(pss_one (ps_ret (pe_op op_sub (pe_callB call_len_seq (by rfl) T.z_len Boot.«len» (pa_cons (pe_fld (pv 0) rfl) pa_nil)) pe_int))),?_⟩;refine⟨_,rfl,f,A.a_House,dx,_,_,rfl,ho,T.K_House,T.n_House_parents,flds_p _ _ _,pa,_,rfl,.inl (SqL.of hp),_,1,rfl,rfl,?_⟩;rw[List.length_map];exact k
def spWas(C:Addr):Sp:=fun vs H Q _=>∃f pa ta ps ts,∃t:Int,vs=[.ref f,.int t]∧FrAt C H f pa ta ps ts∧Q (.bl (begunB ps t)) H
theorem ok_Frames_was_begun (T:Txt K mg A):FnOk P w K mg base CX0 3 A.a_Frames_was_begun A.d_Frames_was_begun ["self","thing"] (spWas A.a_House):=by
  have G_is_whole:FnOk P w K mg base CX0 2 A.a_is_whole A.d_is_whole ["thing","low","high"] spWholeI:=ok_is_whole T;have G_Frames_begun:FnOk P w K mg base CX0 2 A.a_Frames_begun A.d_Frames_begun ["self"] (spBegun A.a_House):=(ok_Frames_begun T).mono (by decide);refine T.F_Frames_was_begun.ok sc_Frames_was_begun (fun vs H Q E h=> ?_) (fun cdv Ar outer s H vs Q E hr h=> ?_)
  · obtain⟨f,pa,ta,ps,ts,t,rfl,_⟩:=h
    rfl
  · obtain⟨f,pa,ta,ps,ts,t,rfl,F,k⟩:=h
    obtain⟨⟨dx,z,ho⟩,hp,ht,ne⟩:=id F;obtain⟨u1,c_GROUND⟩:=T.u_GROUND;refine⟨_,(pss_one (ps_ret (pe_call G_is_whole hr rfl T.m_is_whole T.F_is_whole.kp T.b_is_whole .nil pass0 (pa_cons (pv 1) (pa_cons (pe_glob rfl c_GROUND.2 c_GROUND.1) (pa_cons (pe_meth0 (pv 0) T.K_House T.t_Frames_begun G_Frames_begun hr T.b_Frames_begun .nil pass0) pa_nil)))))),?_⟩;exact⟨_,rfl,_,rfl,f,dx,_,rfl,ho,flds_no (by decide+kernel),f,pa,ta,ps,ts,rfl,F,t,0,_,rfl,k⟩
def spWantB(C:Addr):Sp:=fun vs H Q _=>∃f pa ta ps ts,∃t:Int,vs=[.ref f,.int t]∧FrAt C H f pa ta ps ts∧begunB ps t=true∧Q .non H
theorem ok_Frames_want_begun (T:Txt K mg A):FnOk P w K mg base CX0 4 A.a_Frames_want_begun A.d_Frames_want_begun ["self","thing"] (spWantB A.a_House):=by
  have G_Frames_was_begun:FnOk P w K mg base CX0 3 A.a_Frames_was_begun A.d_Frames_was_begun ["self","thing"] (spWas A.a_House):=ok_Frames_was_begun T;refine T.F_Frames_want_begun.ok sc_Frames_want_begun (fun vs H Q E h=> ?_) (fun cdv Ar outer s H vs Q E hr h=> ?_)
  · obtain⟨f,pa,ta,ps,ts,t,rfl,_⟩:=h
    rfl
  · obtain⟨f,pa,ta,ps,ts,t,rfl,F,hb,k⟩:=h
    obtain⟨⟨dx,z,ho⟩,hp,ht,ne⟩:=id F;refine⟨_,(pss_one (ps_if (pt_not (pt_val (pe_meth (pv 0) T.K_House T.t_Frames_was_begun G_Frames_was_begun hr T.b_Frames_was_begun .nil pass0 (pa_cons (pv 1) pa_nil)))) (pss_one ps_never) pss_nil)),?_⟩;refine⟨_,rfl,f,dx,_,rfl,ho,flds_no (by decide+kernel),_,rfl,f,pa,ta,ps,ts,t,rfl,F,_,rfl,?_⟩;rw[hb];exact k
def spStands(C:Addr):Sp:=fun vs H Q _=>∃f pa ta ps ts,∃t:Int,vs=[.ref f,.int t]∧FrAt C H f pa ta ps ts∧ps.length=ts.length∧Q (.bl (standB ts t)) H
theorem ok_Frames_stands (T:Txt K mg A):FnOk P w K mg base CX0 4 A.a_Frames_stands A.d_Frames_stands ["self","thing"] (spStands A.a_House):=by
  have G_Frames_was_begun:FnOk P w K mg base CX0 3 A.a_Frames_was_begun A.d_Frames_was_begun ["self","thing"] (spWas A.a_House):=ok_Frames_was_begun T;refine T.F_Frames_stands.ok sc_Frames_stands (fun vs H Q E h=> ?_) (fun cdv Ar outer s H vs Q E hr h=> ?_)
  · obtain⟨f,pa,ta,ps,ts,t,rfl,_⟩:=h
    rfl
  · obtain⟨f,pa,ta,ps,ts,t,rfl,F,hl,k⟩:=h
    obtain⟨⟨dx,z,ho⟩,hp,ht,ne⟩:=id F;refine⟨_,(pss_one (ps_ret (pe_and (pe_meth (pv 0) T.K_House T.t_Frames_was_begun G_Frames_was_begun hr T.b_Frames_was_begun .nil pass0 (pa_cons (pv 1) pa_nil)) (pe_one (pe_cmpR op_isN (pe_ix ix_list (pe_fld (pv 0) rfl) (pv 1) (fun _ _=>rfl)) pe_non (nomark _)))))),?_⟩;refine⟨_,rfl,f,dx,_,rfl,ho,flds_no (by decide+kernel),_,rfl,f,pa,ta,ps,ts,t,rfl,F,_,rfl,?_⟩
    cases hb:begunB ps t with
    | true=>
      unfold begunB at hb;rw[Bool.and_eq_true,decide_eq_true_iff,decide_eq_true_iff] at hb;obtain⟨j,rfl⟩:∃j:Nat,t=j:=⟨t.toNat,by omega⟩;have hj:j<ts.length:=by omega
      have hx:ts[j]? =some ts[j]:=by simp[hj]
      refine iteT ⟨_,rfl,f,A.a_House,dx,_,_,rfl,ho,T.K_House,T.n_House_takers,flds_t _ _ _,_,rfl,ta,_,_,_,rfl,rfl,SqL.of ht,at_map hx,rfl,?_⟩
      have e:standB ts (j:Int)=decide (oV ts[j]= .non):=by
        unfold standB;rw[decide_eq_true hb.1,Int.toNat_natCast,hx,Bool.true_and]
        cases ts[j] with
        |none=>rfl
        |some n=>rfl
      rw[←e];exact k
    | false=>
      have e:standB ts t=false:=by
        unfold standB;unfold begunB at hb;by_cases h0:0≤t
        · rw[decide_eq_true h0,Bool.true_and] at hb ⊢
          have h1:=of_decide_eq_false hb;have:ts[t.toNat]? =none:=List.getElem?_eq_none (by omega);rw[this];rfl
        · rw[decide_eq_false h0]
          rfl
      rw[e] at k;exact iteF k
theorem stand_begun {ps ts:List (Option Nat)} {t:Int} (hl:ps.length=ts.length) (h:standB ts t=true):begunB ps t=true:=by
  unfold standB at h;rw[Bool.and_eq_true,decide_eq_true_iff] at h;have h1:=eq_of_beq h.2;have h2:=(List.getElem?_eq_some_iff.mp h1).1;unfold begunB;rw[decide_eq_true h.1,decide_eq_true (show t≤(ps.length:Int) - 1 by omega)];rfl
def spWantS(C:Addr):Sp:=fun vs H Q _=>∃f pa ta ps ts,∃t:Int,vs=[.ref f,.int t]∧FrAt C H f pa ta ps ts∧ps.length=ts.length∧standB ts t=true∧Q .non H
theorem ok_Frames_want_standing (T:Txt K mg A):FnOk P w K mg base CX0 5 A.a_Frames_want_standing A.d_Frames_want_standing ["self","thing"] (spWantS A.a_House):=by
  have G_Frames_want_begun:FnOk P w K mg base CX0 4 A.a_Frames_want_begun A.d_Frames_want_begun ["self","thing"] (spWantB A.a_House):=ok_Frames_want_begun T;have G_Frames_stands:FnOk P w K mg base CX0 4 A.a_Frames_stands A.d_Frames_stands ["self","thing"] (spStands A.a_House):=ok_Frames_stands T;refine T.F_Frames_want_standing.ok sc_Frames_want_standing (fun vs H Q E h=> ?_) (fun cdv Ar outer s H vs Q E hr h=> ?_)
  · obtain⟨f,pa,ta,ps,ts,t,rfl,_⟩:=h
    rfl
  · obtain⟨f,pa,ta,ps,ts,t,rfl,F,hl,hb,k⟩:=h
    obtain⟨⟨dx,z,ho⟩,hp,ht,ne⟩:=id F;refine⟨_,(pss_cons (ps_expr (pe_meth (pv 0) T.K_House T.t_Frames_want_begun G_Frames_want_begun hr T.b_Frames_want_begun .nil pass0 (pa_cons (pv 1) pa_nil))) (pss_one (ps_if (pt_not (pt_val (pe_meth (pv 0) T.K_House T.t_Frames_stands G_Frames_stands hr T.b_Frames_stands .nil pass0 (pa_cons (pv 1) pa_nil)))) (pss_one ps_never) pss_nil))),?_⟩;refine⟨_,rfl,f,dx,_,rfl,ho,flds_no (by decide+kernel),_,rfl,f,pa,ta,ps,ts,t,rfl,F,stand_begun hl hb,?_⟩;refine⟨_,rfl,f,dx,_,rfl,ho,flds_no (by decide+kernel),_,rfl,f,pa,ta,ps,ts,t,rfl,F,hl,_,rfl,?_⟩;rw[hb];exact k
def spBy(C:Addr):Sp:=fun vs H Q _=>∃f pa ta ps ts,∃(t:Nat) (o:Option Nat),vs=[.ref f,.int t]∧FrAt C H f pa ta ps ts∧ps.length=ts.length∧ts[t]? =some o∧Q (oV o) H
theorem ok_Frames_ended_by (T:Txt K mg A):FnOk P w K mg base CX0 5 A.a_Frames_ended_by A.d_Frames_ended_by ["self","frame"] (spBy A.a_House):=by
  have G_Frames_want_begun:FnOk P w K mg base CX0 4 A.a_Frames_want_begun A.d_Frames_want_begun ["self","thing"] (spWantB A.a_House):=ok_Frames_want_begun T;refine T.F_Frames_ended_by.ok sc_Frames_ended_by (fun vs H Q E h=> ?_) (fun cdv Ar outer s H vs Q E hr h=> ?_)
  · obtain⟨f,pa,ta,ps,ts,t,o,rfl,_⟩:=h
    rfl
  · obtain⟨f,pa,ta,ps,ts,t,o,rfl,F,hl,hx,k⟩:=h
    obtain⟨⟨dx,z,ho⟩,hp,ht,ne⟩:=id F;have hj:t<ts.length:=(List.getElem?_eq_some_iff.mp hx).1
    have hb:begunB ps (t:Int)=true:=by
      unfold begunB;rw[decide_eq_true (show(0:Int)≤t by omega),decide_eq_true (show(t:Int)≤(ps.length:Int) - 1 by omega)];rfl
    refine⟨_,(pss_cons (ps_expr (pe_meth (pv 0) T.K_House T.t_Frames_want_begun G_Frames_want_begun hr T.b_Frames_want_begun .nil pass0 (pa_cons (pv 1) pa_nil))) (pss_one (ps_ret (pe_ix ix_list (pe_fld (pv 0) rfl) (pv 1) (fun _ _=>rfl))))),?_⟩;refine⟨_,rfl,f,dx,_,rfl,ho,flds_no (by decide+kernel),_,rfl,f,pa,ta,ps,ts,t,rfl,F,hb,?_⟩;exact⟨_,rfl,f,A.a_House,dx,_,_,rfl,ho,T.K_House,T.n_House_takers,flds_t _ _ _,_,rfl,ta,_,_,_,rfl,rfl,SqL.of ht,at_map hx,k⟩
end
end My
namespace My
open PySem L2 PyProof.Rows
def standM(ts:List (Option Nat)):List Nat:=(List.range ts.length).filter fun i=>ts[i]? ==some none
def nV(n:Nat):V:= .int n
def upF (ps:List (Option Nat)):Nat→Nat→List Nat
  |0,f=>[f]
  |n+1,f=>f::(match ps[f]? with|some (some j)=>upF ps n j|_=>[])
def upM(ps:List (Option Nat))(f:Nat):List Nat:=upF ps f f
theorem up_zero {ps ts:List (Option Nat)} (W:WF ps ts) (n:Nat):upF ps n 0=[0]:=by
  cases n with
  |zero=>rfl
  | succ n=>
    show 0::(match ps[0]? with|some (some j)=>upF ps n j|_=>[])=[0];rw[W.root]
theorem up_fuel {ps ts:List (Option Nat)} (W:WF ps ts) (f:Nat):f<ps.length→∀n m,f≤n→f≤m→upF ps n f=upF ps m f:=by
  induction f using Nat.strongRecOn with
  | _ f ih=>
    intro hf n m hn hm
    cases f with
    |zero=>rw[up_zero W,up_zero W]
    | succ g=>
      obtain⟨j,e,hj⟩:=W.par (g+1) (by omega) hf;obtain⟨n',rfl⟩:∃n',n=n' +1:=⟨n - 1,by omega⟩;obtain⟨m',rfl⟩:∃m',m=m' +1:=⟨m - 1,by omega⟩;show(g+1)::(match ps[g+1]? with|some (some j)=>upF ps n' j|_=>[])=(g+1)::(match ps[g+1]? with|some (some j)=>upF ps m' j|_=>[]);rw[e];show(g+1)::upF ps n' j=(g+1)::upF ps m' j;rw[ih j hj (by omega) n' m' (by omega) (by omega)]
def upO (ps:List (Option Nat)):Option Nat→List Nat
  |none=>[]
  |some j=>upM ps j
theorem up_step {ps ts:List (Option Nat)} (W:WF ps ts) {f:Nat} {o:Option Nat} (h:ps[f]? =some o):upM ps f=f::upO ps o:=by
  have hf:f<ps.length:=(List.getElem?_eq_some_iff.mp h).1
  cases f with
  | zero=>
    rw[W.root] at h;cases h;rfl
  | succ g=>
    obtain⟨j,e,hj⟩:=W.par (g+1) (by omega) hf;rw[e] at h;cases h;show(g+1)::(match ps[g+1]? with|some (some j)=>upF ps g j|_=>[])=(g+1)::upM ps j;rw[e];show(g+1)::upF ps g j=(g+1)::upF ps j j;rw[up_fuel W j (by omega) g j (by omega) (Nat.le_refl _)]
theorem up_len (ps:List (Option Nat)):∀(n f:Nat),(upF ps n f).length≤n+1
  |0,f=>Nat.le_refl _
  | n +1,f=>by
    show(match ps[f]? with|some (some j)=>upF ps n j|_=>[]).length+1≤n+1+1
    split
    · have:=up_len ps n ‹_›
      omega
    · simp
def rowM(ps:List (Option Nat))(f:Nat):List Nat:=(upM ps f).reverse
section
variable{P:Program}{w:World}{K:PySem.W.Frag}{mg:Str→Option Value}{base:Heap}{A:Adr}
def spStanding(C:Addr):Sp:=fun vs H Q _=>∃f pa ta ps ts,vs=[.ref f]∧FrAt C H f pa ta ps ts∧ts.length≤1000∧∀l H',H l=none→Same H H'→H' l=some (.lst ((standM ts).map nV))→Q (.ref l) H'
theorem ok_Frames_standing (T:Txt K mg A):FnOk P w K mg base CX0 1 A.a_Frames_standing A.d_Frames_standing ["self"] (spStanding A.a_House):=by
  refine T.F_Frames_standing.ok sc_Frames_standing (fun vs H Q E h=> ?_) (fun cdv Ar outer s H vs Q E hr h=> ?_)
  · obtain⟨f,pa,ta,ps,ts,rfl,_⟩:=h
    rfl
  · obtain⟨f,pa,ta,ps,ts,rfl,F,hle,k⟩:=h
    obtain⟨⟨dx,z,ho⟩,hp,ht,ne⟩:=id F;refine⟨_,(pss_one (ps_ret (pe_comp (N:=["number","taker"]) (k:=2) (js:=[]) rfl (cscope_of (by kernel_rfl)) (pi_enumerate rfl T.z_enumerate (pa_cons (pe_fld (pv 0) rfl) pa_nil)) (fun _ _ _ _ _=>⟨(pg_tupK (K:=K) (n:=2) rfl rfl (pgs_cons (pg_name (i:=0) (show(["number","taker"]:List Str).Nodup by decide+kernel) rfl (Or.inl rfl) (Or.inr rfl)) (pgs_cons (pg_name (i:=1) (show(["number","taker"]:List Str).Nodup by decide+kernel) rfl (Or.inl rfl) (Or.inr rfl)) pgs_nil)) rfl rfl),(pif1 (pt_cmpR op_isN (pv 1) pe_non (nomark _))),(pv 0)⟩)))),?_⟩;refine⟨_,rfl,f,A.a_House,dx,_,_,rfl,ho,T.K_House,T.n_House_takers,flds_t _ _ _,ta,_,rfl,ht,?_⟩;refine comp_grow (fun i=>ts[i]? ==some none) nV (feeds_enum (SqL.of ht)) ?_ ?_ fun p H' hp sm hl=>k p H' hp sm ?_
    · rw[List.length_map]
      exact Nat.le_trans hle (by decide)
    · rintro i x H' C1 C0 hi sm ⟨t,y,rfl,hT,hy⟩ c1 c0
      rw[List.getElem?_map] at hy
      cases eo:ts[i]? with
      |none=>rw[eo] at hy;cases hy
      | some o=>
        rw[eo] at hy c1 c0;cases hy;refine⟨t,_,rfl,SqT.of hT,rfl,_,_,rfl,_,_,rfl,rfl,((SubS.refl _).own (by decide)).own (by decide),_,rfl,rfl,_,rfl,?_⟩
        cases o with
        |none=>exact⟨_,rfl,c1 rfl H' (Same.refl H')⟩
        |some n=>exact c0 rfl H' (Same.refl H')
    · rw[List.length_map] at hl
      exact hl
def spRow(C:Addr):Sp:=fun vs H Q _=>∃f pa ta ps ts,∃t:Nat,vs=[.ref f,.int t]∧FrAt C H f pa ta ps ts∧WF ps ts∧t<ps.length∧∀l H',H l=none→Same H H'→H' l=some (.lst ((rowM ps t).map nV))→Q (.ref l) H'
theorem begun_nat {ps:List (Option Nat)} {t:Nat} (h:t<ps.length):begunB ps (t:Int)=true:=by
  unfold begunB;rw[decide_eq_true (show(0:Int)≤t by omega),decide_eq_true (show(t:Int)≤(ps.length:Int) - 1 by omega)];rfl
theorem ok_Frames_row (T:Txt K mg A):FnOk P w K mg base CX0 5 A.a_Frames_row A.d_Frames_row ["self","frame"] (spRow A.a_House):=by
  have G_Frames_want_begun:FnOk P w K mg base CX0 4 A.a_Frames_want_begun A.d_Frames_want_begun ["self","thing"] (spWantB A.a_House):=ok_Frames_want_begun T;refine T.F_Frames_row.ok sc_Frames_row (fun vs H Q E h=> ?_) (fun cdv Ar outer s H vs Q E hr h=> ?_)
  · obtain⟨f,pa,ta,ps,ts,t,rfl,_⟩:=h
    rfl
  · obtain ⟨f,pa,ta,ps,ts,t,rfl,F,W,hlt,k⟩:=h
    obtain⟨⟨dx,z,ho⟩,hp,ht,ne⟩:=id F;refine⟨_,(pss_cons (ps_expr (pe_meth (pv 0) T.K_House T.t_Frames_want_begun G_Frames_want_begun hr T.b_Frames_want_begun .nil pass0 (pa_cons (pv 1) pa_nil))) (pss_cons (ps_set (i:=2) sc_Frames_row.nd rfl (Or.inl rfl) (pe_lst pa_nil)) (pss_cons (ps_set (i:=3) sc_Frames_row.nd rfl (Or.inl rfl) (pv 1)) (pss_cons (ps_while PassesOwn.never (pt_cmpR op_notN (pv 3) pe_non (nomark _)) (pss_cons (ps_expr (pe_bm PySem.F.plainAttrs_list PySem.F.slot_list_append PySem.F.type_list_append mt_append (pv 2) (pa_cons (pv 3) pa_nil))) (pss_one (ps_set (i:=3) sc_Frames_row.nd rfl (Or.inl rfl) (pe_ix ix_list (pe_fld (pv 0) rfl) (pv 3) (fun _ _=>rfl)))))) (pss_one (ps_ret (pe_listrev rfl rfl T.z_list rfl T.z_reversed (pa_cons (pv 2) pa_nil)))))))),?_⟩;refine⟨_,rfl,f,dx,_,rfl,ho,flds_no (by decide+kernel),_,rfl,f,pa,ta,ps,ts,t,rfl,F,begun_nat hlt,?_⟩;refine⟨Nat.zero_le _,fun l hl=> ?_⟩;refine⟨_,rfl,?_⟩
    have up101:(upM ps t).length≤101:=by
      have:=up_len ps t t;have:=W.le;show(upF ps t t).length≤101;omega
    refine⟨fun m σ H' =>∃(acc:List Nat) (o:Option Nat),σ=[some (.ref f),some (.int t),some (.ref l),some (oV o)]∧H' =upd H l (.lst (acc.map nV))∧acc++upO ps o=upM ps t∧(∀j,o=some j→j<ps.length)∧m=(match o with|none=>0|some j=>j+1),⟨t+1,[],some t,rfl,rfl,rfl,?_,rfl⟩,?_⟩
    · intro j e
      cases e;exact hlt
    · rintro m σ H' ⟨acc,o,rfl,rfl,hacc,hj,rfl⟩
      have sm:=Same.upd (o:= .lst (acc.map nV)) hl;refine⟨_,rfl,rfl,_,rfl,?_⟩
      cases o with
      | none=>
        refine⟨_,rfl,l,_,rfl,SqL.of upd_same,fun l2 hl2=> ?_⟩;have s2:=Same.upd (o:= .lst (acc.map nV).reverse) hl2;refine k l2 _ (sm.free hl2) (sm.trans s2) ?_;have e:acc=upM ps t:=by simpa[upO] using hacc
        rw[upd_same,e,←List.map_reverse];rfl
      | some j=>
        have hjl:=hj j rfl;have hx:ps[j]? =some ps[j]:=by simp[hjl]
        have est:=up_step W hx;have hacc2:acc++upM ps j=upM ps t:=hacc
        have hal:acc.length<101:=by
          have e1:(acc++upM ps j).length≤101:=by rw[hacc2];exact up101
          rw[est,List.length_append,List.length_cons] at e1;omega
        refine⟨fun σ' H' =>∃m',m' <j+1∧∃(acc:List Nat) (o:Option Nat),σ' =[some (.ref f),some (.int t),some (.ref l),some (oV o)]∧H' =upd H l (.lst (acc.map nV))∧acc++upO ps o=upM ps t∧(∀j,o=some j→j<ps.length)∧m' =(match o with|none=>0|some j=>j+1),fun σ' H' h=>h,?_⟩;refine⟨_,rfl,.inl ⟨rfl,_,SqL.of upd_same⟩,_,rfl,l,_,_,rfl,rfl,upd_same,?_,?_⟩
        · rw[List.length_map]
          exact Nat.lt_of_lt_of_le hal (by decide)
        rw[upd_upd];have s3:=Same.upd (o:= .lst (acc.map nV++[oV (some j)])) hl;refine⟨_,rfl,f,A.a_House,dx,_,_,rfl,s3 _ _ ho,T.K_House,T.n_House_parents,flds_p _ _ _,_,rfl,pa,_,_,_,rfl,rfl,SqL.of (s3 _ _ hp),at_map hx,?_⟩
        have hpar:∀i,ps[j]=some i→i<j:=fun i e=>by
          rw[e] at hx
          cases j with
          |zero=>rw[W.root] at hx;cases hx
          | succ g=>
            obtain⟨i',e',hi'⟩:=W.par (g+1) (by omega) hjl;rw[e'] at hx;cases hx;exact hi'
        refine⟨(match ps[j] with|none=>0|some i=>i+1),?_,acc++[j],ps[j],rfl,?_,?_,fun i e=> ?_,rfl⟩
        · cases e:ps[j] with
          |none=>show 0<j+1;omega
          |some i=>have:=hpar i e;show i+1<j+1;omega
        · rw[List.map_append]
          rfl
        · rw[List.append_assoc,←hacc2,est]
          rfl
        · have:=hpar i e
          omega
end
end My
namespace My
open PySem L2 PyProof.Rows
def Kept2(pa ta:Addr)(H H' :Hp):Prop:=∀c o,c≠pa→c≠ta→H c=some o→H' c=some o
theorem Kept2.refl(pa ta:Addr)(H:Hp):Kept2 pa ta H H:=fun _ _ _ _ e=>e
theorem Kept2.trans{pa ta:Addr}{H H1 H2:Hp}(h:Kept2 pa ta H H1)(h' :Kept2 pa ta H1 H2):Kept2 pa ta H H2:=fun c o h1 h2 e=>h' c o h1 h2 (h c o h1 h2 e)
def finM(ps ts:List (Option Nat))(t:Nat):List Nat:=(standM ts).reverse.filter fun n=>decide (t∈rowM ps n)
def setM (t:Nat):List Nat→List (Option Nat)→List (Option Nat)
  |[],ts=>ts
  |n::r,ts=>setM t r (ts.set n (some t))
theorem setM_len (t:Nat):∀(E:List Nat) (ts:List (Option Nat)),(setM t E ts).length=ts.length
  |[],ts=>rfl
  | n::r,ts=>by
    show(setM t r (ts.set n (some t))).length=ts.length;rw[setM_len t r,List.length_set]
theorem setM_snoc (t n:Nat):∀(E:List Nat) (ts:List (Option Nat)),setM t (E++[n]) ts=(setM t E ts).set n (some t)
  |[],ts=>rfl
  |m::r,ts=>setM_snoc t n r (ts.set m (some t))
theorem stand_lt{ts:List (Option Nat)}{n:Nat}(h:n∈standM ts):n<ts.length:=List.mem_range.mp (List.mem_filter.mp h).1
theorem stand_iff {ts:List (Option Nat)} {n:Nat}:n∈standM ts↔standB ts (n:Int)=true:=by
  unfold standM standB;rw[List.mem_filter,List.mem_range,decide_eq_true (show(0:Int)≤n by omega),Bool.true_and,Int.toNat_natCast];constructor
  · exact fun h=>h.2
  · intro h
    exact⟨(List.getElem?_eq_some_iff.mp (eq_of_beq h)).1,h⟩
theorem fin_lt{ps ts:List (Option Nat)}{t n:Nat}(h:n∈finM ps ts t):n<ts.length:=stand_lt (List.mem_reverse.mp (List.mem_filter.mp h).1)
theorem fin_len (ps ts:List (Option Nat)) (t:Nat):(finM ps ts t).length≤ts.length:=by
  unfold finM standM;refine Nat.le_trans (List.length_filter_le _ _) ?_;rw[List.length_reverse];refine Nat.le_trans (List.length_filter_le _ _) ?_;rw[List.length_range];exact Nat.le_refl _
theorem getD_range (S:List Nat):S=(List.range S.length).map fun i=>S.getD i 0:=by
  apply List.ext_getElem?;intro i;rw[List.getElem?_map];by_cases h:i<S.length
  · rw[List.getElem?_range h]
    simp[List.getD_eq_getElem?_getD,h]
  · rw[List.getElem?_eq_none (by omega),List.getElem?_eq_none (by rw[List.length_range];omega)]
    rfl
theorem range_filter (S:List Nat) (p:Nat→Bool) (g:Nat→V):((List.range S.length).filter fun i=>p (S.getD i 0)).map (fun i=>g (S.getD i 0))=(S.filter p).map g:=by
  conv=>rhs;rw[getD_range S]
  rw[List.filter_map,List.map_map];rfl
theorem inV_nV (t:Nat) (R:List Nat):inV (nV t) (R.map nV)=decide (t∈R):=by
  unfold inV;rw[List.any_map,Bool.eq_iff_iff,List.any_eq_true,decide_eq_true_iff];constructor
  · rintro ⟨n,hn,e⟩
    have e:((n:Int)==(t:Int))=true:=e;have e:=eq_of_beq e;have:n=t:=by omega
    rw[←this];exact hn
  · intro h
    exact⟨t,h,by show((t:Int)==(t:Int))=true;simp⟩
theorem flat_nV (R:List Nat):(R.map nV).all flatV=true:=by
  rw[List.all_map,List.all_eq_true];intro n _;rfl
section
variable{P:Program}{w:World}{K:PySem.W.Frag}{mg:Str→Option Value}{base:Heap}{A:Adr}
def spInit(C:Addr):Sp:=fun vs H Q _=>∃(p dx:Addr),vs=[.ref p]∧H p=some (.ins C dx [])∧∀pa ta H',H pa=none→H ta=none→H' p=some (.ins C dx (flds2 pa ta))→H' pa=some (.lst [.non])→H' ta=some (.lst [.non])→pa≠ta→(∀b o,H b=some o→b≠p→H' b=some o)→Q .non H'
theorem ok_Frames___init__ (T:Txt K mg A):FnOk P w K mg base CX0 1 A.a_Frames___init__ A.d_Frames___init__ ["self"] (spInit A.a_House):=by
  refine T.F_Frames___init__.ok sc_Frames___init__ (fun vs H Q E h=> ?_) (fun cdv Ar outer s H vs Q E hr h=> ?_)
  · obtain⟨p,dx,rfl,_⟩:=h
    rfl
  · obtain⟨p,dx,rfl,hp,k⟩:=h
    refine⟨_,(pss_cons (ps_fld (pv 0) (pe_lst (pa_cons pe_non pa_nil)) rfl) (pss_one (ps_fld (pv 0) (pe_lst (pa_cons pe_non pa_nil)) rfl))),?_⟩;refine⟨(show 1≤sizeLine by decide),fun pa hpa=> ?_⟩;have np:p≠pa:=ne_of_none hp hpa;refine⟨_,rfl,p,A.a_House,dx,[],rfl,(by rw[upd_ne np];exact hp),T.K_House,T.n_House_parents,(by show 0<1000;decide),(show 1≤sizeLine by decide),fun ta hta=> ?_⟩;have nt:p≠ta:=ne_of_none upd_same hta
    have hta1:upd H pa (.lst [.non]) ta=none:=by
      rw[upd_ne nt.symm] at hta;exact hta
    have npt:pa≠ta:=ne_of_none upd_same hta1
    have hta0:H ta=none:=by
      rw[upd_ne npt.symm] at hta1;exact hta1
    refine⟨_,rfl,p,A.a_House,dx,_,rfl,(by rw[upd_ne nt,upd_same]),T.K_House,T.n_House_takers,(by show 1<1000;decide),?_⟩;refine k pa ta _ hpa hta0 upd_same ?_ ?_ npt fun b o e hb=> ?_
    · rw[upd_ne np.symm,upd_ne npt,upd_ne np.symm,upd_same]
    · rw[upd_ne nt.symm,upd_same]
    · rw[upd_ne hb,upd_ne (ne_of_none e hta0),upd_ne hb,upd_ne (ne_of_none e hpa)]
      exact e
def spWantBeg(C:Addr):Sp:=fun vs H Q _=>∃f pa ta ps ts,∃t:Nat,vs=[.ref f,.int t]∧FrAt C H f pa ta ps ts∧ps.length=ts.length∧standB ts (t:Int)=true∧ps.length≤100∧Q .non H
def spBegin (C:Addr):Sp:=fun vs H Q _=>∃f pa ta ps ts,∃t:Nat,vs=[.ref f,.int t]∧FrAt C H f pa ta ps ts∧ps.length=ts.length∧standB ts (t:Int)=true∧ps.length≤100∧
  ∀H',FrAt C H' f pa ta (ps++[some t]) (ts++[none])→Kept2 pa ta H H'→Q (.int ps.length) H'
theorem ok_Frames_want_beginning (T:Txt K mg A):FnOk P w K mg base CX0 6 A.a_Frames_want_beginning A.d_Frames_want_beginning ["self","thing"] (spWantBeg A.a_House):=by
  have G_Frames_want_standing:FnOk P w K mg base CX0 5 A.a_Frames_want_standing A.d_Frames_want_standing ["self","thing"] (spWantS A.a_House):=ok_Frames_want_standing T;have G_Frames_begun:FnOk P w K mg base CX0 5 A.a_Frames_begun A.d_Frames_begun ["self"] (spBegun A.a_House):=(ok_Frames_begun T).mono (by decide);refine T.F_Frames_want_beginning.ok sc_Frames_want_beginning (fun vs H Q E h=> ?_) (fun cdv Ar outer s H vs Q E hr h=> ?_)
  · obtain⟨f,pa,ta,ps,ts,t,rfl,_⟩:=h
    rfl
  · obtain⟨f,pa,ta,ps,ts,t,rfl,F,hl,hb,hle,k⟩:=h
    obtain⟨⟨dx,z,ho⟩,hp,ht,ne⟩:=id F;obtain⟨u1,c_MOST_FRAMES⟩:=T.u_MOST_FRAMES;refine⟨_,(pss_cons (ps_expr (pe_meth (pv 0) T.K_House T.t_Frames_want_standing G_Frames_want_standing hr T.b_Frames_want_standing .nil pass0 (pa_cons (pv 1) pa_nil))) (pss_one (ps_if (pt_cmpR op_eq (pe_meth0 (pv 0) T.K_House T.t_Frames_begun G_Frames_begun hr T.b_Frames_begun .nil pass0) (pe_glob rfl c_MOST_FRAMES.2 c_MOST_FRAMES.1) (nomark _)) (pss_one ps_never) pss_nil))),?_⟩;refine⟨_,rfl,f,dx,_,rfl,ho,flds_no (by decide+kernel),_,rfl,f,pa,ta,ps,ts,t,rfl,F,hl,hb,?_⟩;refine⟨_,rfl,f,dx,_,rfl,ho,flds_no (by decide+kernel),f,pa,ta,ps,ts,rfl,F,?_⟩;refine⟨rfl,_,rfl,?_⟩;rw[decide_eq_false (show ¬V.int ((ps.length:Int) - 1)=V.int 100 by intro z;injection z with z;omega)];exact iteF k
theorem ok_Frames_begin (T:Txt K mg A):FnOk P w K mg base CX0 7 A.a_Frames_begin A.d_Frames_begin ["self","frame"] (spBegin A.a_House):=by
  have G_Frames_want_beginning:FnOk P w K mg base CX0 6 A.a_Frames_want_beginning A.d_Frames_want_beginning ["self","thing"] (spWantBeg A.a_House):=ok_Frames_want_beginning T;have G_Frames_begun:FnOk P w K mg base CX0 6 A.a_Frames_begun A.d_Frames_begun ["self"] (spBegun A.a_House):=(ok_Frames_begun T).mono (by decide);refine T.F_Frames_begin.ok sc_Frames_begin (fun vs H Q E h=> ?_) (fun cdv Ar outer s H vs Q E hr h=> ?_)
  · obtain⟨f,pa,ta,ps,ts,t,rfl,_⟩:=h
    rfl
  · obtain⟨f,pa,ta,ps,ts,t,rfl,F,hl,hb,hle,k⟩:=h
    obtain⟨⟨dx,z,ho⟩,hp,ht,ne⟩:=id F;have fp:f≠pa:=ne_of ho hp (by intro z;cases z);have ft:f≠ta:=ne_of ho ht (by intro z;cases z);refine⟨_,(pss_cons (ps_expr (pe_meth (pv 0) T.K_House T.t_Frames_want_beginning G_Frames_want_beginning hr T.b_Frames_want_beginning .nil pass0 (pa_cons (pv 1) pa_nil))) (pss_cons (ps_expr (pe_bm PySem.F.plainAttrs_list PySem.F.slot_list_append PySem.F.type_list_append mt_append (pe_fld (pv 0) rfl) (pa_cons (pv 1) pa_nil))) (pss_cons (ps_expr (pe_bm PySem.F.plainAttrs_list PySem.F.slot_list_append PySem.F.type_list_append mt_append (pe_fld (pv 0) rfl) (pa_cons pe_non pa_nil))) (pss_one (ps_ret (pe_meth0 (pv 0) T.K_House T.t_Frames_begun G_Frames_begun hr T.b_Frames_begun .nil pass0)))))),?_⟩;refine⟨_,rfl,f,dx,_,rfl,ho,flds_no (by decide+kernel),_,rfl,f,pa,ta,ps,ts,t,rfl,F,hl,hb,hle,?_⟩;refine⟨_,rfl,f,A.a_House,dx,_,_,rfl,ho,T.K_House,T.n_House_parents,flds_p _ _ _,.inl ⟨rfl,_,SqL.of hp⟩,_,rfl,pa,_,_,rfl,rfl,hp,?_,?_⟩
    · rw[List.length_map]
      exact Nat.lt_of_le_of_lt hle (by decide)
    have ho2:∀o,upd H pa o f=some (.ins A.a_House dx (flds pa ta z)):=fun o=>by rw[upd_ne fp];exact ho
    have ht2:∀o,upd H pa o ta=some (.lst (ts.map oV)):=fun o=>by rw[upd_ne ne.symm];exact ht
    refine⟨_,rfl,f,A.a_House,dx,_,_,rfl,ho2 _,T.K_House,T.n_House_takers,flds_t _ _ _,.inl ⟨rfl,_,SqL.of (ht2 _)⟩,ta,_,_,rfl,rfl,ht2 _,?_,?_⟩
    · rw[List.length_map]
      exact Nat.lt_of_le_of_lt (show ts.length≤100 by omega) (by decide)
    have ho3:∀o o',upd (upd H pa o) ta o' f=some (.ins A.a_House dx (flds pa ta z)):=fun o o' =>by rw[upd_ne ft];exact ho2 _
    have F3:FrAt A.a_House (upd (upd H pa (.lst (ps.map oV++[V.int t]))) ta (.lst (ts.map oV++[V.non]))) f pa ta (ps++[some t]) (ts++[none]):=by
      refine⟨⟨dx,z,ho3 _ _⟩,?_,?_,ne⟩
      · rw[upd_ne ne,upd_same,List.map_append]
        rfl
      · rw[upd_same,List.map_append]
        rfl
    refine⟨_,rfl,f,dx,_,rfl,ho3 _ _,flds_no (by decide+kernel),f,pa,ta,_,_,rfl,F3,?_⟩;rw[show(((ps++[some t]).length:Nat):Int) - 1=(ps.length:Int) by rw[List.length_append,List.length_singleton];omega];refine k _ F3 fun c o h1 h2 e=> ?_;rw[upd_ne h2,upd_ne h1];exact e
end
end My
namespace My
open PySem L2 PyProof.Rows
theorem map_set_oV (ts:List (Option Nat)) (n t:Nat):(ts.map oV).set n (.int t)=(ts.set n (some t)).map oV:=by
  rw[List.map_set];rfl
theorem ixN_nat {n i:Nat} (h:i<n):ixN n (i:Int)=some i:=by
  unfold ixN;rw[if_pos (show(0:Int)≤(i:Int) by omega),if_pos (show(i:Int)<(n:Int) by omega),Int.toNat_natCast]
section
variable{P:Program}{w:World}{K:PySem.W.Frag}{mg:Str→Option Value}{base:Heap}{A:Adr}
def spWantFin(C:Addr):Sp:=fun vs H Q _=>∃f pa ta ps ts,∃t:Nat,vs=[.ref f,.int t]∧FrAt C H f pa ta ps ts∧ps.length=ts.length∧standB ts (t:Int)=true∧t≠0∧Q .non H
theorem ok_Frames_want_finishing (T:Txt K mg A):FnOk P w K mg base CX0 6 A.a_Frames_want_finishing A.d_Frames_want_finishing ["self","thing"] (spWantFin A.a_House):=by
  have G_Frames_want_standing:FnOk P w K mg base CX0 5 A.a_Frames_want_standing A.d_Frames_want_standing ["self","thing"] (spWantS A.a_House):=ok_Frames_want_standing T;refine T.F_Frames_want_finishing.ok sc_Frames_want_finishing (fun vs H Q E h=> ?_) (fun cdv Ar outer s H vs Q E hr h=> ?_)
  · obtain⟨f,pa,ta,ps,ts,t,rfl,_⟩:=h
    rfl
  · obtain⟨f,pa,ta,ps,ts,t,rfl,F,hl,hb,h0,k⟩:=h
    obtain⟨⟨dx,z,ho⟩,hp,ht,ne⟩:=id F;obtain⟨u1,c_GROUND⟩:=T.u_GROUND;refine⟨_,(pss_cons (ps_expr (pe_meth (pv 0) T.K_House T.t_Frames_want_standing G_Frames_want_standing hr T.b_Frames_want_standing .nil pass0 (pa_cons (pv 1) pa_nil))) (pss_one (ps_if (pt_cmpR op_eq (pv 1) (pe_glob rfl c_GROUND.2 c_GROUND.1) (nomark _)) (pss_one ps_never) pss_nil))),?_⟩;refine⟨_,rfl,f,dx,_,rfl,ho,flds_no (by decide+kernel),_,rfl,f,pa,ta,ps,ts,t,rfl,F,hl,hb,?_⟩;refine⟨_,rfl,rfl,_,rfl,?_⟩;rw[decide_eq_false (show ¬V.int (t:Int)=V.int 0 by intro z;injection z with z;omega)];exact iteF k
def spPart (C:Addr):Sp:=fun vs H Q _=>∃f pa ta ps ts,∃t:Nat,vs=[.ref f,.int t]∧FrAt C H f pa ta ps ts∧WF ps ts∧
  ∀l H',H l=none→Same H H'→H' l=some (.lst ((finM ps ts t).map nV))→Q (.ref l) H'
theorem ok_Frames_part (T:Txt K mg A):FnOk P w K mg base CX0 6 A.a_Frames_part A.d_Frames_part ["self","frame"] (spPart A.a_House):=by
  have G_Frames_standing:FnOk P w K mg base CX0 5 A.a_Frames_standing A.d_Frames_standing ["self"] (spStanding A.a_House):=(ok_Frames_standing T).mono (by decide);have G_Frames_row:FnOk P w K mg base CX0 5 A.a_Frames_row A.d_Frames_row ["self","frame"] (spRow A.a_House):=ok_Frames_row T;refine T.F_Frames_part.ok sc_Frames_part (fun vs H Q E h=> ?_) (fun cdv Ar outer s H vs Q E hr h=> ?_)
  · obtain⟨f,pa,ta,ps,ts,t,rfl,_⟩:=h
    rfl
  · obtain⟨f,pa,ta,ps,ts,t,rfl,F,W,k⟩:=h
    obtain⟨⟨dx,z,ho⟩,hp,ht,ne⟩:=id F;have hl:=W.len;refine⟨_,(pss_one (ps_ret (pe_comp (N:=["number","frame","self"]) (k:=1) (js:=[1,0]) rfl (cscope_of (by kernel_rfl)) (pi_reversed rfl T.z_reversed (pa_cons (pe_meth0 (pv 0) T.K_House T.t_Frames_standing G_Frames_standing hr T.b_Frames_standing .nil pass0) pa_nil)) (fun _ _ _ _ _=>⟨(pg_name (i:=0) (show(["number","frame","self"]:List Str).Nodup by decide+kernel) rfl (Or.inl rfl) (Or.inr rfl)),(pif1 (pt_cmpR (op_in_seqK (K:=K) rfl) (pv 1) (pe_meth (pv 2) T.K_House T.t_Frames_row G_Frames_row hr T.b_Frames_row .nil pass0 (pa_cons (pv 0) pa_nil)) (by with_unfolding_all rfl))),(pv 0)⟩)))),?_⟩;refine⟨_,rfl,f,dx,_,rfl,ho,flds_no (by decide+kernel),f,pa,ta,ps,ts,rfl,F,by have:=W.le;omega,fun sl H1 hsl s1 hs1=> ?_⟩;have F1:=F.same s1;obtain⟨⟨dx1,z1,ho1⟩,hp1,ht1,_⟩:=id F1;refine⟨sl,_,rfl,SqL.of hs1,?_⟩;have hS:((standM ts).map nV).reverse=(standM ts).reverse.map nV:=by rw[List.map_reverse]
    have hSl:((standM ts).map nV).reverse.length=(standM ts).reverse.length:=by rw[hS,List.length_map]
    refine comp_grow (fun i=>decide (t∈rowM ps ((standM ts).reverse.getD i 0))) (fun i=>nV ((standM ts).reverse.getD i 0)) (feeds_rev (SqL.of hs1)).g ?_ ?_ fun l H2 hl2 s2 hL=> ?_
    · rw[hSl,List.length_reverse]
      refine Nat.le_trans (List.length_filter_le _ _) ?_;rw[List.length_range];have:=W.le;exact Nat.le_trans (show ts.length≤101 by omega) (by decide)
    · intro i x H' C1 C0 hi sm hx c1 c0
      rw[hS,List.getElem?_map] at hx
      cases en:(standM ts).reverse[i]? with
      |none=>rw[en] at hx;cases hx
      | some n=>
        rw[en] at hx;cases hx;have ed:(standM ts).reverse.getD i 0=n:=by rw[List.getD_eq_getElem?_getD,en];rfl
        have hn:n<ps.length:=by
          have:=stand_lt (List.mem_reverse.mp (List.mem_of_getElem? en));omega
        rw[ed] at c1 c0;have F' :=F1.same sm;obtain⟨⟨dx',z',ho'⟩,_,_,_⟩:=id F';refine⟨(SubS.refl _).own (by decide),_,rfl,_,rfl,f,dx',_,rfl,ho',flds_no (by decide+kernel),_,rfl,f,pa,ta,ps,ts,n,rfl,F',W,hn,fun rl H3 hrl s3 hr3=> ?_⟩;refine⟨rl,_,rfl,.inl (SqL.of hr3),rfl,flat_nV _,_,rfl,?_⟩;have e:inV (V.int (t:Int)) ((rowM ps n).map nV)=decide (t∈rowM ps n):=inV_nV t _;show if inV (V.int (t:Int)) ((rowM ps n).map nV)=true then _ else _
        rw[e]
        cases hd:decide (t∈rowM ps n) with
        |true=>exact iteT ⟨_,rfl,c1 hd H3 s3⟩
        |false=>exact iteF (c0 hd H3 s3)
    · rw[hSl] at hL
      have hL:H2 l=some (.lst ((finM ps ts t).map nV)):=by
        rw[hL];exact congrArg (fun z=>some (HO.lst z)) (range_filter (standM ts).reverse (fun n=>decide (t∈rowM ps n)) nV)
      exact k l H2 (s1.free hl2) (s1.trans s2) hL
def spFinish (C:Addr):Sp:=fun vs H Q _=>∃f pa ta ps ts,∃t:Nat,vs=[.ref f,.int t]∧FrAt C H f pa ta ps ts∧WF ps ts∧standB ts (t:Int)=true∧t≠0∧
  ∀l H',H l=none→H' l=some (.lst ((finM ps ts t).map nV))→FrAt C H' f pa ta ps (setM t (finM ps ts t) ts)→Kept2 pa ta H H'→Q (.ref l) H'
theorem ok_Frames_finish (T:Txt K mg A):FnOk P w K mg base CX0 7 A.a_Frames_finish A.d_Frames_finish ["self","frame"] (spFinish A.a_House):=by
  have G_Frames_want_finishing:FnOk P w K mg base CX0 6 A.a_Frames_want_finishing A.d_Frames_want_finishing ["self","thing"] (spWantFin A.a_House):=ok_Frames_want_finishing T;have G_Frames_part:FnOk P w K mg base CX0 6 A.a_Frames_part A.d_Frames_part ["self","frame"] (spPart A.a_House):=ok_Frames_part T;refine T.F_Frames_finish.ok sc_Frames_finish (fun vs H Q E h=> ?_) (fun cdv Ar outer s H vs Q E hr h=> ?_)
  · obtain⟨f,pa,ta,ps,ts,t,rfl,_⟩:=h
    rfl
  · obtain ⟨f,pa,ta,ps,ts,t,rfl,F,W,hb,h0,k⟩:=h
    obtain⟨⟨dx,z,ho⟩,hp,ht,ne⟩:=id F;have hl:=W.len;have fp:f≠pa:=ne_of ho hp (by intro z;cases z);have ft:f≠ta:=ne_of ho ht (by intro z;cases z);refine⟨_,(pss_cons (ps_expr (pe_meth (pv 0) T.K_House T.t_Frames_want_finishing G_Frames_want_finishing hr T.b_Frames_want_finishing .nil pass0 (pa_cons (pv 1) pa_nil))) (pss_cons (ps_set (i:=2) sc_Frames_finish.nd rfl (Or.inl rfl) (pe_meth (pv 0) T.K_House T.t_Frames_part G_Frames_part hr T.b_Frames_part .nil pass0 (pa_cons (pv 1) pa_nil))) (pss_cons (ps_for PassesOwn.never rfl (pi_list (pv 2)) (pg_name (i:=3) sc_Frames_finish.nd rfl (Or.inl rfl) (Or.inl rfl)) (pss_one (ps_asg (pv 1) (pg_sub (pe_fld (pv 0) rfl) (pv 3) set_list)))) (pss_one (ps_ret (pv 2)))))),?_⟩;refine⟨_,rfl,f,dx,_,rfl,ho,flds_no (by decide+kernel),_,rfl,f,pa,ta,ps,ts,t,rfl,F,hl,hb,h0,?_⟩;refine⟨_,rfl,f,dx,_,rfl,ho,flds_no (by decide+kernel),_,rfl,f,pa,ta,ps,ts,t,rfl,F,W,fun l H2 hl0 s12 hL=> ?_⟩
    · have F2:=F.same s12
      obtain⟨⟨dx2,z2,ho2⟩,hp2,ht2,_⟩:=id F2
      have hlt:l≠ta:=fun z=>by
        rw[z,ht] at hl0;cases hl0
      refine⟨_,rfl,l,rfl,⟨_,SqL.of hL⟩,?_⟩;refine for_list (K:=K) (a:=l) (xs:=(finM ps ts t).map nV) (fun i σ H3=>∃(x:Option V),σ=[some (.ref f),some (.int t),some (.ref l),x]∧H3=upd H2 ta (.lst ((setM t ((finM ps ts t).take i) ts).map oV))) ⟨none,rfl,?_⟩ ?_ ?_ ?_
      · show H2=upd H2 ta (.lst (ts.map oV))
        funext c
        by_cases hc:c=ta
        · subst hc
          rw[upd_same];exact ht2
        · rw[upd_ne hc]
      · rintro i σ H3 _ ⟨x,rfl,rfl⟩
        exact SqL.of (by rw[upd_ne hlt];exact hL)
      · rintro i x σ H3 hi ⟨x',rfl,rfl⟩
        rw[List.getElem?_map] at hi
        cases en:(finM ps ts t)[i]? with
        |none=>rw[en] at hi;cases hi
        | some n=>
          rw[en] at hi;cases hi;have hn:=fin_lt (List.mem_of_getElem? en);refine⟨_,rfl,_,rfl,f,A.a_House,dx2,_,_,rfl,(by rw[upd_ne ft];exact ho2),T.K_House,T.n_House_takers,flds_t _ _ _,_,rfl,ta,_,_,n,rfl,rfl,upd_same,ixN_nat (by rw[List.length_map,setM_len];exact hn),?_⟩;refine⟨_,rfl,?_⟩;rw[upd_upd]
          have e1:(finM ps ts t).take (i+1)=(finM ps ts t).take i++[n]:=by
            rw[List.take_add_one,en];rfl
          rw[e1,setM_snoc,←map_set_oV]
      · rintro σ H3 ⟨x,rfl,rfl⟩
        rw[List.length_map,List.take_length];refine⟨_,rfl,k l _ hl0 (by rw[upd_ne hlt];exact hL) ⟨⟨dx2,z2,by rw[upd_ne ft];exact ho2⟩,by rw[upd_ne ne];exact hp2,upd_same,ne⟩ fun c o h1 h2 e=> ?_⟩;rw[upd_ne h2];exact s12 c o e
end
end My
namespace My
open PySem L2 PyProof.Rows
def Kept(b:Addr)(H H' :Hp):Prop:=∀c o,c≠b→H c=some o→H' c=some o
section
variable{P:Program}{w:World}{K:PySem.W.Frag}{mg:Str→Option Value}{base:Heap}{A:Adr}
def spCell(K:PySem.W.Frag):Sp:=fun vs H Q _=>∃(a:Addr) (ns:List Int) (k:Int),vs=[.ref a,.int k]∧SqL K H a (ns.map V.int)∧0≤k∧k<1000∧∀c,Q (.int c) H
theorem ok__law_cell (T:Txt K mg A):FnOk P w K mg base CX0 1 A.a__law_cell A.d__law_cell ["_law_script","_law_k"] (spCell K):=by
  refine T.F__law_cell.ok sc__law_cell (fun vs H Q E h=> ?_) (fun cdv Ar outer s H vs Q E hr h=> ?_)
  · obtain⟨a,ns,k,rfl,_⟩:=h
    rfl
  · obtain⟨a,ns,k,rfl,hS,h0,h1,q⟩:=h
    refine⟨_,(pss_cons (ps_if (pt_cmpR op_lt (pv 1) (pe_callB call_len_seq (by rfl) T.z_len Boot.«len» (pa_cons (pv 0) pa_nil)) (nomark _)) (pss_one (ps_ret (pe_ix ix_list (pv 0) (pv 1) (fun _ _=>rfl)))) pss_nil) (pss_one (ps_ret (pe_op op_add (pe_op op_mul pe_int (pv 1)) pe_int)))),?_⟩;refine⟨_,rfl,_,rfl,a,_,rfl,.inl hS,k,_,rfl,rfl,_,rfl,?_⟩;refine ite2 (fun hk=> ?_) (fun hk=> ?_)
    · have hk:=of_decide_eq_true hk
      rw[List.length_map] at hk;obtain⟨j,rfl⟩:∃j:Nat,k=j:=⟨k.toNat,by omega⟩;have hj:j<ns.length:=by omega
      exact⟨_,rfl,_,rfl,a,_,_,_,rfl,rfl,hS,atI_nat (v:= .int ns[j]) (by simp[hj]),q _⟩
    · exact⟨_,rfl,7919,k,rfl,rfl,.inl ⟨by decide,by decide⟩,_,_,rfl,rfl,q _⟩
def BoxAt(H:Hp)(b:Addr)(k:Nat):Prop:=∃(x y z:Int),H b=some (.lst [.int x,.int y,.int z])∧0≤x∧0≤y∧y<2147483629∧0≤z∧z≤(k:Int)
def Only(b:Addr)(H H' :Hp):Prop:=∀c,c≠b→H' c=H c
theorem Only.upd{b:Addr}{H:Hp}{o:HO}:Only b H (upd H b o):=fun c hc=>upd_ne hc
theorem Only.kept{b:Addr}{H H' :Hp}(h:Only b H H'):Kept b H H' :=fun c o hc e=>(h c hc).trans e
theorem Kept.refl(b:Addr)(H:Hp):Kept b H H:=fun _ _ _ e=>e
theorem Kept.trans{b:Addr}{H H1 H2:Hp}(h:Kept b H H1)(h' :Kept b H1 H2):Kept b H H2:=fun c o hc e=>h' c o hc (h c o hc e)
theorem _root_.L2.Same.kept{b:Addr}{H H' :Hp}(h:Same H H'):Kept b H H' :=fun c o _ e=>h c o e
theorem BoxAt.same {b:Addr} {k:Nat} {H H' :Hp} (B:BoxAt H b k) (h:Same H H'):BoxAt H' b k:=by
  obtain⟨x,y,z,hb,r⟩:=B;exact⟨x,y,z,h _ _ hb,r⟩
theorem BoxAt.mono {b:Addr} {k j:Nat} {H:Hp} (B:BoxAt H b k) (h:k≤j):BoxAt H b j:=by
  obtain⟨x,y,z,hb,h1,h2,h3,h4,h5⟩:=B;exact⟨x,y,z,hb,h1,h2,h3,h4,by omega⟩
theorem BoxAt.ne {b p:Addr} {k:Nat} {H:Hp} (B:BoxAt H b k) (h:H p=none):p≠b:=by
  obtain⟨x,y,z,hb,_⟩:=B;exact(ne_of_none hb h).symm
theorem BoxAt.ne' {b t:Addr} {k:Nat} {H:Hp} {xs:List V} (B:BoxAt H b k) {H0:Hp} (_:H0 t=none) (h:H t=some (.tup xs)):t≠b:=by
  obtain⟨x,y,z,hb,_⟩:=B;exact(ne_of hb h (by intro q;cases q)).symm
theorem ix_any {K:PySem.W.Frag} {H:Hp} {p:Addr} {xs:List V} {i:Int} {Q:VK} (Pv:V→Prop) (h:H p=some (.lst xs)) (h0:0≤i) (h1:i<xs.length) (hP:∀x∈xs,Pv x) (q:∀v,Pv v→Q v H):rIxL K (.ref p) (.int i) H Q:=by
  obtain⟨j,rfl⟩:∃j:Nat,i=j:=⟨i.toNat,by omega⟩;have hj:j<xs.length:=by omega
  exact⟨p,xs,j,xs[j],rfl,rfl,SqL.of h,atI_nat (by simp[hj]),q _ (hP _ (List.getElem_mem hj))⟩
def spBox:Sp:=fun vs H Q _=>∃c,vs=[.int c]∧∀b H',H b=none→BoxAt H' b 0→Same H H'→Q (.ref b) H'
theorem ok__law_box (T:Txt K mg A):FnOk P w K mg base CX0 1 A.a__law_box A.d__law_box ["_law_cell_here"] spBox:=by
  refine T.F__law_box.ok sc__law_box (fun vs H Q E h=> ?_) (fun cdv Ar outer s H vs Q E hr h=> ?_)
  · obtain⟨c,rfl,_⟩:=h
    rfl
  · obtain⟨c,rfl,q⟩:=h
    refine⟨_,(pss_one (ps_ret (pe_lst (pa_cons (pe_callB (call_max2 rfl) (by rfl) T.z_max Boot.«max» (pa_cons pe_int (pa_cons (pe_op op_sub (pv 0) (pe_op op_pow pe_int pe_int)) pa_nil))) (pa_cons (pe_op op_mod (pv 0) pe_int) (pa_cons pe_int pa_nil)))))),?_⟩;refine⟨_,rfl,10,18,rfl,rfl,⟨by decide,by decide,by decide⟩,c,_,rfl,rfl,0,_,rfl,?_⟩;refine⟨_,rfl,c,2147483629,rfl,rfl,(show(0:Int)<2147483629 by decide),(show 3≤sizeLine by decide),fun p hp=> ?_⟩;refine q p _ hp ⟨_,_,0,upd_same,?_,?_,?_,by decide,by decide⟩ (Same.upd hp)
    · split<;>omega
    · omega
    · omega
def spTake:Sp:=fun vs H Q _=>∃(b:Addr) (n:Int) (k:Nat),vs=[.ref b,.int n]∧BoxAt H b k∧k≤100000∧0<n∧n<1073741824∧
  ∀(r:Int) (H' :Hp),0≤r→r<n→BoxAt H' b (k+1)→Only b H H'→Q (.int r) H'
theorem ok__law_take (T:Txt K mg A):FnOk P w K mg base CX0 1 A.a__law_take A.d__law_take ["_law_box_here","_law_many"] spTake:=by
  refine T.F__law_take.ok sc__law_take (fun vs H Q E h=> ?_) (fun cdv Ar outer s H vs Q E hr h=> ?_)
  · obtain⟨b,n,k,rfl,_⟩:=h
    rfl
  · obtain⟨b,n,k,rfl,⟨x,y,z,hb,hx,hy,hy2,hz,hz2⟩,hk,hn,hn2,q⟩:=h
    refine⟨_,(pss_cons (ps_if (pt_cmpR op_gt (pe_ix ix_list (pv 0) pe_int (fun _ _=>rfl)) pe_int (nomark _)) (pss_cons (ps_set (i:=2) sc__law_take.nd rfl (Or.inl rfl) (pe_op op_mod (pe_ix ix_list (pv 0) pe_int (fun _ _=>rfl)) (pv 1))) (pss_cons (ps_asg (pe_op op_fdiv (pe_ix ix_list (pv 0) pe_int (fun _ _=>rfl)) (pv 1)) (pg_sub (pv 0) pe_int set_list)) (pss_one (ps_ret (pv 2))))) pss_nil) (pss_cons (ps_asg (pe_op op_add (pe_ix ix_list (pv 0) pe_int (fun _ _=>rfl)) pe_int) (pg_sub (pv 0) pe_int set_list)) (pss_cons (ps_set (i:=3) sc__law_take.nd rfl (Or.inl rfl) (pe_op op_mod (pe_op op_pow (pe_op op_add (pe_op op_add (pe_ix ix_list (pv 0) pe_int (fun _ _=>rfl)) (pe_op op_mul pe_int (pe_ix ix_list (pv 0) pe_int (fun _ _=>rfl)))) pe_int) pe_int) pe_int)) (pss_cons (ps_set (i:=4) sc__law_take.nd rfl (Or.inl rfl) (pe_op op_mod (pe_op op_pow (pe_op op_add (pe_op op_add (pe_op op_fdiv (pv 3) pe_int) (pe_op op_mul pe_int (pe_ix ix_list (pv 0) pe_int (fun _ _=>rfl)))) pe_int) pe_int) pe_int)) (pss_one (ps_ret (pe_op op_mod (pe_op op_add (pe_op op_fdiv (pv 3) pe_int) (pe_op op_mul pe_int (pe_op op_fdiv (pv 4) pe_int))) (pv 1)))))))),?_⟩;refine⟨_,rfl,b,_,_,_,rfl,rfl,SqL.of hb,rfl,_,_,rfl,rfl,_,rfl,?_⟩;refine ite2 (fun h0=> ?_) (fun h0=> ?_)
    · refine⟨_,rfl,b,_,_,_,rfl,rfl,SqL.of hb,rfl,_,rfl,x,n,rfl,rfl,hn,?_⟩
      refine⟨_,rfl,b,_,_,_,rfl,rfl,SqL.of hb,rfl,_,rfl,x,n,rfl,rfl,⟨hn,hn2⟩,?_⟩;refine⟨_,rfl,b,_,0,0,rfl,rfl,hb,rfl,?_⟩;refine⟨_,rfl,q _ _ (Int.emod_nonneg _ (by omega)) (Int.emod_lt_of_pos _ hn) ⟨_,y,z,upd_same,Int.ediv_nonneg hx (by omega),hy,hy2,hz,by omega⟩ Only.upd⟩
    · refine⟨_,rfl,b,_,_,_,rfl,rfl,SqL.of hb,rfl,z,1,rfl,rfl,?_⟩
      refine⟨_,rfl,b,_,2,2,rfl,rfl,hb,rfl,?_⟩;have hb' :upd H b (.lst [.int x,.int y,.int (z+1)]) b=some (.lst [.int x,.int y,.int (z+1)]):=upd_same;refine⟨_,rfl,b,_,_,_,rfl,rfl,SqL.of hb',rfl,_,rfl,b,_,_,_,rfl,rfl,SqL.of hb',rfl,7919,z+1,rfl,rfl,.inl ⟨by decide,by decide⟩,y,_,rfl,rfl,_,29,rfl,rfl,_,5,rfl,rfl,⟨by decide,by decide,?_⟩,_,2147483647,rfl,rfl,(show(0:Int)<2147483647 by decide),?_⟩
      · omega
      dsimp only;generalize e1:(y+7919*(z+1)+29) ^ (5:Int).toNat % 2147483647=one;have b1:0≤one:=by rw[←e1];exact Int.emod_nonneg _ (by decide)
      have b2:one<2147483647:=by rw[←e1];exact Int.emod_lt_of_pos _ (by decide)
      refine⟨_,rfl,one,8,rfl,rfl,⟨by decide,by decide⟩,_,rfl,b,_,_,_,rfl,rfl,SqL.of hb',rfl,104729,z+1,rfl,rfl,.inl ⟨by decide,by decide⟩,_,_,rfl,rfl,_,3,rfl,rfl,_,3,rfl,rfl,⟨by decide,by decide,?_⟩,_,2147483629,rfl,rfl,(show(0:Int)<2147483629 by decide),?_⟩
      · omega
      dsimp only;generalize e2:(one / 8+104729*(z+1)+3) ^ (3:Int).toNat % 2147483629=other;have b3:0≤other:=by rw[←e2];exact Int.emod_nonneg _ (by decide)
      have b4:other<2147483629:=by rw[←e2];exact Int.emod_lt_of_pos _ (by decide)
      refine⟨_,rfl,one,4,rfl,rfl,⟨by decide,by decide⟩,_,rfl,other,4,rfl,rfl,⟨by decide,by decide⟩,536870909,_,rfl,rfl,.inl ⟨by decide,by decide⟩,_,_,rfl,rfl,_,rfl,_,n,rfl,rfl,hn,?_⟩;exact q _ _ (Int.emod_nonneg _ (by omega)) (Int.emod_lt_of_pos _ hn) ⟨x,y,z+1,upd_same,hx,hy,hy2,by omega,by omega⟩ Only.upd
abbrev kH:Key:=Sum.inr "holders"
abbrev kT:Key:=Sum.inr "takers"
theorem kHT:¬kH=kT:=by decide+kernel
abbrev kL:Key:=Sum.inr "limit"
abbrev kP:Key:=Sum.inr "top"
abbrev kW:Key:=Sum.inr "ways"
abbrev kC:Key:=Sum.inr "cells"
structure MX where
  li:V
  tp:V
  wl:V
  ca:V
def kvM(ha tk:Addr)(z:MX):List (Key×V):=[(kH,.ref ha),(kT,.ref tk),(kL,z.li),(kP,z.tp),(kW,z.wl),(kC,z.ca)]
theorem val_h(ha tk:Addr)(z:MX):valV (kvM ha tk z) kH=some (.ref ha):=valV_pos rfl
theorem val_t(ha tk:Addr)(z:MX):valV (kvM ha tk z) kT=some (.ref tk):=(valV_neg kHT).trans (valV_pos rfl)
theorem val_p(ha tk:Addr)(z:MX):valV (kvM ha tk z) kP=some z.tp:=((valV_neg (show ¬kH=kP by decide+kernel)).trans ((valV_neg (show ¬kT=kP by decide+kernel)).trans ((valV_neg (show ¬kL=kP by decide+kernel)).trans (valV_pos rfl))))
theorem val_w(ha tk:Addr)(z:MX):valV (kvM ha tk z) kW=some z.wl:=((valV_neg (show ¬kH=kW by decide+kernel)).trans ((valV_neg (show ¬kT=kW by decide+kernel)).trans ((valV_neg (show ¬kL=kW by decide+kernel)).trans ((valV_neg (show ¬kP=kW by decide+kernel)).trans (valV_pos rfl)))))
theorem val_c(ha tk:Addr)(z:MX):valV (kvM ha tk z) kC=some z.ca:=((valV_neg (show ¬kH=kC by decide+kernel)).trans ((valV_neg (show ¬kT=kC by decide+kernel)).trans ((valV_neg (show ¬kL=kC by decide+kernel)).trans ((valV_neg (show ¬kP=kC by decide+kernel)).trans ((valV_neg (show ¬kW=kC by decide+kernel)).trans (valV_pos rfl))))))
structure ModAt (H:Hp) (d ha tk:Addr) (ps ts:List (Option Nat)):Prop where
  ob:∃z,H d=some (.dK (kvM ha tk z))
  hl:H ha=some (.lst (ps.map oV))
  tl:H tk=some (.lst (ts.map oV))
  ne:ha≠tk
theorem ModAt.same{H H' :Hp}{d ha tk:Addr}{ps ts:List (Option Nat)}(M:ModAt H d ha tk ps ts)(s:Same H H'):ModAt H' d ha tk ps ts:=⟨M.ob.imp fun _ e=>s _ _ e,s _ _ M.hl,s _ _ M.tl,M.ne⟩
theorem ModAt.getH {H:Hp} {d ha tk:Addr} {ps ts:List (Option Nat)} (M:ModAt H d ha tk ps ts):DGet H d (.str "holders") (some (.ref ha)):=by
  obtain⟨z,e⟩:=M.ob;have:=DGet.k (k:=kH) e;rw[val_h] at this;exact this
theorem ModAt.getT {H:Hp} {d ha tk:Addr} {ps ts:List (Option Nat)} (M:ModAt H d ha tk ps ts):DGet H d (.str "takers") (some (.ref tk)):=by
  obtain⟨z,e⟩:=M.ob;have:=DGet.k (k:=kT) e;rw[val_t] at this;exact this
def spLStanding:Sp:=fun vs H Q _=>∃d ha tk ps ts,vs=[.ref d]∧ModAt H d ha tk ps ts∧ts.length≤1000∧∀l H',H l=none→Same H H'→H' l=some (.lst ((standM ts).map nV))→Q (.ref l) H'
theorem ok__law_standing (T:Txt K mg A):FnOk P w K mg base CX0 1 A.a__law_standing A.d__law_standing ["_law_model"] spLStanding:=by
  refine T.F__law_standing.ok sc__law_standing (fun vs H Q E h=> ?_) (fun cdv Ar outer s H vs Q E hr h=> ?_)
  · obtain⟨d,ha,tk,ps,ts,rfl,_⟩:=h
    rfl
  · obtain⟨d,ha,tk,ps,ts,rfl,M,hle,k⟩:=h
    have hu:=hu_of hr;refine⟨_,(pss_one (ps_ret (pe_comp (N:=["_law_k","_law_model"]) (k:=1) (js:=[0]) rfl (cscope_of (by kernel_rfl)) (pi_range1 rfl T.z_range (pa_cons (pe_callB call_len_seq (by rfl) T.z_len Boot.«len» (pa_cons (pe_dget hu (pv 0) pe_str (fun _ _=>rfl)) pa_nil)) pa_nil)) (fun _ _ _ _ _=>⟨(pg_name (i:=0) (show(["_law_k","_law_model"]:List Str).Nodup by decide+kernel) rfl (Or.inl rfl) (Or.inr rfl)),(pif1 (pt_cmpR op_isN (pe_ix (ix_listK (K:=K) rfl) (pe_dget hu (pv 1) pe_str (fun _ _=>rfl)) (pv 0) (fun _ _=>rfl)) pe_non (nomark _))),(pv 0)⟩)))),?_⟩;refine⟨_,rfl,d,_,rfl,M.getT,tk,_,rfl,.inl (SqL.of M.tl),_,rfl,?_,?_,?_⟩
    · omega
    · rw[List.length_map]
      omega
    rw[List.length_map,Int.toNat_natCast];have hln:((List.range ts.length).map fun(i:Nat)=>V.int (0+(i:Int))).length=ts.length:=by rw[List.length_map,List.length_range]
    refine comp_grow (fun i=>ts[i]? ==some none) nV (feeds_range 0 ts.length H).g ?_ ?_ fun p H' hp sm hl=>k p H' hp sm ?_
    · rw[hln]
      exact Nat.le_trans hle (by decide)
    · intro i x H' C1 C0 hi sm hx c1 c0
      rw[hln] at hi;rw[List.getElem?_map,List.getElem?_range hi] at hx;cases hx;have hxi:ts[i]? =some ts[i]:=by simp[hi]
      have M' :=M.same sm;rw[hxi] at c1 c0;refine⟨(SubS.refl _).own (by decide),_,rfl,d,_,rfl,M'.getT,_,rfl,tk,_,_,_,rfl,rfl,SqL.of M'.tl,(by rw[Int.zero_add];exact at_map hxi),rfl,_,rfl,?_⟩
      cases eo:ts[i] with
      | none=>
        rw[eo] at c1;refine⟨_,rfl,?_⟩;have q:=c1 rfl H' (Same.refl H')
        have e:V.int (0+(i:Int))=nV i:=by
          show V.int (0+(i:Int))=V.int (i:Int);rw[Int.zero_add]
        show C1 (V.int (0+(i:Int))) H';rw[e];exact q
      | some n=>
        rw[eo] at c0;exact c0 rfl H' (Same.refl H')
    · rw[hln] at hl
      exact hl
theorem at_head(m:Nat)(rest:List Nat):atI ((m::rest).map nV) 0=some (nV m):=atI_nat (xs:=(m::rest).map nV) (j:=0) (v:=nV m) rfl
def spLRow:Sp:=fun vs H Q _=>∃d ha tk ps ts,∃t:Nat,vs=[.ref d,.int t]∧ModAt H d ha tk ps ts∧WF ps ts∧t<ps.length∧∀l H',H l=none→Same H H'→H' l=some (.lst ((rowM ps t).map nV))→Q (.ref l) H'
theorem ok__law_row (T:Txt K mg A):FnOk P w K mg base CX0 1 A.a__law_row A.d__law_row ["_law_model","_law_frame"] spLRow:=by
  refine T.F__law_row.ok sc__law_row (fun vs H Q E h=> ?_) (fun cdv Ar outer s H vs Q E hr h=> ?_)
  · obtain⟨d,ha,tk,ps,ts,t,rfl,_⟩:=h
    rfl
  · obtain ⟨d,ha,tk,ps,ts,t,rfl,M,W,hlt,k⟩:=h
    have hu:=hu_of hr;refine⟨_,(pss_cons (ps_set (i:=2) sc__law_row.nd rfl (Or.inl rfl) (pe_lst (pa_cons (pv 1) pa_nil))) (pss_cons (ps_while PassesOwn.never (pt_cmpR op_notN (pe_ix ix_list (pe_dget hu (pv 0) pe_str (fun _ _=>rfl)) (pe_ix ix_list (pv 2) pe_int (fun _ _=>rfl)) (fun _ _=>rfl)) pe_non (nomark _)) (pss_one (ps_set (i:=2) sc__law_row.nd rfl (Or.inl rfl) (pe_op op_cat (pe_lst (pa_cons (pe_ix ix_list (pe_dget hu (pv 0) pe_str (fun _ _=>rfl)) (pe_ix ix_list (pv 2) pe_int (fun _ _=>rfl)) (fun _ _=>rfl)) pa_nil)) (pv 2))))) (pss_one (ps_ret (pv 2))))),?_⟩;refine⟨_,rfl,(show 1≤sizeLine by decide),fun l0 hl0=> ?_⟩
    have up101:(upM ps t).length≤101:=by
      have:=up_len ps t t;have:=W.le;show(upF ps t t).length≤101;omega
    refine⟨fun m σ H' =>∃(c:Nat) (rest:List Nat) (l:Addr) (o:Option Nat),σ=[some (.ref d),some (.int t),some (.ref l)]∧H' l=some (.lst ((c::rest).map nV))∧H l=none∧Same H H'∧ps[c]? =some o∧(c::rest).reverse++upO ps o=upM ps t∧m=c,⟨t,t,[],l0,ps[t],rfl,upd_same,hl0,Same.upd hl0,by simp[hlt],?_,rfl⟩,?_⟩
    · exact(up_step W (by simp[hlt])).symm
    · rintro m σ H' ⟨c,rest,l,o,rfl,hl,hlH,sm,hc,hup,rfl⟩
      have M' :=M.same sm;refine⟨_,rfl,d,_,rfl,M'.getH,_,rfl,l,_,_,_,rfl,rfl,SqL.of hl,at_head _ _,ha,_,_,_,rfl,rfl,SqL.of M'.hl,at_map hc,rfl,_,rfl,?_⟩
      cases o with
      | none=>
        refine⟨_,rfl,k l H' hlH sm ?_⟩;have e:(m::rest).reverse=upM ps t:=by simpa[upO] using hup
        have e2:m::rest=rowM ps t:=by
          show m::rest=(upM ps t).reverse;rw[←e,List.reverse_reverse]
        rw[hl,e2]
      | some j=>
        have hjm:j<m∧j<ps.length:=by
          have hml:m<ps.length:=(List.getElem?_eq_some_iff.mp hc).1
          cases m with
          |zero=>rw[W.root] at hc;cases hc
          | succ g=>
            obtain⟨i',e',hi'⟩:=W.par (g+1) (by omega) hml;rw[e'] at hc;cases hc;exact⟨hi',by omega⟩
        have hxj:ps[j]? =some ps[j]:=by simp[hjm.2]
        have hup2:(m::rest).reverse++upM ps j=upM ps t:=hup
        have hlen:(m::rest).length≤101:=by
          have e1:((m::rest).reverse++upM ps j).length≤101:=by rw[hup2];exact up101
          rw[List.length_append,List.length_reverse] at e1;omega
        refine⟨_,fun σ' H' h=>h,?_⟩;refine⟨_,rfl,d,_,rfl,M'.getH,_,rfl,l,_,_,_,rfl,rfl,SqL.of hl,at_head _ _,ha,_,_,_,rfl,rfl,SqL.of M'.hl,at_map hc,(show 1≤sizeLine by decide),fun p1 h1=> ?_⟩;have s1:=Same.upd (o:= .lst [oV (some j)]) h1;refine⟨_,rfl,p1,l,_,_,rfl,rfl,upd_same,s1 _ _ hl,?_,fun p2 h2=> ?_⟩
        · rw[List.length_map]
          exact Nat.le_trans (show 1+(m::rest).length≤200 by omega) (by decide)
        have s2:=Same.upd (o:= .lst ([oV (some j)]++(m::rest).map nV)) h2;refine⟨j,hjm.1,j,m::rest,p2,ps[j],rfl,?_,sm.free (s1.free h2),sm.trans (s1.trans s2),hxj,?_,rfl⟩
        · rw[upd_same]
          rfl
        · rw[List.reverse_cons,List.append_assoc,←hup2,up_step W hxj]
          rfl
end
end My
namespace My
open PySem L2 PyProof.Rows
section
variable{P:Program}{w:World}{K:PySem.W.Frag}{mg:Str→Option Value}{base:Heap}{A:Adr}
theorem ModAt.apart{H:Hp}{d ha tk:Addr}{ps ts:List (Option Nat)}(M:ModAt H d ha tk ps ts):d≠ha∧d≠tk:=let⟨_,e⟩:=M.ob;⟨ne_of e M.hl (by intro z;cases z),ne_of e M.tl (by intro z;cases z)⟩
def spLBegin:Sp:=fun vs H Q _=>∃d ha tk ps ts,∃t:Nat,vs=[.ref d,.int t]∧ModAt H d ha tk ps ts∧ps.length≤100∧ts.length≤100∧
  ∀H',ModAt H' d ha tk (ps++[some t]) (ts++[none])→Kept2 ha tk H H'→Q (.int ps.length) H'
theorem ok__law_begin (T:Txt K mg A):FnOk P w K mg base CX0 1 A.a__law_begin A.d__law_begin ["_law_model","_law_frame"] spLBegin:=by
  refine T.F__law_begin.ok sc__law_begin (fun vs H Q E h=> ?_) (fun cdv Ar outer s H vs Q E hr h=> ?_)
  · obtain⟨d,ha,tk,ps,ts,t,rfl,_⟩:=h
    rfl
  · obtain⟨d,ha,tk,ps,ts,t,rfl,M,hle,hle2,k⟩:=h
    have hu:=hu_of hr;obtain⟨n1,n2⟩:=M.apart;refine⟨_,(pss_cons (ps_expr (pe_bm PySem.F.plainAttrs_list PySem.F.slot_list_append PySem.F.type_list_append mt_append (pe_dget hu (pv 0) pe_str (fun _ _=>rfl)) (pa_cons (pv 1) pa_nil))) (pss_cons (ps_expr (pe_bm PySem.F.plainAttrs_list PySem.F.slot_list_append PySem.F.type_list_append mt_append (pe_dget hu (pv 0) pe_str (fun _ _=>rfl)) (pa_cons pe_non pa_nil))) (pss_one (ps_ret (pe_op op_sub (pe_callB call_len_seq (by rfl) T.z_len Boot.«len» (pa_cons (pe_dget hu (pv 0) pe_str (fun _ _=>rfl)) pa_nil)) pe_int))))),?_⟩;refine⟨_,rfl,d,_,rfl,M.getH,.inl ⟨rfl,_,SqL.of M.hl⟩,_,rfl,ha,_,_,rfl,rfl,M.hl,?_,?_⟩
    · rw[List.length_map]
      exact Nat.lt_of_le_of_lt hle (by decide)
    have e1:ps.map oV++[V.int (t:Int)]=(ps++[some t]).map oV:=by rw[List.map_append];rfl
    rw[e1];have M1:ModAt (upd H ha (.lst ((ps++[some t]).map oV))) d ha tk (ps++[some t]) ts:=⟨M.ob.imp fun _ e=>by rw[upd_ne n1];exact e,upd_same,by rw[upd_ne M.ne.symm];exact M.tl,M.ne⟩;refine⟨_,rfl,d,_,rfl,M1.getT,.inl ⟨rfl,_,SqL.of M1.tl⟩,tk,_,_,rfl,rfl,M1.tl,?_,?_⟩
    · rw[List.length_map]
      exact Nat.lt_of_le_of_lt hle2 (by decide)
    have e2:ts.map oV++[V.non]=(ts++[none]).map oV:=by rw[List.map_append];rfl
    rw[e2];have M2:ModAt (upd (upd H ha (.lst ((ps++[some t]).map oV))) tk (.lst ((ts++[none]).map oV))) d ha tk (ps++[some t]) (ts++[none]):=⟨by rw[upd_ne n2];exact M1.ob,by rw[upd_ne M.ne];exact M1.hl,upd_same,M.ne⟩;refine⟨_,rfl,d,_,rfl,M2.getH,ha,_,rfl,.inl (SqL.of M2.hl),_,1,rfl,rfl,?_⟩
    have e3:(((List.map oV (ps++[some t])).length:Int) - 1)=(ps.length:Int):=by
      rw[List.length_map,List.length_append];show((ps.length+1:Nat):Int) - 1=_;omega
    show Q (V.int (((List.map oV (ps++[some t])).length:Int) - 1)) _;rw[e3];refine k _ M2 fun c o h1 h2 e=> ?_;rw[upd_ne h2,upd_ne h1];exact e
def spLFinish:Sp:=fun vs H Q _=>∃d ha tk ps ts,∃t:Nat,vs=[.ref d,.int t]∧ModAt H d ha tk ps ts∧WF ps ts∧
  ∀l H',H l=none→H' l=some (.lst ((finM ps ts t).map nV))→ModAt H' d ha tk ps (setM t (finM ps ts t) ts)→Kept2 ha tk H H'→Q (.ref l) H'
theorem ok__law_finish (T:Txt K mg A):FnOk P w K mg base CX0 2 A.a__law_finish A.d__law_finish ["_law_model","_law_frame"] spLFinish:=by
  have G__law_standing:FnOk P w K mg base CX0 1 A.a__law_standing A.d__law_standing ["_law_model"] spLStanding:=ok__law_standing T;have G__law_row:FnOk P w K mg base CX0 1 A.a__law_row A.d__law_row ["_law_model","_law_frame"] spLRow:=ok__law_row T;refine T.F__law_finish.ok sc__law_finish (fun vs H Q E h=> ?_) (fun cdv Ar outer s H vs Q E hr h=> ?_)
  · obtain⟨d,ha,tk,ps,ts,t,rfl,_⟩:=h
    rfl
  · obtain ⟨d,ha,tk,ps,ts,t,rfl,M,W,k⟩:=h
    have hu:=hu_of hr;have hl:=W.len;obtain⟨n1,n2⟩:=M.apart;refine⟨_,(pss_cons (ps_setC (i:=2) sc__law_finish.nd rfl (Or.inl rfl) (N:=["_law_k","_law_frame","_law_model"]) (k:=1) (js:=[1,0]) rfl (cscope_of (by kernel_rfl)) (pi_list (pe_revsl (pe_call G__law_standing hr rfl T.m__law_standing T.F__law_standing.kp T.b__law_standing .nil pass0 (pa_cons (pv 0) pa_nil)) (pe_un un_neg pe_int))) (fun _ _ _ _ _=>⟨(pg_name (i:=0) (show(["_law_k","_law_frame","_law_model"]:List Str).Nodup by decide+kernel) rfl (Or.inl rfl) (Or.inr rfl)),(pif1 (pt_cmpR (op_in_seqK (K:=K) rfl) (pv 1) (pe_call G__law_row hr rfl T.m__law_row T.F__law_row.kp T.b__law_row .nil pass0 (pa_cons (pv 2) (pa_cons (pv 0) pa_nil))) (by with_unfolding_all rfl))),(pv 0)⟩)) (pss_cons (ps_for PassesOwn.never rfl (pi_list (pv 2)) (pg_name (i:=3) sc__law_finish.nd rfl (Or.inl rfl) (Or.inl rfl)) (pss_one (ps_asg (pv 1) (pg_sub (pe_dget hu (pv 0) pe_str (fun _ _=>rfl)) (pv 3) set_list)))) (pss_one (ps_ret (pv 2))))),?_⟩;refine⟨_,rfl,d,ha,tk,ps,ts,rfl,M,by have:=W.le;omega,fun sl H1 hsl s1 hs1=> ?_⟩;refine⟨1,rfl,_,rfl,sl,_,rfl,rfl,SqL.of hs1,fun rl hrl=> ?_⟩;have s1' :=s1.trans (Same.upd (o:= .lst ((standM ts).map nV).reverse) hrl);have hS:((standM ts).map nV).reverse=(standM ts).reverse.map nV:=by rw[List.map_reverse]
    have hR:upd H1 rl (.lst ((standM ts).map nV).reverse) rl=some (.lst ((standM ts).reverse.map nV)):=by rw[upd_same,hS]
    have M1:=M.same s1';generalize upd H1 rl (.lst ((standM ts).map nV).reverse)=H1' at s1' hR M1;refine⟨rl,rfl,⟨_,SqL.of hR⟩,?_⟩;have hSl:((standM ts).reverse.map nV).length=(standM ts).reverse.length:=by rw[List.length_map]
    refine comp_grow (fun i=>decide (t∈rowM ps ((standM ts).reverse.getD i 0))) (fun i=>nV ((standM ts).reverse.getD i 0)) (feeds_list (SqL.of hR)).g ?_ ?_ fun l H2 hl2 s2 hL=> ?_
    · rw[hSl,List.length_reverse]
      refine Nat.le_trans (List.length_filter_le _ _) ?_;rw[List.length_range];have:=W.le;exact Nat.le_trans (show ts.length≤101 by omega) (by decide)
    · intro i x H' C1 C0 hi sm hx c1 c0
      rw[List.getElem?_map] at hx
      cases en:(standM ts).reverse[i]? with
      |none=>rw[en] at hx;cases hx
      | some n=>
        rw[en] at hx;cases hx;have ed:(standM ts).reverse.getD i 0=n:=by rw[List.getD_eq_getElem?_getD,en];rfl
        have hn:n<ps.length:=by
          have:=stand_lt (List.mem_reverse.mp (List.mem_of_getElem? en));omega
        rw[ed] at c1 c0;have M' :=M1.same sm;refine⟨(SubS.refl _).own (by decide),_,rfl,_,rfl,_,rfl,d,ha,tk,ps,ts,n,rfl,M',W,hn,fun rl H3 hrl s3 hr3=> ?_⟩;refine⟨rl,_,rfl,.inl (SqL.of hr3),rfl,flat_nV _,_,rfl,?_⟩;have e:inV (V.int (t:Int)) ((rowM ps n).map nV)=decide (t∈rowM ps n):=inV_nV t _;show if inV (V.int (t:Int)) ((rowM ps n).map nV)=true then _ else _
        rw[e]
        cases hd:decide (t∈rowM ps n) with
        |true=>exact iteT ⟨_,rfl,c1 hd H3 s3⟩
        |false=>exact iteF (c0 hd H3 s3)
    · rw [hSl] at hL
      have hL:H2 l=some (.lst ((finM ps ts t).map nV)):=by
        rw[hL];exact congrArg (fun z=>some (HO.lst z)) (range_filter (standM ts).reverse (fun n=>decide (t∈rowM ps n)) nV)
      have s12:=s1'.trans s2;have M2:=M.same s12
      have hlt:l≠tk:=fun z=>by
        have:=s1' _ _ M.tl;rw[←z,hl2] at this;cases this
      have hl0:H l=none:=s1'.free hl2;refine⟨_,rfl,l,rfl,⟨_,SqL.of hL⟩,?_⟩;refine for_list (K:=K) (a:=l) (xs:=(finM ps ts t).map nV) (fun i σ H3=>∃(x:Option V),σ=[some (.ref d),some (.int t),some (.ref l),x]∧H3=upd H2 tk (.lst ((setM t ((finM ps ts t).take i) ts).map oV))) ⟨none,rfl,?_⟩ ?_ ?_ ?_
      · show H2=upd H2 tk (.lst (ts.map oV))
        funext c
        by_cases hc:c=tk
        · subst hc
          rw[upd_same];exact M2.tl
        · rw[upd_ne hc]
      · rintro i σ H3 _ ⟨x,rfl,rfl⟩
        exact SqL.of (by rw[upd_ne hlt];exact hL)
      · rintro i x σ H3 hi ⟨x',rfl,rfl⟩
        rw[List.getElem?_map] at hi
        cases en:(finM ps ts t)[i]? with
        |none=>rw[en] at hi;cases hi
        | some n=>
          rw[en] at hi;cases hi;have hn:=fin_lt (List.mem_of_getElem? en);have M3:ModAt (upd H2 tk (.lst ((setM t ((finM ps ts t).take i) ts).map oV))) d ha tk ps (setM t ((finM ps ts t).take i) ts):=⟨M2.ob.imp fun _ e=>by rw[upd_ne n2];exact e,by rw[upd_ne M.ne];exact M2.hl,upd_same,M.ne⟩;refine⟨_,rfl,_,rfl,d,_,rfl,M3.getT,_,rfl,tk,_,_,n,rfl,rfl,upd_same,ixN_nat (by rw[List.length_map,setM_len];exact hn),?_⟩;refine⟨_,rfl,?_⟩;rw[upd_upd]
          have e1:(finM ps ts t).take (i+1)=(finM ps ts t).take i++[n]:=by
            rw[List.take_add_one,en];rfl
          rw[e1,setM_snoc,←map_set_oV]
      · rintro σ H3 ⟨x,rfl,rfl⟩
        rw[List.length_map,List.take_length];refine⟨_,rfl,k l _ hl0 (by rw[upd_ne hlt];exact hL) ⟨M2.ob.imp fun _ e=>by rw[upd_ne n2];exact e,by rw[upd_ne M.ne];exact M2.hl,upd_same,M.ne⟩ fun c o h1 h2 e=> ?_⟩;rw[upd_ne h2];exact s12 c o e
def spOne:Sp:=fun vs H Q _=>∃(b l:Addr) (k:Nat) (S:List Nat),vs=[.ref b,.ref l]∧BoxAt H b k∧k+2≤2000∧H l=some (.lst (S.map nV))∧l≠b∧S≠[]∧S.length≤1000∧
  ∀n H',n∈S→BoxAt H' b (k+2)→Kept b H H'→Q (nV n) H'
theorem ok__law_one (T:Txt K mg A):FnOk P w K mg base CX0 2 A.a__law_one A.d__law_one ["_law_box_here","_law_some"] spOne:=by
  have G__law_take:FnOk P w K mg base CX0 1 A.a__law_take A.d__law_take ["_law_box_here","_law_many"] spTake:=ok__law_take T;refine T.F__law_one.ok sc__law_one (fun vs H Q E h=> ?_) (fun cdv Ar outer s H vs Q E hr h=> ?_)
  · obtain⟨b,l,k,S,rfl,_⟩:=h
    rfl
  · obtain⟨b,l,k,S,rfl,B,hk,hl,lb,hS,hlen,q⟩:=h
    have hpos:0<S.length:=List.length_pos_iff.mpr hS;refine⟨_,(pss_cons (ps_set (i:=2) sc__law_one.nd rfl (Or.inl rfl) (pe_call G__law_take hr rfl T.m__law_take T.F__law_take.kp T.b__law_take .nil pass0 (pa_cons (pv 0) (pa_cons pe_int pa_nil)))) (pss_cons (ps_set (i:=3) sc__law_one.nd rfl (Or.inl rfl) (pe_call G__law_take hr rfl T.m__law_take T.F__law_take.kp T.b__law_take .nil pass0 (pa_cons (pv 0) (pa_cons (pe_callB call_len_seq (by rfl) T.z_len Boot.«len» (pa_cons (pv 1) pa_nil)) pa_nil)))) (pss_one (ps_ret (pe_ix ix_list (pv 1) (pe_ix ix_list (pe_lst (pa_cons (pv 3) (pa_cons (pe_op op_sub (pe_callB call_len_seq (by rfl) T.z_len Boot.«len» (pa_cons (pv 1) pa_nil)) pe_int) (pa_cons (pv 3) pa_nil)))) (pv 2) (fun _ _=>rfl)) (fun _ _=>rfl)))))),?_⟩;refine⟨_,rfl,b,3,k,rfl,B,by omega,by decide,by decide,fun way H1 w0 w1 B1 O1=> ?_⟩;have hl1:=O1.kept _ _ lb hl;have e1:(S.map nV).length=S.length:=List.length_map ..;refine⟨_,rfl,_,rfl,l,_,rfl,.inl (SqL.of hl1),b,_,k+1,rfl,B1,by omega,by omega,by omega,fun at_ H2 a0 a1 B2 O2=> ?_⟩;have hl2:=O2.kept _ _ lb hl1;refine⟨_,rfl,_,rfl,_,rfl,l,_,rfl,.inl (SqL.of hl2),_,1,rfl,rfl,_,rfl,(show 3≤sizeLine by decide),fun p hp=> ?_⟩;have sp:=Same.upd (o:= .lst [V.int at_,V.int (((S.map nV).length:Int) - 1),V.int at_]) hp;refine⟨_,rfl,?_⟩;refine ix_any (fun v=>∃i:Nat,v= .int i∧i<S.length) upd_same w0 w1 ?_ fun v hv=> ?_
    · intro x hx
      simp only[List.mem_cons,List.not_mem_nil,or_false] at hx;rcases hx with rfl|rfl|rfl
      · exact⟨at_.toNat,by congr 1;omega,by omega⟩
      · exact⟨S.length - 1,by congr 1;omega,by omega⟩
      · exact⟨at_.toNat,by congr 1;omega,by omega⟩
    obtain⟨i,rfl,hi⟩:=hv
    have hx:(S.map nV)[i]? =some (nV S[i]):=by
      rw[List.getElem?_map];simp[hi]
    exact⟨l,_,_,_,rfl,rfl,SqL.of (sp _ _ hl2),atI_nat hx,q _ _ (List.getElem_mem hi) (B2.same sp) ((O1.kept.trans O2.kept).trans sp.kept)⟩
end
end My
namespace My
open PySem L2 PyProof.Rows
def oD:Option Nat→PyData
  |none=> .none
  |some n=> .int n
theorem datAll_oV (H:Hp):∀xs:List (Option Nat),DatAll H (xs.map oV) (xs.map oD)
  |[]=> .nil
  |none::r=> .cons .non (datAll_oV H r)
  |some n::r=> .cons (.int n) (datAll_oV H r)
theorem log_small {n:Nat} (h:n≤1000):(n:Int).natAbs.log2<1920:=by
  have h1:(n:Int).natAbs=n:=Int.natAbs_natCast n;rw[h1];have:=Nat.log2_le_self n;omega
theorem depth_all:∀xs:List (Option Nat),PyData.depthAll (xs.map oD)≤1
  |[]=>by simp[PyData.depthAll]
  | none::r=>by
    have ih:=depth_all r;simp only[List.map_cons,PyData.depthAll,oD,PyData.depth];omega
  | some n::r=>by
    have ih:=depth_all r;simp only[List.map_cons,PyData.depthAll,oD,PyData.depth];omega
theorem nV_oV (S:List Nat):S.map nV=(S.map some).map oV:=by
  rw[List.map_map];rfl
end My
namespace My
open PySem L2 PyProof.Rows
abbrev Rm:=List (Nat×Nat)
def lenR(R:Rm)(n:Nat):Nat:=((R.filter fun r=>r.1==n).map (·.2)).sum
def usedS(ts:List (Option Nat))(R:Rm):Nat:=((standM ts).map (lenR R)).sum
def usedW(ts:List (Option Nat))(R:Rm):Nat:=((R.filter fun r=>ts[r.1]? ==some none).map (·.2)).sum
theorem sum_add (S:List Nat) (f g:Nat→Nat):(S.map fun n=>f n+g n).sum=(S.map f).sum+(S.map g).sum:=by
  induction S with
  |nil=>rfl
  | cons a S ih=>
    simp only[List.map_cons,List.sum_cons,ih];omega
theorem sum_ite (a b:Nat):∀S:List Nat,S.Nodup→(S.map fun n=>if a==n then b else 0).sum=if a∈S then b else 0
  |[],_=>by simp
  | c ::S,h=>by
    obtain⟨h1,h2⟩:=List.nodup_cons.mp h;rw[List.map_cons,List.sum_cons,sum_ite a b S h2];by_cases e:a=c
    · subst e
      rw[if_neg h1];simp
    · have:(a==c)=false:=by simpa using e
      rw[this];simp[e]
theorem lenR_nil(n:Nat):lenR [] n=0:=rfl
theorem lenR_cons (r:Nat×Nat) (R:Rm) (n:Nat):lenR (r::R) n=(if r.1==n then r.2 else 0)+lenR R n:=by
  unfold lenR;rw[List.filter_cons];cases r.1==n<;>simp
theorem stand_nodup(ts:List (Option Nat)):(standM ts).Nodup:=List.Pairwise.filter _ List.nodup_range
theorem stand_mem {ts:List (Option Nat)} {n:Nat}:n∈standM ts↔(ts[n]? ==some none)=true:=by
  rw[stand_iff];unfold standB;rw[decide_eq_true (show(0:Int)≤n by omega),Bool.true_and,Int.toNat_natCast]
theorem used_eq (ts:List (Option Nat)):∀R:Rm,usedS ts R=usedW ts R
  | []=>by
    unfold usedS usedW;simp only[lenR_nil,List.filter_nil,List.map_nil,List.sum_nil]
    induction standM ts with
    |nil=>rfl
    | cons a S ih=>
      rw[List.map_cons,List.sum_cons,ih];rfl
  | r ::R=>by
    have ih:=used_eq ts R
    have e:(standM ts).map (lenR (r::R))=(standM ts).map fun n=>(if r.1==n then r.2 else 0)+lenR R n:=by
      congr 1
      funext n
      exact lenR_cons r R n
    unfold usedS at ih ⊢;rw[e,sum_add,sum_ite _ _ _ (stand_nodup ts),ih];unfold usedW;rw[List.filter_cons];by_cases q:(ts[r.1]? ==some none)=true
    · rw[if_pos (stand_mem.mpr q),q]
      simp
    · rw[if_neg (fun z=>q (stand_mem.mp z))]
      simp only[Bool.not_eq_true] at q;rw[q];simp
theorem lenR_snoc (R:Rm) (t k n:Nat):lenR (R++[(t,k)]) n=lenR R n+(if t==n then k else 0):=by
  unfold lenR;rw[List.filter_append,List.map_append,List.sum_append]
  congr 1
  cases e:t==n<;>simp[e]
theorem usedW_snoc {ts:List (Option Nat)} (R:Rm) {t:Nat} (k:Nat) (h:ts[t]? =some none):usedW ts (R++[(t,k)])=usedW ts R+k:=by
  unfold usedW;rw[List.filter_append,List.map_append,List.sum_append]
  congr 1
  simp[h]
theorem lenR_le {R:Rm} (h:∀r∈R,r.2≤6) (n:Nat):lenR R n≤6*R.length:=by
  induction R with
  |nil=>simp[lenR]
  | cons r R ih=>
    have h1:=ih fun r hr=>h r (List.mem_cons_of_mem _ hr);have h2:=h r List.mem_cons_self;rw[lenR_cons,List.length_cons]
    split<;>omega
theorem usedW_begin (ts:List (Option Nat)) {R:Rm} (h:∀r∈R,r.1<ts.length):usedW (ts++[none]) R=usedW ts R:=by
  unfold usedW
  congr 2
  refine List.filter_congr fun r hr=> ?_;rw[List.getElem?_append_left (h r hr)]
theorem sum_filter_le {α:Type} (p q:α→Bool) (f:α→Nat):∀R:List α,(∀r∈R,p r=true→q r=true)→((R.filter p).map f).sum≤((R.filter q).map f).sum
  |[],_=>by simp
  | r ::R,h=>by
    have ih:=sum_filter_le p q f R fun x hx=>h x (List.mem_cons_of_mem _ hx);have h1:=h r List.mem_cons_self;rw[List.filter_cons,List.filter_cons]
    cases hp:p r with
    |true=>rw[h1 hp];simpa using ih
    | false=>
      cases q r with
      |true=>simp only[Bool.false_eq_true,if_false,if_true,List.map_cons,List.sum_cons];omega
      |false=>simpa using ih
theorem setM_none {t:Nat}:∀(E:List Nat) (ts:List (Option Nat)) (i:Nat),(setM t E ts)[i]? =some none→ts[i]? =some none
  |[],ts,i,h=>h
  | n::r,ts,i,h=>by
    have h1:=setM_none r (ts.set n (some t)) i h;rw[List.getElem?_set] at h1
    split at h1
    · split at h1<;>cases h1
    · exact h1
theorem usedW_finish (t:Nat) (E:List Nat) (ts:List (Option Nat)) (R:Rm):usedW (setM t E ts) R≤usedW ts R:=by
  refine sum_filter_le _ _ _ R fun r _ h=> ?_;rw[setM_none E ts r.1 (eq_of_beq h)];rfl
theorem sum_cast (S:List Nat) (f:Nat→Nat):(S.map fun n=>((f n:Nat):Int)).sum=(((S.map f).sum:Nat):Int):=by
  induction S with
  |nil=>rfl
  | cons a S ih=>
    simp only[List.map_cons,List.sum_cons,ih];omega
theorem upd_some {H:Hp} {a c:Addr} {o:HO} (z:c=a):upd H a o c=some o:=by
  rw[z];exact upd_same
theorem getD_rangeG {α:Type} (S:List α) (z:α):S=(List.range S.length).map fun i=>S.getD i z:=by
  apply List.ext_getElem?;intro i;rw[List.getElem?_map];by_cases h:i<S.length
  · rw[List.getElem?_range h]
    simp[List.getD_eq_getElem?_getD,h]
  · rw[List.getElem?_eq_none (by omega),List.getElem?_eq_none (by rw[List.length_range];omega)]
    rfl
theorem range_filterG {α β:Type} (S:List α) (z:α) (p:α→Bool) (g:α→β):((List.range S.length).filter fun i=>p (S.getD i z)).map (fun i=>g (S.getD i z))=(S.filter p).map g:=by
  conv=>rhs;rw[getD_rangeG S z]
  rw[List.filter_map,List.map_map];rfl
def idxF(R:Rm)(t:Nat):List Nat:=(List.range R.length).filter fun i=>(R.getD i (0,0)).1==t
theorem idx_sum (R:Rm) (t:Nat):((idxF R t).map fun i=>(R.getD i (0,0)).2).sum=lenR R t:=by
  unfold idxF lenR;rw[range_filterG R (0,0) (fun r=>r.1==t) (fun r=>r.2)]
theorem idx_lt{R:Rm}{t i:Nat}(h:i∈idxF R t):i<R.length:=List.mem_range.mp (List.mem_filter.mp h).1
theorem idx_len (R:Rm) (t:Nat):(idxF R t).length≤R.length:=by
  unfold idxF;refine Nat.le_trans (List.length_filter_le _ _) ?_;rw[List.length_range];exact Nat.le_refl _
def placeR(R:Rm)(i:Nat):Nat:=lenR (R.take i) (R.getD i (0,0)).1
def floorK(R:Rm)(rs:List Addr)(n:Nat):List (Key×V):=(idxF R n).map fun i=>(Sum.inl (placeR R i:Int),V.ref (rs.getD i 0))
structure HA where
  f:Addr
  pa:Addr
  ta:Addr
  fa:Addr
  la:Addr
  own:List Addr
def kvOk(kv:List (Key×V)):Prop:=∀p∈kv,∃(n:Nat) (b:Addr),p=(.inl (n:Int),.ref b)∧valV kv (.inl (n:Int))=some (.ref b)
theorem kvOk_put {kv:List (Key×V)} (h:kvOk kv) {t:Nat} {b:Addr} (hv:valV kv (.inl (t:Int))=none):kvOk (putK kv (.inl (t:Int)) (.ref b)):=by
  intro p hp;rw[putK_new _ hv] at hp;rcases List.mem_append.mp hp with hp|hp
  · obtain⟨n,c,e1,e2⟩:=h p hp
    refine⟨n,c,e1,?_⟩;rw[valV_put,if_neg (fun q=> ?_)]
    · exact e2
    · rw[q,hv] at e2
      cases e2
  · have hp:p=(.inl (t:Int),.ref b):=by simpa using hp
    exact⟨t,b,hp,by rw[valV_put,if_pos rfl]⟩
structure HouseAt (C:Addr) (H:Hp) (a:HA) (ps ts:List (Option Nat)) (L pk:Nat) (R:Rm) (N:Nat) (rs:List Addr) (cs:List (List V)):Prop where
  ob:∃dx,H a.f=some (.ins C dx (flds a.pa a.ta ⟨.int L,.ref a.fa,.ref a.la,.int pk⟩))
  pl:H a.pa=some (.lst (ps.map oV))
  tl:H a.ta=some (.lst (ts.map oV))
  ne:a.pa≠a.ta
  fl:∃kv,H a.fa=some (.dK kv)∧(kv.length≤N∧kvOk kv)∧(∀n:Nat,(valV kv (.inl (n:Int))=none∧idxF R n=[])∨∃b,valV kv (.inl (n:Int))=some (.ref b)∧b∈a.own∧b≠a.fa∧b≠a.la∧H b=some (.dK (floorK R rs n)))∧∀(n n' :Nat) (b:Addr),valV kv (.inl (n:Int))=some (.ref b)→valV kv (.inl (n' :Int))=some (.ref b)→n=n'
  ln:∃kv,H a.la=some (.dK kv)∧kv.length≤N∧∀n:Nat,(valV kv (.inl (n:Int))).getD (.int 0)= .int (lenR R n)
  fal:a.fa≠a.la
  rl:rs.length=R.length
  rm:∀(i:Nat) (b:Addr),rs[i]? =some b→b∈a.own∧b≠a.pa∧b≠a.ta∧∃vs,cs[i]? =some vs∧H b=some (.lst vs)
  rn:rs.Nodup
  own5:a.f∈a.own∧a.pa∈a.own∧a.ta∈a.own∧a.fa∈a.own∧a.la∈a.own
  al:∀c∈a.own,∃o,H c=some o
section
variable{C:Addr}{H H' :Hp}{a:HA}{ps ts ps' ts' :List (Option Nat)}{L pk:Nat}{R:Rm}{N:Nat}{rs:List Addr}{cs:List (List V)}
theorem HouseAt.fr(h:HouseAt C H a ps ts L pk R N rs cs):FrAt C H a.f a.pa a.ta ps ts:=⟨h.ob.imp fun _ e=>⟨_,e⟩,h.pl,h.tl,h.ne⟩
theorem HouseAt.kept (h:HouseAt C H a ps ts L pk R N rs cs) (k:∀c o,c∈a.own→H c=some o→H' c=some o):HouseAt C H' a ps ts L pk R N rs cs:=by
  obtain⟨⟨dx,ob⟩,pl,tl,ne,⟨kv,f1,f2,f3,f4⟩,⟨kw,l1,l2,l3⟩,fal,rl,rm,rn,⟨o1,o2,o3,o4,o5⟩,al⟩:=h;refine⟨⟨dx,k _ _ o1 ob⟩,k _ _ o2 pl,k _ _ o3 tl,ne,⟨kv,k _ _ o4 f1,f2,fun n=> ?_,f4⟩,⟨kw,k _ _ o5 l1,l2,l3⟩,fal,rl,fun i b e=> ?_,rn,⟨o1,o2,o3,o4,o5⟩,fun c hc=>(al c hc).imp fun o e=>k c o hc e⟩
  · rcases f3 n with h|⟨b,e1,e2,e3,e4,e5⟩
    · exact .inl h
    · exact .inr ⟨b,e1,e2,e3,e4,k _ _ e2 e5⟩
  · obtain⟨e1,e2,e3,vs,e4,e5⟩:=rm i b e
    exact⟨e1,e2,e3,vs,e4,k _ _ e1 e5⟩
theorem HouseAt.same(h:HouseAt C H a ps ts L pk R N rs cs)(s:Same H H'):HouseAt C H' a ps ts L pk R N rs cs:=h.kept fun c o _ e=>s c o e
theorem HouseAt.frames (h:HouseAt C H a ps ts L pk R N rs cs) (F:FrAt C H' a.f a.pa a.ta ps' ts') (k:Kept2 a.pa a.ta H H'):HouseAt C H' a ps' ts' L pk R N rs cs:=by
  obtain⟨⟨dx,ob⟩,pl,tl,ne,⟨kv,f1,f2,f3,f4⟩,⟨kw,l1,l2,l3⟩,fal,rl,rm,rn,o,al⟩:=h;have dif:∀{c:Addr} {kv:List (Key×V)},H c=some (.dK kv)→H' c=some (.dK kv):=fun e=>k _ _ (ne_of e pl (by intro z;cases z)) (ne_of e tl (by intro z;cases z)) e;refine⟨⟨dx,k _ _ (ne_of ob pl (by intro z;cases z)) (ne_of ob tl (by intro z;cases z)) ob⟩,F.pl,F.tl,ne,⟨kv,dif f1,f2,fun n=> ?_,f4⟩,⟨kw,dif l1,l2,l3⟩,fal,rl,fun i b e=> ?_,rn,o,fun c hc=> ?_⟩
  · rcases f3 n with h|⟨b,e1,e2,e3,e4,e5⟩
    · exact .inl h
    · exact .inr ⟨b,e1,e2,e3,e4,dif e5⟩
  · obtain⟨e1,e2,e3,vs,e4,e5⟩:=rm i b e
    exact⟨e1,e2,e3,vs,e4,k _ _ e2 e3 e5⟩
  · by_cases z1:c=a.pa
    · exact⟨_,z1▸F.pl⟩
    · by_cases z2:c=a.ta
      · exact⟨_,z2▸F.tl⟩
      · exact(al c hc).imp fun o e=>k c o z1 z2 e
end
structure Good (ps ts:List (Option Nat)) (L pk:Nat) (R:Rm):Prop where
  W:WF ps ts
  g:ts[0]? =some none
  rw:∀r∈R,1≤r.2∧r.2≤6∧r.1<ps.length
  lo:1≤L
  hi:L≤1000
  use:usedW ts R≤L
  pk:pk≤1000
theorem Good.ts {ps ts:List (Option Nat)} {L pk:Nat} {R:Rm} (G:Good ps ts L pk R):ts.length≤101:=by
  have:=G.W.le;have:=G.W.len;omega
theorem stand_le (ts:List (Option Nat)):(standM ts).length≤ts.length:=by
  unfold standM;refine Nat.le_trans (List.length_filter_le _ _) ?_;rw[List.length_range];exact Nat.le_refl _
section
variable{P:Program}{w:World}{K:PySem.W.Frag}{mg:Str→Option Value}{base:Heap}{A:Adr}
def spUsed(C:Addr):Sp:=fun vs H Q _=>∃a ps ts L pk R N rs cs,vs=[.ref a.f]∧HouseAt C H a ps ts L pk R N rs cs∧(∀r∈R,r.2≤6)∧R.length≤2000∧ts.length≤101∧∀H',Same H H'→Q (.int (usedW ts R)) H'
theorem ok_House_used (T:Txt K mg A):FnOk P w K mg base CX0 2 A.a_House_used A.d_House_used ["self"] (spUsed A.a_House):=by
  have G_Frames_standing:FnOk P w K mg base CX0 1 A.a_Frames_standing A.d_Frames_standing ["self"] (spStanding A.a_House):=ok_Frames_standing T;refine T.F_House_used.ok sc_House_used (fun vs H Q E h=> ?_) (fun cdv Ar outer s H vs Q E hr h=> ?_)
  · obtain⟨a,ps,ts,L,pk,R,N,rs,cs,rfl,_⟩:=h
    rfl
  · obtain⟨a,ps,ts,L,pk,R,N,rs,cs,rfl,F,h6,hR,hT,k⟩:=h
    obtain⟨dx,ho⟩:=F.ob;have hu:=hu_of hr;refine⟨_,(pss_one (ps_ret (pe_callB (call_sum rfl) (by rfl) T.z_sum Boot.«sum» (pa_cons (pe_comp (N:=["number","self"]) (k:=1) (js:=[0]) rfl (cscope_of (by kernel_rfl)) (pi_list (pe_meth0 (pv 0) T.K_House T.t_Frames_standing G_Frames_standing hr T.b_Frames_standing .nil pass0)) (fun _ _ _ _ _=>⟨(pg_name (i:=0) (show(["number","self"]:List Str).Nodup by decide+kernel) rfl (Or.inl rfl) (Or.inr rfl)),pif0,(pe_dget2 hu (pe_fldK (K:=K) rfl (pv 1) rfl) (pv 0) pe_int ⟨rfl,rfl,rfl,rfl⟩)⟩)) pa_nil)))),?_⟩;refine⟨_,rfl,a.f,dx,_,rfl,ho,flds_no (by decide+kernel),a.f,a.pa,a.ta,ps,ts,rfl,F.fr,by omega,fun sl H1 hsl s1 hs1=> ?_⟩;refine⟨sl,rfl,⟨_,SqL.of hs1⟩,?_⟩;have F1:=F.same s1
    have hle:((standM ts).map nV).length≤101:=by
      rw[List.length_map];exact Nat.le_trans (stand_le ts) hT
    refine comp_pure (fun _=>true) (fun v=>match v with| .int i=> .int (lenR R i.toNat)|_=> .non) (feeds_list (SqL.of hs1)) (Nat.le_trans hle (by decide)) ?_ fun p hp=> ?_
    · intro i x H' C1 C0 hx sm c1 c0
      rw[List.getElem?_map] at hx
      cases en:(standM ts)[i]? with
      |none=>rw[en] at hx;cases hx
      | some n=>
        rw[en] at hx;cases hx;have F' :=F1.same sm;obtain⟨dx',ho'⟩:=F'.ob;obtain⟨kv,l1,l2,l3⟩:=F'.ln;refine⟨(SubS.refl _).own (by decide),iteT (B:=C0 H') ⟨_,rfl,a.f,A.a_House,dx',_,_,rfl,ho',T.K_House,T.n_House_lengths,flds_l _ _ _,a.la,rfl,.inl ⟨_,.inl l1⟩,_,rfl,_,DGet.k (k:= .inl (n:Int)) l1,?_⟩⟩;have e:=l3 n;have c:=c1 rfl;show C1 ((valV kv (.inl (n:Int))).getD (V.int 0)) H';rw[e];exact c
    · have el:(((standM ts).map nV).filter fun _=>true).map (fun v=>match v with| .int i=>V.int (lenR R i.toNat)|_=> .non)=((standM ts).map fun n=>((lenR R n:Nat):Int)).map V.int:=by
        rw[List.filter_eq_self.mpr (fun _ _=>rfl),List.map_map,List.map_map];rfl
      rw[el];refine⟨p,_,rfl,upd_same,?_,?_,?_⟩
      · rw[List.length_map]
        exact Nat.le_trans (stand_le ts) (by omega)
      · intro n hn
        obtain⟨m,_,rfl⟩:=List.mem_map.mp hn;have:=lenR_le h6 m;omega
      · rw[sum_cast]
        have:=k _ (s1.trans (Same.upd (o:= .lst (((standM ts).map fun n=>((lenR R n:Nat):Int)).map V.int)) hp));rw[←used_eq] at this;exact this
def spLeft(C:Addr):Sp:=fun vs H Q _=>∃a ps ts L pk R N rs cs,vs=[.ref a.f]∧HouseAt C H a ps ts L pk R N rs cs∧(∀r∈R,r.2≤6)∧R.length≤2000∧ts.length≤101∧∀H',Same H H'→Q (.int ((L:Int) - (usedW ts R:Nat))) H'
theorem ok_House_left (T:Txt K mg A):FnOk P w K mg base CX0 3 A.a_House_left A.d_House_left ["self"] (spLeft A.a_House):=by
  have G_House_used:FnOk P w K mg base CX0 2 A.a_House_used A.d_House_used ["self"] (spUsed A.a_House):=ok_House_used T;refine T.F_House_left.ok sc_House_left (fun vs H Q E h=> ?_) (fun cdv Ar outer s H vs Q E hr h=> ?_)
  · obtain⟨a,ps,ts,L,pk,R,N,rs,cs,rfl,_⟩:=h
    rfl
  · obtain⟨a,ps,ts,L,pk,R,N,rs,cs,rfl,F,h6,hR,hT,k⟩:=h
    obtain⟨dx,ho⟩:=F.ob;refine⟨_,(pss_one (ps_ret (pe_op op_sub (pe_fld (pv 0) rfl) (pe_meth0 (pv 0) T.K_House T.t_House_used G_House_used hr T.b_House_used .nil pass0)))),?_⟩;exact⟨_,rfl,a.f,A.a_House,dx,_,_,rfl,ho,T.K_House,T.n_House_bound,flds_b _ _ _,_,rfl,a.f,dx,_,rfl,ho,flds_no (by decide+kernel),a,ps,ts,L,pk,R,N,rs,cs,rfl,F,h6,hR,hT,fun H' s1=>⟨_,_,rfl,rfl,k H' s1⟩⟩
end
end My
namespace My
open PySem L2 PyProof.Rows
theorem putF_twice (f:Str) (v w:V):∀fs:List (Str×V),putF f v (putF f w fs)=putF f v fs
  | []=>by
    show(if f=f then(f,v)::[] else _)=_;rw[if_pos rfl];rfl
  | (g,x)::r=>by
    show putF f v (if g=f then(g,w)::r else(g,x)::putF f w r)=if g=f then(g,v)::r else(g,x)::putF f v r
    by_cases h:g=f
    · rw[if_pos h,if_pos h]
      show(if g=f then(g,v)::r else _)=_;rw[if_pos h]
    · rw[if_neg h,if_neg h]
      show(if g=f then _ else(g,x)::putF f v (putF f w r))=_;rw[if_neg h,putF_twice f v w r]
theorem flds_peak(pa ta:Addr)(z:HX)(v:V):putF "peak" v (flds pa ta z)=flds pa ta {z with pk:=v}:=putF_twice _ _ _ _
theorem flds2_len(pa ta:Addr):(flds2 pa ta).length≤2:=Nat.le_trans (length_putF _ _ _) (Nat.succ_le_succ (length_putF _ _ _))
theorem flds_len(pa ta:Addr)(z:HX):(flds pa ta z).length≤6:=Nat.le_trans (length_putF _ _ _) (Nat.succ_le_succ (Nat.le_trans (length_putF _ _ _) (Nat.succ_le_succ (Nat.le_trans (length_putF _ _ _) (Nat.succ_le_succ (Nat.le_trans (length_putF _ _ _) (Nat.succ_le_succ (flds2_len pa ta))))))))
section
variable{P:Program}{w:World}{K:PySem.W.Frag}{mg:Str→Option Value}{base:Heap}{A:Adr}
def spHInit (C:Addr):Sp:=fun vs H Q _=>∃(p dx:Addr) (L:Nat),vs=[.ref p,.int L]∧H p=some (.ins C dx [])∧1≤L∧L≤1000∧
  ∀a H',a.f=p→(∀c∈a.own,c=p∨H c=none)→HouseAt C H' a [none] [none] L 0 [] 0 [] []→(∀b o,H b=some o→b≠p→H' b=some o)→Q .non H'
theorem ok_House___init__ (T:Txt K mg A):FnOk P w K mg base CX0 3 A.a_House___init__ A.d_House___init__ ["self","limit"] (spHInit A.a_House):=by
  have G_is_whole:FnOk P w K mg base CX0 2 A.a_is_whole A.d_is_whole ["thing","low","high"] spWholeI:=ok_is_whole T;have G_Frames___init__:FnOk P w K mg base CX0 2 A.a_Frames___init__ A.d_Frames___init__ ["self"] (spInit A.a_House):=(ok_Frames___init__ T).mono (by decide);refine T.F_House___init__.ok sc_House___init__ (fun vs H Q E h=> ?_) (fun cdv Ar outer s H vs Q E hr h=> ?_)
  · obtain⟨p,dx,L,rfl,_⟩:=h
    rfl
  · obtain⟨p,dx,L,rfl,hp,h1,h2,k⟩:=h
    obtain⟨u1,c_MOST_CELLS⟩:=T.u_MOST_CELLS;refine⟨_,(pss_cons (ps_if (pt_not (pt_val (pe_call G_is_whole hr rfl T.m_is_whole T.F_is_whole.kp T.b_is_whole .nil pass0 (pa_cons (pv 1) (pa_cons pe_int (pa_cons (pe_glob rfl c_MOST_CELLS.2 c_MOST_CELLS.1) pa_nil)))))) (pss_one ps_never) pss_nil) (pss_cons (ps_expr (pe_ccall T.c_Frames___init__ rfl T.m_Frames G_Frames___init__ hr T.b_Frames___init__ .nil pass0 (pa_cons (pv 0) pa_nil))) (pss_cons (ps_fld (pv 0) (pv 1) rfl) (pss_cons (ps_fld (pv 0) pe_dnewK rfl) (pss_cons (ps_fld (pv 0) pe_dnewK rfl) (pss_one (ps_fld (pv 0) pe_int rfl))))))),?_⟩;refine⟨_,rfl,(L:Int),1,1000,rfl,_,rfl,?_⟩;rw[decide_eq_true (show(1:Int)≤(L:Int) by omega),decide_eq_true (show(L:Int)≤1000 by omega)];refine iteF ⟨_,rfl,p,dx,rfl,hp,fun pa ta H1 hpa hta e1 e2 e3 npt kp=> ?_⟩;have np1:pa≠p:=ne_of e2 e1 (by intro z;cases z);have nt1:ta≠p:=ne_of e3 e1 (by intro z;cases z);have len2:=flds2_len pa ta;refine⟨_,rfl,_,rfl,p,A.a_House,dx,_,rfl,e1,T.K_House,T.n_House_bound,by omega,fun fa hfa=> ?_⟩;have nf:fa≠p:=(ne_of_none upd_same hfa).symm;have hfa1:H1 fa=none:=by rw[upd_ne nf] at hfa;exact hfa
    have npf:pa≠fa:=ne_of_none e2 hfa1;have ntf:ta≠fa:=ne_of_none e3 hfa1;have len3:=length_putF "bound" (.int L) (flds2 pa ta);refine⟨_,rfl,p,A.a_House,dx,_,rfl,(by rw[upd_ne nf.symm,upd_same]),T.K_House,T.n_House_floors,by omega,fun la hla=> ?_⟩;have nl:la≠p:=(ne_of_none upd_same hla).symm;have hla1:upd (upd H1 p (.ins A.a_House dx (putF "bound" (.int L) (flds2 pa ta)))) fa (.dK []) la=none:=by rw[upd_ne nl] at hla;exact hla
    have nlf:la≠fa:=(ne_of_none upd_same hla1).symm;have hla2:H1 la=none:=by rw[upd_ne nlf,upd_ne nl] at hla1;exact hla1
    have npl:pa≠la:=ne_of_none e2 hla2;have ntl:ta≠la:=ne_of_none e3 hla2;have len4:=length_putF "floors" (.ref fa) (putF "bound" (.int L) (flds2 pa ta));refine⟨_,rfl,p,A.a_House,dx,_,rfl,(by rw[upd_ne nl.symm,upd_same]),T.K_House,T.n_House_lengths,by omega,?_⟩;have len5:=length_putF "lengths" (.ref la) (putF "floors" (.ref fa) (putF "bound" (.int L) (flds2 pa ta)));refine⟨_,rfl,p,A.a_House,dx,_,rfl,upd_same,T.K_House,T.n_House_peak,by omega,?_⟩
    have old:∀c,H1 c=none→c=p∨H c=none:=fun c e=>by
      by_cases z:c=p
      · exact .inl z
      · refine .inr ?_
        cases q:H c with
        |none=>rfl
        |some o=>rw[kp c o q z] at e;cases e
    generalize hH6:upd (upd (upd (upd (upd (upd H1 p (.ins A.a_House dx (putF "bound" (.int L) (flds2 pa ta)))) fa (.dK [])) p (.ins A.a_House dx (putF "floors" (.ref fa) (putF "bound" (.int L) (flds2 pa ta))))) la (.dK [])) p (.ins A.a_House dx (putF "lengths" (.ref la) (putF "floors" (.ref fa) (putF "bound" (.int L) (flds2 pa ta)))))) p (.ins A.a_House dx (putF "peak" (.int 0) (putF "lengths" (.ref la) (putF "floors" (.ref fa) (putF "bound" (.int L) (flds2 pa ta))))))=H6
    have q1:H6 p=some (.ins A.a_House dx (flds pa ta ⟨.int L,.ref fa,.ref la,.int (0:Nat)⟩)):=by
      rw[←hH6];exact upd_same
    have q2:H6 pa=some (.lst [.non]):=by
      rw[←hH6,upd_ne np1,upd_ne np1,upd_ne npl,upd_ne np1,upd_ne npf,upd_ne np1];exact e2
    have q3:H6 ta=some (.lst [.non]):=by
      rw[←hH6,upd_ne nt1,upd_ne nt1,upd_ne ntl,upd_ne nt1,upd_ne ntf,upd_ne nt1];exact e3
    have q4:H6 fa=some (.dK []):=by
      rw[←hH6,upd_ne nf,upd_ne nf,upd_ne nlf.symm,upd_ne nf,upd_same]
    have q5:H6 la=some (.dK []):=by
      rw[←hH6,upd_ne nl,upd_ne nl,upd_same]
    refine k ⟨p,pa,ta,fa,la,[p,pa,ta,fa,la]⟩ _ rfl ?_ ⟨⟨dx,q1⟩,q2,q3,npt,⟨[],q4,⟨Nat.le_refl _,fun _ z=>nomatch z⟩,fun n=> .inl ⟨rfl,rfl⟩,(fun n n' b e=>by cases e)⟩,⟨[],q5,Nat.le_refl _,fun n=>rfl⟩,nlf.symm,rfl,(fun i b e=>by cases e),.nil,(by simp),fun c hc=> ?_⟩ fun b o e hb=> ?_
    · intro c hc
      simp only[List.mem_cons,List.not_mem_nil,or_false] at hc;rcases hc with rfl|rfl|rfl|rfl|rfl
      · exact .inl rfl
      · exact .inr hpa
      · exact .inr hta
      · exact old _ hfa1
      · exact old _ hla2
    · simp only[List.mem_cons,List.not_mem_nil,or_false] at hc
      rcases hc with rfl|rfl|rfl|rfl|rfl
      · exact⟨_,q1⟩
      · exact⟨_,q2⟩
      · exact⟨_,q3⟩
      · exact⟨_,q4⟩
      · exact⟨_,q5⟩
    · have b1:=kp b o e hb
      rw[←hH6,upd_ne hb,upd_ne hb,upd_ne (ne_of_none b1 hla2),upd_ne hb,upd_ne (ne_of_none b1 hfa1),upd_ne hb];exact b1
end
theorem rep_one (n:Nat):(List.replicate n [V.non]).flatten=List.replicate n .non:=by
  induction n with
  |zero=>rfl
  | succ n ih=>
    rw[List.replicate_succ,List.flatten_cons,ih];rfl
theorem take_snoc {R:Rm} {x:Nat×Nat} {i:Nat} (h:i<R.length):(R++[x]).take i=R.take i:=by
  rw[List.take_append_of_le_length (by omega)]
theorem lenR_take {R:Rm} {i:Nat} {r:Nat×Nat} (h:R[i]? =some r) (h1:1≤r.2):lenR (R.take i) r.1<lenR R r.1:=by
  have hi:=(List.getElem?_eq_some_iff.mp h).1
  have e:R=R.take i++(r::R.drop (i+1)):=by
    have:=(List.getElem?_eq_some_iff.mp h).2;rw[←this,List.getElem_cons_drop,List.take_append_drop]
  have:lenR R r.1=lenR (R.take i) r.1+lenR (r::R.drop (i+1)) r.1:=by
    conv=>lhs;rw[e]
    unfold lenR;rw[List.filter_append,List.map_append,List.sum_append]
  rw[this,lenR_cons];simp;omega
theorem getD_lt {α:Type} {R:List α} {x d:α} {i:Nat} (h:i<R.length):(R++[x]).getD i d=R.getD i d:=by
  rw[List.getD_eq_getElem?_getD,List.getD_eq_getElem?_getD,List.getElem?_append_left h]
theorem getD_eq {α:Type} (R:List α) (x d:α):(R++[x]).getD R.length d=x:=by
  rw[List.getD_eq_getElem?_getD,List.getElem?_append_right (Nat.le_refl _),Nat.sub_self];rfl
theorem get_getD{α:Type}{R:List α}{i:Nat}(d:α)(h:i<R.length):R[i]? =some (R.getD i d):=by simp[List.getD_eq_getElem?_getD,h]
theorem idx_snoc (R:Rm) (t k n:Nat):idxF (R++[(t,k)]) n=if t=n then idxF R n++[R.length] else idxF R n:=by
  unfold idxF;rw[List.length_append,List.length_singleton,List.range_succ,List.filter_append]
  have e1:((List.range R.length).filter fun i=>((R++[(t,k)]).getD i (0,0)).1==n)=(List.range R.length).filter fun i=>(R.getD i (0,0)).1==n:=
    List.filter_congr fun i hi=>by rw[getD_lt (List.mem_range.mp hi)]
  rw[e1];by_cases h:t=n
  · rw[if_pos h,List.filter_cons_of_pos (by rw[getD_eq];simpa using h)]
    rfl
  · rw[if_neg h,List.filter_cons_of_neg (by rw[getD_eq];simpa using h)]
    exact List.append_nil _
theorem idx_fr{R:Rm}{t i:Nat}(h:i∈idxF R t):(R.getD i (0,0)).1=t:=by simpa using(List.mem_filter.mp h).2
theorem place_lt_snoc {R:Rm} {x:Nat×Nat} {i:Nat} (h:i<R.length):placeR (R++[x]) i=placeR R i:=by
  unfold placeR;rw[take_snoc h,getD_lt h]
theorem place_eq_snoc (R:Rm) (t k:Nat):placeR (R++[(t,k)]) R.length=lenR R t:=by
  unfold placeR;rw[List.take_left,getD_eq]
theorem floor_ne {R:Rm} {rs:List Addr} (hl:rs.length=R.length) {t k n:Nat} {b:Addr} (h:t≠n):floorK (R++[(t,k)]) (rs++[b]) n=floorK R rs n:=by
  unfold floorK;rw[idx_snoc,if_neg h];refine List.map_congr_left fun i hi=> ?_;have:=idx_lt hi;rw[place_lt_snoc this,getD_lt (by omega)]
theorem floor_eq {R:Rm} {rs:List Addr} (hl:rs.length=R.length) (t k:Nat) (b:Addr):floorK (R++[(t,k)]) (rs++[b]) t=floorK R rs t++[(.inl (lenR R t:Int),.ref b)]:=by
  unfold floorK;rw[idx_snoc,if_pos rfl,List.map_append,List.map_singleton,place_eq_snoc,←hl,getD_eq]
  congr 1
  refine List.map_congr_left fun i hi=> ?_;have:=idx_lt hi;rw[place_lt_snoc this,getD_lt (by omega)]
theorem place_lt {R:Rm} (hr:∀r∈R,1≤r.2) {t i:Nat} (h:i∈idxF R t):placeR R i<lenR R t:=by
  have hi:=idx_lt h;have e:=get_getD (0,0) hi;have:=lenR_take e (hr _ (List.mem_of_getElem? e));rw[idx_fr h] at this;unfold placeR;rw[idx_fr h];exact this
theorem place_inj {R:Rm} (hr:∀r∈R,1≤r.2) {t i j:Nat} (h:i∈idxF R t) (h' :j∈idxF R t) (e:placeR R i=placeR R j):i=j:=by
  have key:∀{i j:Nat},i∈idxF R t→j∈idxF R t→i<j→placeR R i<placeR R j:=fun{i j} h h' hlt=>by
    have hi:=idx_lt h;have hj:=idx_lt h';have e1:=get_getD (0,0) hi
    have e2:(R.take j)[i]? =some (R.getD i (0,0)):=by
      rw[List.getElem?_take_of_lt hlt];exact e1
    have:=lenR_take e2 (hr _ (List.mem_of_getElem? e1));rw[List.take_take,Nat.min_eq_left (Nat.le_of_lt hlt),idx_fr h] at this;unfold placeR;rw[idx_fr h,idx_fr h'];exact this
  rcases Nat.lt_trichotomy i j with z|z|z
  · have:=key h h' z
    omega
  · exact z
  · have:=key h' h z
    omega
theorem valV_none {l:List (Key×V)} {k:Key} (h:∀p∈l,¬p.1=k):valV l k=none:=by
  induction l with
  |nil=>rfl
  | cons p l ih=>
    rw[valV_neg (h p List.mem_cons_self)];exact ih fun q hq=>h q (List.mem_cons_of_mem _ hq)
theorem valV_mapI (k:Nat→Key) (v:Nat→V) {j:Nat}:∀{l:List Nat},j∈l→(∀i∈l,k i=k j→i=j)→valV (l.map fun i=>(k i,v i)) (k j)=some (v j)
  | i ::l,h,inj=>by
    rw[List.map_cons];by_cases z:k i=k j
    · rw[valV_pos z,inj i List.mem_cons_self z]
    · rw[valV_neg z]
      rcases List.mem_cons.mp h with h|h
      · exact absurd (by rw[h]) z
      · exact valV_mapI k v h fun i hi=>inj i (List.mem_cons_of_mem _ hi)
theorem floor_new {R:Rm} (hr:∀r∈R,1≤r.2) (rs:List Addr) (t:Nat):valV (floorK R rs t) (.inl (lenR R t:Int))=none:=by
  refine valV_none fun p hp z=> ?_;obtain⟨i,hi,rfl⟩:=List.mem_map.mp hp;injection z with z;have:=place_lt hr hi;omega
theorem floor_get {R:Rm} (hr:∀r∈R,1≤r.2) (rs:List Addr) {t i:Nat} (h:i∈idxF R t):valV (floorK R rs t) (.inl (placeR R i:Int))=some (.ref (rs.getD i 0)):=
  valV_mapI (fun i=>Sum.inl (placeR R i:Int)) (fun i=>V.ref (rs.getD i 0)) h fun j hj z=>by
    injection z with z;exact place_inj hr hj h (by omega)
theorem floor_len (R:Rm) (rs:List Addr) (t:Nat):(floorK R rs t).length≤R.length:=by
  unfold floorK;rw[List.length_map];exact idx_len R t
theorem len_line{n:Nat}(h:n≤100000):n<sizeLine:=Nat.lt_of_le_of_lt h (by decide)
end My
namespace My
open PySem L2 PyProof.Rows
def wayL(t p:Nat):List V:=[nV t,nV p]
def makeR (C:Addr):TS:=fun D σ H=>∃(a:HA) (ps ts:List (Option Nat)) (L pk:Nat) (R:Rm) (N:Nat) (rs:List Addr) (cs:List (List V)) (t n:Nat) (x3:Option V) (b:Addr) (kv:List (Key×V)),σ=[some (.ref a.f),some (.int t),some (.int n),x3,some (.int (lenR R t)),some (.ref b)]∧HouseAt C H a ps ts L pk R N rs cs∧cs.length=R.length∧Good ps ts L pk R∧ts[t]? =some none∧1≤n∧n≤6∧R.length≤1000∧N≤10000∧usedW ts R+n≤L∧
  H a.fa=some (.dK kv)∧valV kv (.inl (t:Int))=some (.ref b)∧
  ∀r H' l,H r=none→HouseAt C H' {a with own:=r::a.own} ps ts L (max pk (usedW ts R+n)) (R++[(t,n)]) (N+1) (rs++[r]) (cs++[List.replicate n .non])→(∀c o,¬c∈a.own→H c=some o→H' c=some o)→H l=none→H' l=some (.tup (wayL t (lenR R t)))→D.rt (.ref l) H'
section
variable{P:Program}{w:World}{K:PySem.W.Frag}{mg:Str→Option Value}{base:Heap}{A:Adr}
def spMake (C:Addr):Sp:=fun vs H Q _=>∃(a:HA) (ps ts:List (Option Nat)) (L pk:Nat) (R:Rm) (N:Nat) (rs:List Addr) (cs:List (List V)) (t n:Nat),vs=[.ref a.f,.int t,.int n]∧HouseAt C H a ps ts L pk R N rs cs∧cs.length=R.length∧Good ps ts L pk R∧ts[t]? =some none∧1≤n∧n≤6∧R.length≤1000∧N≤9000∧usedW ts R+n≤L∧
  ∀own' r H' l,HouseAt C H' {a with own:=own'} ps ts L (max pk (usedW ts R+n)) (R++[(t,n)]) (N+2) (rs++[r]) (cs++[List.replicate n .non])→(∀c∈a.own,c∈own')→(∀c∈own',c∈a.own∨H c=none)→(∀c o,¬c∈a.own→H c=some o→H' c=some o)→H l=none→H' l=some (.tup (wayL t (lenR R t)))→Q (.ref l) H'
theorem ok_House_make (T:Txt K mg A):FnOk P w K mg base CX0 6 A.a_House_make A.d_House_make ["self","frame","size"] (spMake A.a_House):=by
  have G_Frames_want_standing:FnOk P w K mg base CX0 5 A.a_Frames_want_standing A.d_Frames_want_standing ["self","thing"] (spWantS A.a_House):=ok_Frames_want_standing T;have G_is_whole:FnOk P w K mg base CX0 5 A.a_is_whole A.d_is_whole ["thing","low","high"] spWholeI:=(ok_is_whole T).mono (by decide);have G_House_left:FnOk P w K mg base CX0 5 A.a_House_left A.d_House_left ["self"] (spLeft A.a_House):=(ok_House_left T).mono (by decide);have G_House_used:FnOk P w K mg base CX0 5 A.a_House_used A.d_House_used ["self"] (spUsed A.a_House):=(ok_House_used T).mono (by decide);refine T.F_House_make.ok sc_House_make (fun vs H Q E h=> ?_) (fun cdv Ar outer s H vs Q E hr h=> ?_)
  · obtain⟨a,ps,ts,L,pk,R,N,rs,cs,t,n,rfl,_⟩:=h
    rfl
  · obtain ⟨a,ps,ts,L,pk,R,N,rs,cs,t,n,rfl,F,hcl,G,htn,n1,n6,hR,hN,hle,k1⟩:=h
    have hu:=hu_of hr;obtain⟨dx,ho⟩:=F.ob;obtain⟨u1,c_MOST_CELLS_OF_ROOM⟩:=T.u_MOST_CELLS_OF_ROOM
    have hst:standB ts (t:Int)=true:=by
      unfold standB;rw[decide_eq_true (show(0:Int)≤t by omega),Int.toNat_natCast,htn];rfl
    refine⟨_,(pss_cons (ps_expr (pe_meth (pv 0) T.K_House T.t_Frames_want_standing G_Frames_want_standing hr T.b_Frames_want_standing .nil pass0 (pa_cons (pv 1) pa_nil))) (pss_cons (ps_if (pt_not (pt_val (pe_call G_is_whole hr rfl T.m_is_whole T.F_is_whole.kp T.b_is_whole .nil pass0 (pa_cons (pv 2) (pa_cons pe_int (pa_cons (pe_glob rfl c_MOST_CELLS_OF_ROOM.2 c_MOST_CELLS_OF_ROOM.1) pa_nil)))))) (pss_one ps_never) pss_nil) (pss_cons (ps_set (i:=3) sc_House_make.nd rfl (Or.inl rfl) (pe_meth0 (pv 0) T.K_House T.t_House_left G_House_left hr T.b_House_left .nil pass0)) (pss_cons (ps_if (pt_cmpR op_gt (pv 2) (pv 3) (nomark _)) (pss_one ps_never) pss_nil) (pss_cons (ps_set (i:=4) sc_House_make.nd rfl (Or.inl rfl) (pe_dget2 hu (pe_fld (pv 0) rfl) (pv 1) pe_int ⟨rfl,rfl,rfl,rfl⟩)) (pss_cons (ps_set (i:=5) sc_House_make.nd rfl (Or.inl rfl) (pe_dset2 (pe_fld (pv 0) rfl) (pv 1) pe_dnewK ⟨rfl,rfl,rfl,rfl⟩)) (pss_imp (makeR A.a_House) (pss_cons (ps_dput hu (pv 5) (pv 4) (pe_op op_rep (pe_lst (pa_cons pe_non pa_nil)) (pv 2)) rfl) (pss_cons (ps_dput hu (pe_fld (pv 0) rfl) (pv 1) (pe_op op_add (pv 4) (pv 2)) rfl) (pss_cons (ps_fld (pv 0) (pe_callB (call_max2 rfl) (by rfl) T.z_max Boot.«max» (pa_cons (pe_fld (pv 0) rfl) (pa_cons (pe_meth0 (pv 0) T.K_House T.t_House_used G_House_used hr T.b_House_used .nil pass0) pa_nil))) rfl) (pss_one (ps_ret (pe_tup (pa_cons (pv 1) (pa_cons (pv 4) pa_nil)))))))) ?cut6))))))),?_⟩
    case cut6 =>
      rintro D σ H ⟨a,ps,ts,L,pk,R,N,rs,cs,t,n,x3,b,kv,rfl,F,hcl,G,htn,n1,n6,hR,hN,hle,hkv,hkb,k⟩
      have hr1:∀r∈R,1≤r.2:=fun r hr=>(G.rw r hr).1;obtain⟨dx,ho⟩:=F.ob;obtain⟨of,op,ot,ofa,ola⟩:=F.own5;obtain⟨kv0,f1,f2,f3,f4⟩:=F.fl
      have ekv:kv0=kv:=by
        rw[hkv] at f1;injection f1 with f1;injection f1 with f1;exact f1.symm
      subst ekv;obtain⟨kl,l1',l2',l3'⟩:=F.ln
      have hbx:b∈a.own∧b≠a.fa∧b≠a.la∧H b=some (.dK (floorK R rs t)):=by
        rcases f3 t with h|⟨b',e1,e2,e3,e4,e5⟩
        · rw[h.1] at hkb
          cases hkb
        · rw[e1] at hkb
          injection hkb with hkb;injection hkb with hkb;subst hkb;exact⟨e2,e3,e4,e5⟩
      obtain⟨bo,bf,bl,hb⟩:=hbx;have hfl:=floor_len R rs t;refine⟨(show 1≤sizeLine by decide),fun l1 hl1=>⟨_,rfl,l1,(n:Int),_,rfl,rfl,upd_same,by omega,by omega,?_,fun l2 hl2=> ?_⟩⟩
      · show 1*(n:Int).toNat≤sizeLine
        exact Nat.le_of_lt (len_line (by omega))
      rw[Int.toNat_natCast,rep_one];have s1:=(Same.upd (o:= .lst [V.non]) hl1).trans (Same.upd (o:= .lst (List.replicate n .non)) hl2);have hr2:upd (upd H l1 (.lst [V.non])) l2 (.lst (List.replicate n .non)) l2=some (.lst (List.replicate n .non)):=upd_same;have hl20:H l2=none:=(Same.upd (o:= .lst [V.non]) hl1).free hl2;generalize hH2:upd (upd H l1 (.lst [V.non])) l2 (.lst (List.replicate n .non))=H2 at s1 hr2;refine⟨_,rfl,_,rfl,b,_,rfl,DPut.k (k:= .inl (lenR R t:Int)) (s1 _ _ hb) (len_line (by omega)),?_⟩;have fb:a.f≠b:=ne_of ho hb (by intro z;cases z);have lb:a.la≠b:=bl.symm;have gb:a.fa≠b:=bf.symm;refine⟨_,rfl,_,rfl,_,_,rfl,rfl,_,rfl,a.f,A.a_House,dx,_,_,rfl,(by rw[upd_ne fb];exact s1 _ _ ho),T.K_House,T.n_House_lengths,flds_l _ _ _,_,rfl,a.la,_,rfl,DPut.k (k:= .inl (t:Int)) (by rw[upd_ne lb];exact s1 _ _ l1') (len_line (by omega)),?_⟩;have fl:a.f≠a.la:=ne_of ho l1' (by intro z;cases z);have pal:a.pa≠a.la:=ne_of F.pl l1' (by intro z;cases z);have tal:a.ta≠a.la:=ne_of F.tl l1' (by intro z;cases z);have pab:a.pa≠b:=ne_of F.pl hb (by intro z;cases z);have tab:a.ta≠b:=ne_of F.tl hb (by intro z;cases z);dsimp only;rw[putK_new (.ref l2) (floor_new hr1 rs t),←floor_eq F.rl t n l2];generalize hv:V.int ((lenR R t:Int)+(n:Int))=nv;generalize hH4:upd (upd H2 b (.dK (floorK (R++[(t,n)]) (rs++[l2]) t))) a.la (.dK (putK kl (.inl (t:Int)) nv))=H4
      have kp4:∀c o,c≠b→c≠a.la→H2 c=some o→H4 c=some o:=fun c o h1 h2 e=>by
        rw[←hH4,upd_ne h2,upd_ne h1];exact e
      have kpl:∀c xs,H2 c=some (.lst xs)→H4 c=some (.lst xs):=fun c xs e=>kp4 _ _ (ne_of e (s1 _ _ hb) (by intro z;cases z)) (ne_of e (s1 _ _ l1') (by intro z;cases z)) e
      have F4 :HouseAt A.a_House H4 {a with own:=l2::a.own} ps ts L pk (R++[(t,n)]) (N+1) (rs++[l2]) (cs++[List.replicate n .non]):=by
        refine⟨⟨dx,kp4 _ _ fb fl (s1 _ _ ho)⟩,kpl _ _ (s1 _ _ F.pl),kpl _ _ (s1 _ _ F.tl),F.ne,⟨kv0,kp4 _ _ gb F.fal (s1 _ _ hkv),⟨by omega,f2.2⟩,fun m=> ?_,f4⟩,⟨_,(by rw[←hH4];exact upd_same),?_,fun m=> ?_⟩,F.fal,by rw[List.length_append,List.length_append,F.rl];rfl,fun i c e=> ?_,?_,⟨.tail _ of,.tail _ op,.tail _ ot,.tail _ ofa,.tail _ ola⟩,fun c hc=> ?_⟩
        · by_cases z:t=m
          · subst z
            exact .inr ⟨b,hkb,.tail _ bo,bf,bl,by rw[←hH4,upd_ne bl];exact upd_same⟩
          · rw[idx_snoc,if_neg z,floor_ne F.rl z]
            rcases f3 m with h|⟨c,e1,e2,e3,e4,e5⟩
            · exact .inl h
            · refine .inr ⟨c,e1,.tail _ e2,e3,e4,kp4 _ _ (fun q=> ?_) e4 (s1 _ _ e5)⟩
              subst q;exact z (f4 t m c hkb e1)
        · have:=length_putK kl (.inl (t:Int)) nv
          omega
        · rw[valV_put,lenR_snoc]
          by_cases z:m=t
          · subst z
            rw[if_pos rfl];show nv=_;rw[←hv];simp
          · rw[if_neg (fun q=>z (by injection q with q;omega)),l3' m]
            have:(t==m)=false:=by simp;omega
            rw[this];rfl
        · by_cases hi:i<rs.length
          · rw[List.getElem?_append_left hi] at e
            obtain⟨e1,e2,e3,vs,e4,e5⟩:=F.rm i c e;refine⟨.tail _ e1,e2,e3,vs,?_,kpl _ _ (s1 _ _ e5)⟩;rw[List.getElem?_append_left (by rw[hcl,←F.rl];exact hi)];exact e4
          · have hb' :=(List.getElem?_eq_some_iff.mp e).1
            rw[List.length_append] at hb';have hi:i=rs.length:=by simp at hb';omega
            subst hi;rw[List.getElem?_append_right (Nat.le_refl _),Nat.sub_self] at e;cases e;refine⟨.head _,(ne_of_none F.pl hl20).symm,(ne_of_none F.tl hl20).symm,List.replicate n .non,?_,kpl _ _ hr2⟩;rw[List.getElem?_append_right (by rw[hcl,F.rl];exact Nat.le_refl _),hcl,F.rl,Nat.sub_self];rfl
        · refine List.nodup_append.mpr ⟨F.rn,List.nodup_cons.mpr ⟨by simp,.nil⟩,fun x hx y hy=> ?_⟩
          simp only[List.mem_singleton] at hy;subst hy;obtain⟨i,hi,rfl⟩:=List.mem_iff_getElem.mp hx;obtain⟨e1,e2,e3,vs,e4,e5⟩:=F.rm i _ (List.getElem?_eq_getElem hi);exact ne_of_none e5 hl20
        · rcases List.mem_cons.mp hc with rfl|hc
          · exact⟨_,kpl _ _ hr2⟩
          · by_cases z1:c=a.la
            · exact⟨_,by rw[←hH4];exact upd_some z1⟩
            · by_cases z2:c=b
              · exact⟨_,by rw[←hH4,upd_ne z1];exact upd_some z2⟩
              · exact(F.al c hc).imp fun o e=>kp4 c o z2 z1 (s1 _ _ e)
      have ho4:=kp4 _ _ fb fl (s1 _ _ ho);refine⟨_,rfl,a.f,A.a_House,dx,_,_,rfl,ho4,T.K_House,T.n_House_peak,flds_k _ _ _,_,rfl,a.f,dx,_,rfl,ho4,flds_no (by decide+kernel),{a with own:=l2::a.own},ps,ts,L,pk,R++[(t,n)],N+1,_,_,rfl,F4,?_,?_,G.ts,fun H5 s5=> ?_⟩
      · intro r hr
        rcases List.mem_append.mp hr with hr|hr
        · exact(G.rw r hr).2.1
        · simp only[List.mem_singleton] at hr
          subst hr;exact n6
      · rw[List.length_append]
        simp;omega
      have F5:=F4.same s5;obtain⟨dx5,ho5⟩:=F5.ob;have ho5:H5 a.f=_:=ho5;refine⟨_,_,rfl,_,rfl,a.f,A.a_House,dx5,_,rfl,ho5,T.K_House,T.n_House_peak,Nat.lt_of_le_of_lt (flds_len _ _ _) (by decide),?_⟩;rw[flds_peak,usedW_snoc R n htn]
      have em:V.int (if((usedW ts R+n:Nat):Int)>(pk:Int) then((usedW ts R+n:Nat):Int) else(pk:Int))=V.int ((max pk (usedW ts R+n):Nat):Int):=by
        congr 1
        split<;>omega
      dsimp only;rw[em];generalize hH6:upd H5 a.f (.ins A.a_House dx5 (flds a.pa a.ta ⟨.int L,.ref a.fa,.ref a.la,.int (max pk (usedW ts R+n):Nat)⟩))=H6
      have kp6:∀c o,c≠a.f→H5 c=some o→H6 c=some o:=fun c o h1 e=>by
        rw[←hH6,upd_ne h1];exact e
      have F6:HouseAt A.a_House H6 {a with own:=l2::a.own} ps ts L (max pk (usedW ts R+n)) (R++[(t,n)]) (N+1) (rs++[l2]) (cs++[List.replicate n .non]):=by
        obtain⟨kf5,f15,f25,f35,f45⟩:=F5.fl;obtain⟨kl5,l15,l25,l35⟩:=F5.ln;refine⟨⟨dx5,by rw[←hH6];exact upd_same⟩,kp6 _ _ (ne_of F5.pl ho5 (by intro z;cases z)) F5.pl,kp6 _ _ (ne_of F5.tl ho5 (by intro z;cases z)) F5.tl,F.ne,⟨kf5,kp6 _ _ (ne_of f15 ho5 (by intro z;cases z)) f15,f25,fun m=> ?_,f45⟩,⟨kl5,kp6 _ _ (ne_of l15 ho5 (by intro z;cases z)) l15,l25,l35⟩,F.fal,F5.rl,fun i c e=> ?_,F5.rn,F5.own5,fun c hc=>(if z:c=a.f then⟨_,by rw[←hH6];exact upd_some z⟩ else(F5.al c hc).imp fun o e=>kp6 c o z e)⟩
        · rcases f35 m with h|⟨c,e1,e2,e3,e4,e5⟩
          · exact .inl h
          · exact .inr ⟨c,e1,e2,e3,e4,kp6 _ _ (ne_of e5 ho5 (by intro z;cases z)) e5⟩
        · obtain⟨e1,e2,e3,vs,e4,e5⟩:=F5.rm i c e
          exact⟨e1,e2,e3,vs,e4,kp6 _ _ (ne_of e5 ho5 (by intro z;cases z)) e5⟩
      refine⟨_,rfl,_,rfl,(show 2≤sizeLine by decide),fun l hl=> ?_⟩;have s7:=Same.upd (o:= .tup [V.int t,V.int (lenR R t)]) hl;have kp:∀c o,¬c∈a.own→H c=some o→H6 c=some o:=fun c o hc e=>kp6 c o (fun z=>hc (z▸of)) (s5 _ _ (kp4 c o (fun z=>hc (z▸bo)) (fun z=>hc (z▸ola)) (s1 _ _ e)));refine k l2 _ l hl20 (F6.same s7) (fun c o hc e=>s7 _ _ (kp c o hc e)) ?_ upd_same
      cases q:H l with
      |none=>rfl
      | some o=>
        by_cases hc:l∈a.own
        · obtain⟨o',e⟩:=F6.al l (.tail _ hc)
          rw[hl] at e;cases e
        · have:=kp l o hc q
          rw[hl] at this;cases this
    refine⟨_,rfl,a.f,dx,_,rfl,ho,flds_no (by decide+kernel),_,rfl,a.f,a.pa,a.ta,ps,ts,t,rfl,F.fr,G.W.len,hst,?_⟩;refine⟨_,rfl,(n:Int),1,6,rfl,_,rfl,?_⟩;rw[decide_eq_true (show(1:Int)≤(n:Int) by omega),decide_eq_true (show(n:Int)≤6 by omega)];refine iteF ?_;refine⟨_,rfl,a.f,dx,_,rfl,ho,flds_no (by decide+kernel),a,ps,ts,L,pk,R,N,rs,cs,rfl,F,fun r hr=>(G.rw r hr).2.1,by omega,G.ts,fun H1 s1=> ?_⟩;have F1:=F.same s1;obtain⟨dx1,ho1⟩:=F1.ob;refine⟨_,rfl,_,rfl,_,_,rfl,rfl,_,rfl,?_⟩;rw[decide_eq_false (show ¬((L:Int) - ((usedW ts R:Nat):Int)<(n:Int)) by omega)];refine iteF ?_;obtain⟨kf,f1,f2,f3,f4⟩:=F1.fl;obtain⟨kl,l1,l2,l3⟩:=F1.ln;obtain⟨of,op,ot,ofa,ola⟩:=F1.own5;refine⟨_,rfl,a.f,A.a_House,dx1,_,_,rfl,ho1,T.K_House,T.n_House_lengths,flds_l _ _ _,a.la,rfl,.inl ⟨_,.inl l1⟩,_,rfl,_,DGet.k (k:= .inl (t:Int)) l1,?_⟩;show _;rw[l3 t];refine⟨_,rfl,a.f,A.a_House,dx1,_,_,rfl,ho1,T.K_House,T.n_House_floors,flds_f _ _ _,a.fa,rfl,.inl ⟨_,.inl f1⟩,_,rfl,fun b hb=> ?_⟩;have s2:=Same.upd (o:= .dK []) hb;have F2:=F1.same s2;have bfa:b≠a.fa:=(ne_of_none f1 hb).symm;have bla:b≠a.la:=(ne_of_none l1 hb).symm;refine⟨kf,.inl (t:Int),s2 _ _ f1,rfl,len_line (by omega),fun v hv=> ?_,fun hv=> ?_⟩
    · have hv' :=hv
      rcases f3 t with h|⟨c,e1,e2,e3,e4,e5⟩
      · rw[h.1] at hv'
        cases hv'
      rw[e1] at hv';cases hv';refine⟨a,ps,ts,L,pk,R,N+1,rs,cs,t,n,_,c,kf,rfl,?_,hcl,G,htn,n1,n6,hR,by omega,hle,s2 _ _ f1,e1,fun r H' l hr F' kp hl e=> ?_⟩
      · obtain⟨kf2,f12,f22,f32,f42⟩:=F2.fl
        obtain⟨kl2,l12,l22,l32⟩:=F2.ln;exact⟨F2.ob,F2.pl,F2.tl,F2.ne,⟨kf2,f12,⟨by omega,f22.2⟩,f32,f42⟩,⟨kl2,l12,by omega,l32⟩,F2.fal,F2.rl,F2.rm,F2.rn,F2.own5,F2.al⟩
      · refine k1 (r::a.own) r H' l F' (fun c hc=> .tail _ hc) (fun c hc=> ?_) (fun c o hc e=>kp c o hc (s2 _ _ (s1 _ _ e))) (s1.free (s2.free hl)) e
        rcases List.mem_cons.mp hc with rfl|hc
        · exact .inr (s1.free (s2.free hr))
        · exact .inl hc
    · have h0:idxF R t=[]:=by
        rcases f3 t with h|⟨c,e1,_⟩
        · exact h.2
        · rw[e1] at hv
          cases hv
      have fb:a.f≠b:=ne_of_none ho1 hb;have ffa:a.f≠a.fa:=ne_of ho1 f1 (by intro z;cases z);have pfa:a.pa≠a.fa:=ne_of F1.pl f1 (by intro z;cases z);have tfa:a.ta≠a.fa:=ne_of F1.tl f1 (by intro z;cases z);generalize hH3:upd (upd H1 b (.dK [])) a.fa (.dK (putK kf (.inl (t:Int)) (.ref b)))=H3
      have kp3:∀c o,c≠a.fa→H1 c=some o→H3 c=some o:=fun c o h1 e=>by
        rw[←hH3,upd_ne h1];exact s2 _ _ e
      have hb3:H3 b=some (.dK []):=by
        rw[←hH3,upd_ne bfa];exact upd_same
      have hf3:H3 a.fa=some (.dK (putK kf (.inl (t:Int)) (.ref b))):=by
        rw[←hH3];exact upd_same
      have vb:valV (putK kf (.inl (t:Int)) (.ref b)) (.inl (t:Int))=some (.ref b):=by
        rw[valV_put,if_pos rfl]
      have vn:∀m:Nat,m≠t→valV (putK kf (.inl (t:Int)) (.ref b)) (.inl (m:Int))=valV kf (.inl (m:Int)):=fun m hm=>by
        rw[valV_put,if_neg (fun q=>hm (by injection q with q;omega))]
      have nob:∀m:Nat,valV kf (.inl (m:Int))≠some (.ref b):=fun m z=>by
        rcases f3 m with h|⟨c,e1,e2,e3,e4,e5⟩
        · rw[h.1] at z
          cases z
        · rw[e1] at z
          cases z;rw[e5] at hb;cases hb
      have F3:HouseAt A.a_House H3 {a with own:=b::a.own} ps ts L pk R (N+1) rs cs:=by
        refine⟨⟨dx1,kp3 _ _ ffa ho1⟩,kp3 _ _ pfa F1.pl,kp3 _ _ tfa F1.tl,F.ne,⟨_,hf3,?_,fun m=> ?_,fun m m' c e e' => ?_⟩,⟨kl,kp3 _ _ F.fal.symm l1,by omega,l3⟩,F.fal,F.rl,fun i c e=> ?_,F.rn,⟨.tail _ of,.tail _ op,.tail _ ot,.tail _ ofa,.tail _ ola⟩,fun c hc=> ?_⟩
        · have:=length_putK kf (.inl (t:Int)) (.ref b)
          exact⟨by omega,kvOk_put f2.2 hv⟩
        · by_cases z:m=t
          · subst z
            refine .inr ⟨b,vb,.head _,bfa,bla,?_⟩;unfold floorK;rw[h0];exact hb3
          · rw[vn m z]
            rcases f3 m with h|⟨c,e1,e2,e3,e4,e5⟩
            · exact .inl h
            · exact .inr ⟨c,e1,.tail _ e2,e3,e4,kp3 _ _ e3 e5⟩
        · by_cases z:m=t<;>by_cases z' :m' =t
          · omega
          · subst z
            rw[vb] at e;cases e;rw[vn m' z'] at e';exact absurd e' (nob m')
          · subst z'
            rw[vb] at e';cases e';rw[vn m z] at e;exact absurd e (nob m)
          · rw[vn m z] at e
            rw[vn m' z'] at e';exact f4 m m' c e e'
        · obtain⟨e1,e2,e3,vs,e4,e5⟩:=F1.rm i c e
          exact⟨.tail _ e1,e2,e3,vs,e4,kp3 _ _ (ne_of e5 f1 (by intro z;cases z)) e5⟩
        · rcases List.mem_cons.mp hc with rfl|hc
          · exact⟨_,hb3⟩
          · by_cases z:c=a.fa
            · exact⟨_,by rw[←hH3];exact upd_some z⟩
            · exact(F1.al c hc).imp fun o e=>kp3 c o z e
      have free3:∀c,H3 c=none→H1 c=none:=fun c e=>by
        cases q:H1 c with
        |none=>rfl
        | some o=>
          by_cases z:c=a.fa
          · rw[z,hf3] at e
            cases e
          · rw[kp3 c o z q] at e
            cases e
      refine⟨{a with own:=b::a.own},ps,ts,L,pk,R,N+1,rs,cs,t,n,_,b,_,rfl,F3,hcl,G,htn,n1,n6,hR,by omega,hle,hf3,vb,fun r H' l hr F' kp hl e=> ?_⟩;refine k1 (r::b::a.own) r H' l F' (fun c hc=> .tail _ (.tail _ hc)) (fun c hc=> ?_) (fun c o hc e=>kp c o (fun z=> ?_) (kp3 c o (fun z=>hc (z▸ofa)) (s1 _ _ e))) (s1.free (free3 l hl)) e
      · rcases List.mem_cons.mp hc with rfl|hc
        · exact .inr (s1.free (free3 _ hr))
        · rcases List.mem_cons.mp hc with rfl|hc
          · exact .inr (s1.free hb)
          · exact .inl hc
      · rcases List.mem_cons.mp z with rfl|z
        · have:=s1 _ _ e
          rw[hb] at this;cases this
        · exact hc z
end
end My
namespace My
open PySem L2 PyProof.Rows
theorem sum_castN (S:List Nat):(S.map fun n=>((n:Nat):Int)).sum=((S.sum:Nat):Int):=by
  induction S with
  |nil=>rfl
  | cons a S ih=>
    simp only[List.map_cons,List.sum_cons,ih];omega
structure MA where
  d:Addr
  ha:Addr
  tk:Addr
  wl:Addr
  ca:Addr
  own:List Addr
abbrev wayK(t p:Nat):List Key:=[.inl (t:Int),.inl (p:Int)]
def VOk(ws:List Addr)(n:Nat)(v:V):Prop:=v= .non∨(∃i:Int,v= .int i∧i.natAbs<10 ^ 40)∨∃i,i<n∧v= .ref (ws.getD i 0)
structure CsOk (R:Rm) (ws:List Addr) (cs:List (List V)):Prop where
  cl:cs.length=R.length
  cz:∀(i:Nat) (vs:List V),cs[i]? =some vs→vs.length=(R.getD i (0,0)).2
  vo:∀(i:Nat) (vs:List V),cs[i]? =some vs→∀v∈vs,VOk ws R.length v
structure ModelAt (H:Hp) (m:MA) (ps ts:List (Option Nat)) (L top:Nat) (R:Rm) (ws ms:List Addr) (cs:List (List V)):Prop where
  ob:H m.d=some (.dK (kvM m.ha m.tk ⟨.int L,.int top,.ref m.wl,.ref m.ca⟩))
  hl:H m.ha=some (.lst (ps.map oV))
  tl:H m.tk=some (.lst (ts.map oV))
  ne:m.ha≠m.tk
  wl:H m.wl=some (.lst (ws.map V.ref))
  wlen:ws.length=R.length
  way:∀i,i<R.length→ws.getD i 0∈m.own∧H (ws.getD i 0)=some (.tup (wayL (R.getD i (0,0)).1 (placeR R i)))
  ca:∃kv,H m.ca=some (.dT kv)∧kv.length≤R.length∧∀i,i<R.length→valV kv (wayK (R.getD i (0,0)).1 (placeR R i))=some (.ref (ms.getD i 0))
  wn:m.wl≠m.ha∧m.wl≠m.tk
  ml:ms.length=R.length
  mm:∀(i:Nat) (b:Addr),ms[i]? =some b→b∈m.own∧b≠m.ha∧b≠m.tk∧b≠m.wl∧∃vs,cs[i]? =some vs∧H b=some (.lst vs)
  mn:ms.Nodup
  own5:m.d∈m.own∧m.ha∈m.own∧m.tk∈m.own∧m.wl∈m.own∧m.ca∈m.own
  al:∀c∈m.own,∃o,H c=some o
section
variable{H H' :Hp}{m:MA}{ps ts ps' ts' :List (Option Nat)}{L top:Nat}{R:Rm}{ws ms:List Addr}{cs:List (List V)}
theorem ModelAt.mod(M:ModelAt H m ps ts L top R ws ms cs):ModAt H m.d m.ha m.tk ps ts:=⟨⟨_,M.ob⟩,M.hl,M.tl,M.ne⟩
theorem ModelAt.kept (M:ModelAt H m ps ts L top R ws ms cs) (k:∀c o,c∈m.own→H c=some o→H' c=some o):ModelAt H' m ps ts L top R ws ms cs:=by
  obtain⟨ob,hl,tl,ne,wl,wlen,way,⟨kv,c1,c2,c3⟩,wn,ml,mm,mn,⟨o1,o2,o3,o4,o5⟩,al⟩:=M;refine⟨k _ _ o1 ob,k _ _ o2 hl,k _ _ o3 tl,ne,k _ _ o4 wl,wlen,fun i hi=>⟨(way i hi).1,k _ _ (way i hi).1 (way i hi).2⟩,⟨kv,k _ _ o5 c1,c2,c3⟩,wn,ml,fun i b e=> ?_,mn,⟨o1,o2,o3,o4,o5⟩,fun c hc=>(al c hc).imp fun o e=>k c o hc e⟩;obtain⟨e1,e2,e3,e4,vs,e5,e6⟩:=mm i b e;exact⟨e1,e2,e3,e4,vs,e5,k _ _ e1 e6⟩
theorem ModelAt.same(M:ModelAt H m ps ts L top R ws ms cs)(s:Same H H'):ModelAt H' m ps ts L top R ws ms cs:=M.kept fun c o _ e=>s c o e
theorem ModelAt.frames (M:ModelAt H m ps ts L top R ws ms cs) (F:ModAt H' m.d m.ha m.tk ps' ts') (k:Kept2 m.ha m.tk H H'):ModelAt H' m ps' ts' L top R ws ms cs:=by
  obtain⟨ob,hl,tl,ne,wl,wlen,way,⟨kv,c1,c2,c3⟩,wn,ml,mm,mn,o,al⟩:=M;refine⟨k _ _ (ne_of ob hl (by intro z;cases z)) (ne_of ob tl (by intro z;cases z)) ob,F.hl,F.tl,ne,k _ _ wn.1 wn.2 wl,wlen,fun i hi=>⟨(way i hi).1,k _ _ (ne_of (way i hi).2 hl (by intro z;cases z)) (ne_of (way i hi).2 tl (by intro z;cases z)) (way i hi).2⟩,⟨kv,k _ _ (ne_of c1 hl (by intro z;cases z)) (ne_of c1 tl (by intro z;cases z)) c1,c2,c3⟩,wn,ml,fun i b e=> ?_,mn,o,fun c hc=> ?_⟩
  · obtain⟨e1,e2,e3,e4,vs,e5,e6⟩:=mm i b e
    exact⟨e1,e2,e3,e4,vs,e5,k _ _ e2 e3 e6⟩
  · by_cases z1:c=m.ha
    · exact⟨_,z1▸F.hl⟩
    · by_cases z2:c=m.tk
      · exact⟨_,z2▸F.tl⟩
      · exact(al c hc).imp fun o e=>k c o z1 z2 e
theorem ModelAt.getW (M:ModelAt H m ps ts L top R ws ms cs):DGet H m.d (.str "ways") (some (.ref m.wl)):=by
  have:=DGet.k (k:=kW) M.ob;rw[val_w] at this;exact this
theorem ModelAt.getC (M:ModelAt H m ps ts L top R ws ms cs):DGet H m.d (.str "cells") (some (.ref m.ca)):=by
  have:=DGet.k (k:=kC) M.ob;rw[val_c] at this;exact this
theorem ModelAt.getP (M:ModelAt H m ps ts L top R ws ms cs):DGet H m.d (.str "top") (some (.int top)):=by
  have:=DGet.k (k:=kP) M.ob;rw[val_p] at this;exact this
theorem ModelAt.at_ (M:ModelAt H m ps ts L top R ws ms cs) {i:Nat} (hi:i<R.length):∃b vs,ms[i]? =some b∧cs[i]? =some vs∧H (ws.getD i 0)=some (.tup (wayL (R.getD i (0,0)).1 (placeR R i)))∧DGet H m.ca (.ref (ws.getD i 0)) (some (.ref b))∧H b=some (.lst vs):=by
  obtain⟨kv,c1,c2,c3⟩:=M.ca;have e:=get_getD 0 (show i<ms.length by rw[M.ml];exact hi);obtain⟨b1,b2,b3,b4,vs,b5,b6⟩:=M.mm i _ e;have g:=DGet.t (k:=wayK (R.getD i (0,0)).1 (placeR R i)) c1 (M.way i hi).2;rw[c3 i hi] at g;exact⟨_,vs,e,b5,(M.way i hi).2,g,b6⟩
end
def refsOf(ws:List Addr)(I:List Nat):List V:=I.map fun i=>V.ref (ws.getD i 0)
theorem getD_mem{R:Rm}{i:Nat}(hi:i<R.length):R.getD i (0,0)∈R:=List.mem_of_getElem? (get_getD (0,0) hi)
section
variable{P:Program}{w:World}{K:PySem.W.Frag}{mg:Str→Option Value}{base:Heap}{A:Adr}
def spGiven:Sp:=fun vs H Q _=>∃m ps ts L top R ws ms cs,∃t:Nat,vs=[.ref m.d,.int t]∧ModelAt H m ps ts L top R ws ms cs∧R.length≤1000∧∀l H',H l=none→Same H H'→H' l=some (.lst (refsOf ws (idxF R t)))→Q (.ref l) H'
theorem ok__law_given (T:Txt K mg A):FnOk P w K mg base CX0 1 A.a__law_given A.d__law_given ["_law_model","_law_frame"] spGiven:=by
  refine T.F__law_given.ok sc__law_given (fun vs H Q E h=> ?_) (fun cdv Ar outer s H vs Q E hr h=> ?_)
  · obtain⟨m,ps,ts,L,top,R,ws,ms,cs,t,rfl,_⟩:=h
    rfl
  · obtain⟨m,ps,ts,L,top,R,ws,ms,cs,t,rfl,M,hR,k⟩:=h
    have hu:=hu_of hr;refine⟨_,(pss_one (ps_ret (pe_comp (N:=["_law_way","_law_frame"]) (k:=1) (js:=[1]) rfl (cscope_of (by kernel_rfl)) (pi_list (pe_dget hu (pv 0) pe_str (fun _ _=>rfl))) (fun _ _ _ _ _=>⟨(pg_name (i:=0) (show(["_law_way","_law_frame"]:List Str).Nodup by decide+kernel) rfl (Or.inl rfl) (Or.inr rfl)),(pif1 (pt_cmpR op_eq (pe_ix (ix_tupK (K:=K) rfl) (pv 0) pe_int (fun _ _=>rfl)) (pv 1) (nomark _))),(pv 0)⟩)))),?_⟩;refine⟨_,rfl,m.d,_,rfl,M.getW,m.wl,rfl,⟨_,SqL.of M.wl⟩,?_⟩;have hwl:(ws.map V.ref).length=R.length:=by rw[List.length_map,M.wlen]
    refine comp_grow (fun i=>(R.getD i (0,0)).1==t) (fun i=>V.ref (ws.getD i 0)) (feeds_list (SqL.of M.wl)).g ?_ ?_ fun p H' hp sm hl=>k p H' hp sm ?_
    · rw[hwl]
      exact Nat.le_of_lt (len_line (by omega))
    · intro i x H' C1 C0 hi sm hx c1 c0
      rw[hwl] at hi;have M' :=M.same sm;have e3:=(M'.way i hi).2;rw[List.getElem?_map,get_getD 0 (by rw[M.wlen];exact hi)] at hx;cases hx;refine⟨(SubS.refl _).own (by decide),_,rfl,ws.getD i 0,_,0,_,rfl,rfl,SqT.of e3,rfl,_,rfl,rfl,_,rfl,?_⟩
      have eq:decide (nV (R.getD i (0,0)).1=V.int t)=((R.getD i (0,0)).1==t):=by
        by_cases z:(R.getD i (0,0)).1=t
        · rw[z]
          simp[nV]
        · rw[decide_eq_false (fun q=>z (by injection q with q;omega))]
          simpa using z
      show if decide (nV (R.getD i (0,0)).1=V.int t)=true then _ else _
      rw[eq]
      cases hd:((R.getD i (0,0)).1==t) with
      |true=>exact iteT ⟨_,rfl,c1 hd H' (Same.refl H')⟩
      |false=>exact iteF (c0 hd H' (Same.refl H'))
    · rw[hwl] at hl
      exact hl
def spLUsed:Sp:=fun vs H Q _=>∃m ps ts L top R ws ms cs,vs=[.ref m.d]∧ModelAt H m ps ts L top R ws ms cs∧(∀(i:Nat) (vs:List V),cs[i]? =some vs→vs.length=(R.getD i (0,0)).2)∧R.length≤1100∧(∀r∈R,r.2≤6∧r.1<ts.length)∧∀H',Same H H'→Q (.int (usedW ts R)) H'
theorem ok__law_used (T:Txt K mg A):FnOk P w K mg base CX0 1 A.a__law_used A.d__law_used ["_law_model"] spLUsed:=by
  refine T.F__law_used.ok sc__law_used (fun vs H Q E h=> ?_) (fun cdv Ar outer s H vs Q E hr h=> ?_)
  · obtain⟨m,ps,ts,L,top,R,ws,ms,cs,rfl,_⟩:=h
    rfl
  · obtain⟨m,ps,ts,L,top,R,ws,ms,cs,rfl,M,cz,hR,hr6,k⟩:=h
    have hu:=hu_of hr;refine⟨_,(pss_one (ps_ret (pe_callB (call_sum rfl) (by rfl) T.z_sum Boot.«sum» (pa_cons (pe_comp (N:=["_law_way","_law_model"]) (k:=1) (js:=[0]) rfl (cscope_of (by kernel_rfl)) (pi_list (pe_dget hu (pv 0) pe_str (fun _ _=>rfl))) (fun _ _ _ _ _=>⟨(pg_name (i:=0) (show(["_law_way","_law_model"]:List Str).Nodup by decide+kernel) rfl (Or.inl rfl) (Or.inr rfl)),(pif1 (pt_cmpR op_isN (pe_ix (ix_listK (K:=K) rfl) (pe_dget hu (pv 1) pe_str (fun _ _=>rfl)) (pe_ix (ix_tupK (K:=K) rfl) (pv 0) pe_int (fun _ _=>rfl)) (fun _ _=>rfl)) pe_non (nomark _))),(pe_callB (call_len_seqK (K:=K) rfl) (by rfl) T.z_len Boot.«len» (pa_cons (pe_dget hu (pe_dget hu (pv 1) pe_str (fun _ _=>rfl)) (pv 0) (fun _ _=>rfl)) pa_nil))⟩)) pa_nil)))),?_⟩;refine⟨_,rfl,m.d,_,rfl,M.getW,m.wl,rfl,⟨_,SqL.of M.wl⟩,?_⟩;have hwl:(ws.map V.ref).length=R.length:=by rw[List.length_map,M.wlen]
    refine comp_grow (fun i=>ts[(R.getD i (0,0)).1]? ==some none) (fun i=>V.int ((R.getD i (0,0)).2:Int)) (feeds_list (SqL.of M.wl)).g ?_ ?_ fun p H' hp sm hl=> ?_
    · rw[hwl]
      exact Nat.le_of_lt (len_line (by omega))
    · intro i x H' C1 C0 hi sm hx c1 c0
      rw[hwl] at hi;have M' :=M.same sm;obtain⟨b,vs,e1,e2,e3,e4,e5⟩:=M'.at_ hi;rw[List.getElem?_map,get_getD 0 (by rw[M.wlen];exact hi)] at hx;cases hx;have er:=getD_mem hi;have hlt:=(hr6 _ er).2;have hxi:ts[(R.getD i (0,0)).1]? =some ts[(R.getD i (0,0)).1]:=by simp[hlt]
      rw[hxi] at c1 c0;refine⟨(SubS.refl _).own (by decide),_,rfl,m.d,_,rfl,M'.mod.getT,_,rfl,ws.getD i 0,_,0,_,rfl,rfl,SqT.of e3,rfl,m.tk,_,_,_,rfl,rfl,SqL.of M'.tl,at_map hxi,rfl,_,rfl,?_⟩
      cases eo:ts[(R.getD i (0,0)).1] with
      | none=>
        rw[eo] at c1;refine iteT ⟨_,rfl,m.d,_,rfl,M'.getC,_,rfl,m.ca,_,rfl,e4,b,_,rfl,.inl (SqL.of e5),?_⟩;rw[cz i vs e2];exact c1 rfl H' (Same.refl H')
      | some n=>
        rw[eo] at c0;exact iteF (c0 rfl H' (Same.refl H'))
    · rw[hwl] at hl
      have el:((List.range R.length).filter fun i=>ts[(R.getD i (0,0)).1]? ==some none).map (fun i=>V.int ((R.getD i (0,0)).2:Int))=(((R.filter fun r=>ts[r.1]? ==some none).map (·.2)).map fun n=>((n:Nat):Int)).map V.int:=by
        have:=range_filterG R (0,0) (fun r=>ts[r.1]? ==some none) (fun r=>V.int (r.2:Int));rw[this,List.map_map,List.map_map];rfl
      rw[el] at hl;refine⟨p,_,rfl,hl,?_,?_,?_⟩
      · rw[List.length_map,List.length_map]
        exact Nat.le_trans (List.length_filter_le _ _) (by omega)
      · intro n hn
        obtain⟨x,hx,rfl⟩:=List.mem_map.mp hn;obtain⟨r,hr,rfl⟩:=List.mem_map.mp hx;have:=(hr6 r (List.mem_filter.mp hr).1).1;omega
      · rw[sum_castN]
        exact k H' sm
end
end My
namespace My
open PySem L2 PyProof.Rows
section
variable{P:Program}{w:World}{K:PySem.W.Frag}{mg:Str→Option Value}{base:Heap}{A:Adr}
def spLHouse:Sp:=fun vs H Q _=>∃L:Nat,vs=[.int L]∧∀m H',(∀c∈m.own,H c=none)→ModelAt H' m [none] [none] L 0 [] [] [] []→Same H H'→Q (.ref m.d) H'
theorem ok__law_house (T:Txt K mg A):FnOk P w K mg base CX0 1 A.a__law_house A.d__law_house ["_law_limit"] spLHouse:=by
  refine T.F__law_house.ok sc__law_house (fun vs H Q E h=> ?_) (fun cdv Ar outer s H vs Q E hr h=> ?_)
  · obtain⟨L,rfl,_⟩:=h
    rfl
  · obtain⟨L,rfl,k⟩:=h
    refine⟨_,(pss_one (ps_ret (pe_disp (pps_cons pe_str (pe_lst (pa_cons pe_non pa_nil)) (pps_cons pe_str (pe_lst (pa_cons pe_non pa_nil)) (pps_cons pe_str (pv 0) (pps_cons pe_str pe_int (pps_cons pe_str (pe_lst pa_nil) (pps_cons pe_str pe_dnewT pps_nil)))))) rfl rfl (by simp) (by decide)))),?_⟩;intro d hd;have s0:=Same.upd (o:= .dK []) hd;refine⟨(show 1≤sizeLine by decide),fun ha hha=>⟨(show 1≤sizeLine by decide),fun tk htk=>⟨_,rfl,(show 0≤sizeLine by decide),fun wl hwl=>fun ca hca=> ?_⟩⟩⟩;have s1:=Same.upd (o:= .lst [.non]) hha;have s2:=Same.upd (o:= .lst [.non]) htk;have s3:=Same.upd (o:= .lst []) hwl;have s4:=Same.upd (o:= .dT []) hca;have d0:upd H d (.dK []) d=some (.dK []):=upd_same;have h1:upd (upd H d (.dK [])) ha (.lst [.non]) ha=some (.lst [.non]):=upd_same;have h2:upd (upd (upd H d (.dK [])) ha (.lst [.non])) tk (.lst [.non]) tk=some (.lst [.non]):=upd_same;have h3:upd (upd (upd (upd H d (.dK [])) ha (.lst [.non])) tk (.lst [.non])) wl (.lst []) wl=some (.lst []):=upd_same;have nd1:ha≠d:=(ne_of_none d0 hha).symm;have nd2:tk≠d:=(ne_of_none (s1 _ _ d0) htk).symm;have nd3:wl≠d:=(ne_of_none (s2 _ _ (s1 _ _ d0)) hwl).symm;have nd4:ca≠d:=(ne_of_none (s3 _ _ (s2 _ _ (s1 _ _ d0))) hca).symm;have n12:ha≠tk:=ne_of_none h1 htk;have n13:wl≠ha:=(ne_of_none (s2 _ _ h1) hwl).symm;have n23:wl≠tk:=(ne_of_none h2 hwl).symm;refine⟨s4 _ _ (s3 _ _ (s2 _ _ (s1 _ _ d0))),[(kH,.ref ha),(kT,.ref tk),(kL,.int L),(kP,.int 0),(kW,.ref wl),(kC,.ref ca)],(by kernel_rfl),by show 6≤15;decide,?_⟩;have em:mergeK [] [(kH,V.ref ha),(kT,.ref tk),(kL,.int L),(kP,.int 0),(kW,.ref wl),(kC,.ref ca)]=kvM ha tk ⟨.int L,.int 0,.ref wl,.ref ca⟩:=by kernel_rfl
    rw[em]
    have nf:∀{c:Addr},c≠d→∀{o},upd (upd (upd (upd (upd H d (.dK [])) ha (.lst [.non])) tk (.lst [.non])) wl (.lst [])) ca (.dT []) c=some o→upd (upd (upd (upd (upd (upd H d (.dK [])) ha (.lst [.non])) tk (.lst [.non])) wl (.lst [])) ca (.dT [])) d (.dK (kvM ha tk ⟨.int L,.int 0,.ref wl,.ref ca⟩)) c=some o:=fun h _ e=>by
      rw[upd_ne h];exact e
    refine k ⟨d,ha,tk,wl,ca,[d,ha,tk,wl,ca]⟩ _ ?_ ⟨upd_same,nf nd1 (s4 _ _ (s3 _ _ (s2 _ _ h1))),nf nd2 (s4 _ _ (s3 _ _ h2)),n12,nf nd3 (s4 _ _ h3),rfl,(fun i hi=>absurd hi (Nat.not_lt_zero _)),⟨[],nf nd4 upd_same,Nat.le_refl _,(fun i hi=>absurd hi (Nat.not_lt_zero _))⟩,⟨n13,n23⟩,rfl,(fun i b e=>by cases e),.nil,(by simp),fun c hc=> ?_⟩ fun c o e=> ?_
    · intro c hc
      simp only[List.mem_cons,List.not_mem_nil,or_false] at hc;rcases hc with rfl|rfl|rfl|rfl|rfl
      · exact hd
      · exact s0.free hha
      · exact s0.free (s1.free htk)
      · exact s0.free (s1.free (s2.free hwl))
      · exact s0.free (s1.free (s2.free (s3.free hca)))
    · simp only[List.mem_cons,List.not_mem_nil,or_false] at hc
      rcases hc with rfl|rfl|rfl|rfl|rfl
      · exact⟨_,upd_same⟩
      · exact⟨_,nf nd1 (s4 _ _ (s3 _ _ (s2 _ _ h1)))⟩
      · exact⟨_,nf nd2 (s4 _ _ (s3 _ _ h2))⟩
      · exact⟨_,nf nd3 (s4 _ _ h3)⟩
      · exact⟨_,nf nd4 upd_same⟩
    · exact nf (ne_of_none e hd) (s4 _ _ (s3 _ _ (s2 _ _ (s1 _ _ (s0 _ _ e)))))
end
end My
namespace My
open PySem L2 PyProof.Rows
theorem split_snoc {R:Rm} {x:Nat×Nat} {i:Nat} (h:i<(R++[x]).length):i<R.length∨i=R.length:=by
  rw[List.length_append] at h;simp at h;omega
section
variable{P:Program}{w:World}{K:PySem.W.Frag}{mg:Str→Option Value}{base:Heap}{A:Adr}
def spLMake:Sp:=fun vs H Q _=>∃m ps ts L top R ws ms cs,∃t n:Nat,vs=[.ref m.d,.int t,.int n]∧ModelAt H m ps ts L top R ws ms cs∧CsOk R ws cs∧R.length≤1000∧(∀r∈R,1≤r.2∧r.2≤6∧r.1<ts.length)∧t<ts.length∧1≤n∧n≤6∧
  ∀own' wt r l H',ModelAt H' {m with own:=own'} ps ts L (max top (usedW ts (R++[(t,n)]))) (R++[(t,n)]) (ws++[wt]) (ms++[r]) (cs++[List.replicate n .non])→(∀c∈m.own,c∈own')→(∀c∈own',c∈m.own∨H c=none)→(∀c o,¬c∈m.own→H c=some o→H' c=some o)→H' l=some (.tup (wayL t (lenR R t)))→Q (.ref l) H'
theorem ok__law_make (T:Txt K mg A):FnOk P w K mg base CX0 2 A.a__law_make A.d__law_make ["_law_model","_law_frame","_law_size"] spLMake:=by
  have G__law_given:FnOk P w K mg base CX0 1 A.a__law_given A.d__law_given ["_law_model","_law_frame"] spGiven:=ok__law_given T;have G__law_used:FnOk P w K mg base CX0 1 A.a__law_used A.d__law_used ["_law_model"] spLUsed:=ok__law_used T;refine T.F__law_make.ok sc__law_make (fun vs H Q E h=> ?_) (fun cdv Ar outer s H vs Q E hr h=> ?_)
  · obtain⟨m,ps,ts,L,top,R,ws,ms,cs,t,n,rfl,_⟩:=h
    rfl
  · obtain ⟨m, ps,ts,L,top,R,ws,ms,cs,t,n,rfl,M,CS,hR,hr6,htl,n1,n6,k⟩:=h
    have hr1:∀r∈R,1≤r.2:=fun r hr=>(hr6 r hr).1;have hu:=hu_of hr;refine⟨_,(pss_cons (ps_set (i:=3) sc__law_make.nd rfl (Or.inl rfl) (pe_tup (pa_cons (pv 1) (pa_cons (pe_callB (call_sum rfl) (by rfl) T.z_sum Boot.«sum» (pa_cons (pe_comp (N:=["_law_other","_law_model"]) (k:=1) (js:=[0]) rfl (cscope_of (by kernel_rfl)) (pi_list (pe_call G__law_given hr rfl T.m__law_given T.F__law_given.kp T.b__law_given .nil pass0 (pa_cons (pv 0) (pa_cons (pv 1) pa_nil)))) (fun _ _ _ _ _=>⟨(pg_name (i:=0) (show(["_law_other","_law_model"]:List Str).Nodup by decide+kernel) rfl (Or.inl rfl) (Or.inr rfl)),pif0,(pe_callB (call_len_seqK (K:=K) rfl) (by rfl) T.z_len Boot.«len» (pa_cons (pe_dget hu (pe_dget hu (pv 1) pe_str (fun _ _=>rfl)) (pv 0) (fun _ _=>rfl)) pa_nil))⟩)) pa_nil)) pa_nil)))) (pss_cons (ps_expr (pe_bm PySem.F.plainAttrs_list PySem.F.slot_list_append PySem.F.type_list_append mt_append (pe_dget hu (pv 0) pe_str (fun _ _=>rfl)) (pa_cons (pv 3) pa_nil))) (pss_cons (ps_dput hu (pe_dget hu (pv 0) pe_str (fun _ _=>rfl)) (pv 3) (pe_op op_rep (pe_lst (pa_cons pe_non pa_nil)) (pv 2)) rfl) (pss_cons (ps_dput hu (pv 0) pe_str (pe_callB (call_max2 rfl) (by rfl) T.z_max Boot.«max» (pa_cons (pe_dget hu (pv 0) pe_str (fun _ _=>rfl)) (pa_cons (pe_call G__law_used hr rfl T.m__law_used T.F__law_used.kp T.b__law_used .nil pass0 (pa_cons (pv 0) pa_nil)) pa_nil))) rfl) (pss_one (ps_ret (pv 3))))))),?_⟩;refine⟨_,rfl,_,rfl,_,rfl,m,ps,ts,L,top,R,ws,ms,cs,t,rfl,M,hR,fun gl H1 hgl s1 hg=> ?_⟩;refine⟨gl,rfl,⟨_,SqL.of hg⟩,?_⟩;have hil:=idx_len R t;have hgn:(refsOf ws (idxF R t)).length=(idxF R t).length:=List.length_map ..;refine comp_grow (fun _=>true) (fun j=>V.int ((R.getD ((idxF R t).getD j 0) (0,0)).2:Int)) (feeds_list (SqL.of hg)).g ?_ ?_ fun p H2 hp s2 hl=> ?_
    · rw[hgn]
      exact Nat.le_of_lt (len_line (by omega))
    · intro j x H' C1 C0 hj sm hx c1 c0
      rw[hgn] at hj;have M' :=(M.same s1).same sm;have ei:=get_getD 0 hj;have hi:=idx_lt (List.mem_of_getElem? ei);obtain⟨b,vs,e1,e2,e3,e4,e5⟩:=M'.at_ hi;unfold refsOf at hx;rw[List.getElem?_map,ei] at hx;cases hx;refine⟨(SubS.refl _).own (by decide),iteT (B:=C0 H') ⟨_,rfl,m.d,_,rfl,M'.getC,_,rfl,m.ca,_,rfl,e4,b,_,rfl,.inl (SqL.of e5),?_⟩⟩;rw[CS.cz _ vs e2];exact c1 rfl H' (Same.refl H')
    · rw [hgn] at hl
      have el:((List.range (idxF R t).length).filter fun _=>true).map (fun j=>V.int ((R.getD ((idxF R t).getD j 0) (0,0)).2:Int))=(((idxF R t).map fun i=>(R.getD i (0,0)).2).map fun n=>((n:Nat):Int)).map V.int:=by
        have:=range_filterG (idxF R t) 0 (fun _=>true) (fun i=>V.int ((R.getD i (0,0)).2:Int));rw[this,List.filter_eq_self.mpr (fun _ _=>rfl),List.map_map,List.map_map];rfl
      rw[el] at hl;refine⟨p,_,rfl,hl,?_,?_,?_⟩
      · rw[List.length_map,List.length_map]
        omega
      · intro x hx
        obtain⟨y,hy,rfl⟩:=List.mem_map.mp hx;obtain⟨i,hi,rfl⟩:=List.mem_map.mp hy;have:=(hr6 _ (getD_mem (idx_lt hi))).2.1;omega
      rw[sum_castN,idx_sum];refine⟨(show 2≤sizeLine by decide),fun wt hwt=> ?_⟩;have s3:=Same.upd (o:= .tup [V.int t,V.int (lenR R t)]) hwt;have s13:=(s1.trans s2).trans s3;have M3:=M.same s13;have hw3:upd H2 wt (.tup [V.int t,V.int (lenR R t)]) wt=some (.tup (wayL t (lenR R t))):=upd_same;have hwt0:H wt=none:=(s1.trans s2).free hwt;generalize upd H2 wt (.tup [V.int t,V.int (lenR R t)])=H3 at s13 M3 hw3;obtain⟨o1,o2,o3,o4,o5⟩:=M.own5;have dw:m.d≠m.wl:=ne_of M.ob M.wl (by intro z;cases z);refine⟨_,rfl,m.d,_,rfl,M3.getW,.inl ⟨rfl,_,SqL.of M3.wl⟩,_,rfl,m.wl,_,_,rfl,rfl,M3.wl,?_,?_⟩
      · rw[List.length_map,M.wlen]
        exact len_line (by omega)
      generalize hH4:upd H3 m.wl (.lst (ws.map V.ref++[V.ref wt]))=H4
      have kp4:∀c o,c≠m.wl→H3 c=some o→H4 c=some o:=fun c o h1 e=>by
        rw[←hH4,upd_ne h1];exact e
      have hd4:=kp4 _ _ dw M3.ob;have hw4:=kp4 _ _ (ne_of hw3 M3.wl (by intro z;cases z)) hw3;obtain⟨kv,c1,c2,c3⟩:=M3.ca;have cw:m.ca≠m.wl:=ne_of c1 M3.wl (by intro z;cases z);refine⟨(show 1≤sizeLine by decide),fun l1 hl1=>⟨_,rfl,l1,(n:Int),_,rfl,rfl,upd_same,by omega,by omega,?_,fun l2 hl2=> ?_⟩⟩
      · show 1*(n:Int).toNat≤sizeLine
        exact Nat.le_of_lt (len_line (by omega))
      rw[Int.toNat_natCast,rep_one];have s5:=(Same.upd (o:= .lst [V.non]) hl1).trans (Same.upd (o:= .lst (List.replicate n .non)) hl2);have hb5:upd (upd H4 l1 (.lst [V.non])) l2 (.lst (List.replicate n .non)) l2=some (.lst (List.replicate n .non)):=upd_same;have hl24:H4 l2=none:=(Same.upd (o:= .lst [V.non]) hl1).free hl2;generalize upd (upd H4 l1 (.lst [V.non])) l2 (.lst (List.replicate n .non))=H5 at s5 hb5
      have hw4l:H4 m.wl=some (.lst (ws.map V.ref++[V.ref wt])):=by
        rw[←hH4];exact upd_same
      have bw:l2≠m.wl:=(ne_of_none hw4l hl24).symm;have ha4:=kp4 _ _ M.wn.1.symm M3.hl;have tk4:=kp4 _ _ M.wn.2.symm M3.tl;have bh:l2≠m.ha:=(ne_of_none ha4 hl24).symm;have bt:l2≠m.tk:=(ne_of_none tk4 hl24).symm
      have hl20:H l2=none:=by
        cases q:H l2 with
        |none=>rfl
        | some o=>
          have:=kp4 _ _ bw (s13 _ _ q);rw[hl24] at this;cases this
      refine⟨_,rfl,m.d,_,rfl,(by
        have:=DGet.k (k:=kC) (s5 _ _ hd4);rw[val_c] at this;exact this),_,rfl,m.ca,_,rfl,DPut.t (k:=wayK t (lenR R t)) (s5 _ _ (kp4 _ _ cw c1)) (s5 _ _ hw4) (len_line (by omega)),?_⟩
      generalize hH6:upd H5 m.ca (.dT (putK kv (wayK t (lenR R t)) (.ref l2)))=H6
      have kp6:∀c o,c≠m.ca→H5 c=some o→H6 c=some o:=fun c o h1 e=>by
        rw[←hH6,upd_ne h1];exact e
      have kp:∀c o,c≠m.wl→c≠m.ca→H c=some o→H6 c=some o:=fun c o h1 h2 e=>kp6 _ _ h2 (s5 _ _ (kp4 _ _ h1 (s13 _ _ e)));have kp3:∀c o,c≠m.wl→c≠m.ca→H3 c=some o→H6 c=some o:=fun c o h1 h2 e=>kp6 _ _ h2 (s5 _ _ (kp4 _ _ h1 e));have kt3:∀c xs,H3 c=some (.tup xs)→H6 c=some (.tup xs):=fun c xs e=>kp3 _ _ (ne_of e M3.wl (by intro z;cases z)) (ne_of e c1 (by intro z;cases z)) e;have dca:m.d≠m.ca:=ne_of M3.ob c1 (by intro z;cases z);have hca_:m.ha≠m.ca:=ne_of M3.hl c1 (by intro z;cases z);have tca:m.tk≠m.ca:=ne_of M3.tl c1 (by intro z;cases z);have wca:m.wl≠m.ca:=cw.symm;have hl26:H6 l2=some (.lst (List.replicate n .non)):=kp6 _ _ (ne_of hb5 (s5 _ _ (kp4 _ _ cw c1)) (by intro z;cases z)) hb5
      have M6 : ModelAt H6 {m with own:=l2::wt::m.own} ps ts L top (R++[(t,n)]) (ws++[wt]) (ms++[l2]) (cs++[List.replicate n .non]):=by
        refine⟨kp3 _ _ dw dca M3.ob,kp3 _ _ M.wn.1.symm hca_ M3.hl,kp3 _ _ M.wn.2.symm tca M3.tl,M.ne,?_,?_,fun i hi=> ?_,⟨_,(by rw[←hH6];exact upd_same),?_,fun i hi=> ?_⟩,M.wn,?_,fun i b e=> ?_,?_,⟨.tail _ (.tail _ o1),.tail _ (.tail _ o2),.tail _ (.tail _ o3),.tail _ (.tail _ o4),.tail _ (.tail _ o5)⟩,fun c hc=> ?_⟩
        · rw[List.map_append]
          exact kp6 _ _ wca (s5 _ _ hw4l)
        · rw[List.length_append,List.length_append,M.wlen]
          rfl
        · rcases split_snoc hi with hi|rfl
          · rw[getD_lt hi,place_lt_snoc hi,getD_lt (by rw[M.wlen];exact hi)]
            exact⟨.tail _ (.tail _ (M3.way i hi).1),kt3 _ _ (M3.way i hi).2⟩
          · rw[getD_eq,place_eq_snoc,←M.wlen,getD_eq]
            exact⟨.tail _ (.head _),kt3 _ _ hw3⟩
        · have:=length_putK kv (wayK t (lenR R t)) (.ref l2)
          rw[List.length_append];show _≤R.length+1;omega
        · rw [valV_put]
          rcases split_snoc hi with hi|rfl
          · rw[getD_lt hi,place_lt_snoc hi,getD_lt (by rw[M.ml];exact hi)]
            have hne:¬wayK (R.getD i (0,0)).1 (placeR R i)=wayK t (lenR R t):=fun z=>by
              injection z with z1 z2;injection z1 with z1;injection z2 with z2 _;injection z2 with z2;have hm:i∈idxF R t:=List.mem_filter.mpr ⟨List.mem_range.mpr hi,beq_iff_eq.mpr (by omega)⟩;have h1:=place_lt hr1 hm;omega
            rw[if_neg hne];exact c3 i hi
          · rw[getD_eq,place_eq_snoc,if_pos rfl,←M.ml,getD_eq]
        · rw[List.length_append,List.length_append,M.ml]
          rfl
        · by_cases hi:i<ms.length
          · rw[List.getElem?_append_left hi] at e
            obtain⟨e1,e2,e3,e4,vs,e5,e6⟩:=M3.mm i b e;refine⟨.tail _ (.tail _ e1),e2,e3,e4,vs,?_,kp3 _ _ e4 (ne_of e6 c1 (by intro z;cases z)) e6⟩;rw[List.getElem?_append_left (by rw[CS.cl,←M.ml];exact hi)];exact e5
          · have hb' :=(List.getElem?_eq_some_iff.mp e).1
            rw[List.length_append] at hb';have hi:i=ms.length:=by simp at hb';omega
            subst hi;rw[List.getElem?_append_right (Nat.le_refl _),Nat.sub_self] at e;cases e;refine⟨.head _,bh,bt,bw,List.replicate n .non,?_,hl26⟩;rw[List.getElem?_append_right (by rw[CS.cl,M.ml];exact Nat.le_refl _),CS.cl,M.ml,Nat.sub_self];rfl
        · refine List.nodup_append.mpr ⟨M.mn,List.nodup_cons.mpr ⟨by simp,.nil⟩,fun x hx y hy=> ?_⟩
          simp only[List.mem_singleton] at hy;subst hy;obtain⟨i,hi,rfl⟩:=List.mem_iff_getElem.mp hx;obtain⟨e1,e2,e3,e4,vs,e5,e6⟩:=M.mm i _ (List.getElem?_eq_getElem hi);exact ne_of_none e6 hl20
        · rcases List.mem_cons.mp hc with rfl|hc
          · exact⟨_,hl26⟩
          · rcases List.mem_cons.mp hc with rfl|hc
            · exact⟨_,kt3 _ _ hw3⟩
            · by_cases z1:c=m.ca
              · exact⟨_,by rw[←hH6];exact upd_some z1⟩
              · by_cases z2:c=m.wl
                · exact⟨_,by rw[z2];exact kp6 _ _ wca (s5 _ _ hw4l)⟩
                · exact(M3.al c hc).imp fun o e=>kp3 c o z2 z1 e
      refine⟨_,rfl,m.d,_,rfl,M6.getP,_,rfl,{m with own:=l2::wt::m.own},ps,ts,L,top,R++[(t,n)],ws++[wt],ms++[l2],cs++[List.replicate n .non],rfl,M6,fun i vs e=> ?_,?_,?_,fun H7 s7=> ?_⟩
      · by_cases hi:i<cs.length
        · rw[List.getElem?_append_left hi] at e
          rw[getD_lt (by rw[←CS.cl];exact hi)];exact CS.cz i vs e
        · have hb' :=(List.getElem?_eq_some_iff.mp e).1
          rw[List.length_append] at hb';have hi:i=cs.length:=by simp at hb';omega
          subst hi;rw[List.getElem?_append_right (Nat.le_refl _),Nat.sub_self] at e;cases e;rw[CS.cl,getD_eq];exact List.length_replicate
      · rw[List.length_append]
        show R.length+1≤1100;omega
      · intro r hr
        rcases List.mem_append.mp hr with hr|hr
        · exact⟨(hr6 r hr).2.1,(hr6 r hr).2.2⟩
        · simp only[List.mem_singleton] at hr
          subst hr;exact⟨n6,htl⟩
      have M7:=M6.same s7;have hd7:H7 m.d=some (.dK (kvM m.ha m.tk ⟨.int L,.int top,.ref m.wl,.ref m.ca⟩)):=M7.ob;refine⟨_,_,rfl,_,rfl,m.d,_,rfl,DPut.k (k:=kP) hd7 (by show 6<sizeLine;decide),?_⟩;have em:∀v,putK (kvM m.ha m.tk ⟨.int L,.int top,.ref m.wl,.ref m.ca⟩) kP v=kvM m.ha m.tk ⟨.int L,v,.ref m.wl,.ref m.ca⟩:=fun v=>by kernel_rfl
      rw[em];dsimp only
      have ev:V.int (if((usedW ts (R++[(t,n)]):Nat):Int)>(top:Int) then((usedW ts (R++[(t,n)]):Nat):Int) else(top:Int))=V.int ((max top (usedW ts (R++[(t,n)])):Nat):Int):=by
        congr 1
        split<;>omega
      rw[ev];generalize hH8:upd H7 m.d (.dK (kvM m.ha m.tk ⟨.int L,.int (max top (usedW ts (R++[(t,n)])):Nat),.ref m.wl,.ref m.ca⟩))=H8
      have kp8:∀c o,c≠m.d→H7 c=some o→H8 c=some o:=fun c o h1 e=>by
        rw[←hH8,upd_ne h1];exact e
      have hw7:H7 wt=some (.tup (wayL t (lenR R t))):=s7 _ _ (kt3 _ _ hw3);refine⟨_,rfl,k (l2::wt::m.own) wt l2 wt H8 ?_ (fun c hc=> .tail _ (.tail _ hc)) (fun c hc=> ?_) (fun c o hc e=>kp8 _ _ (fun z=>hc (z▸o1)) (s7 _ _ (kp _ _ (fun z=>hc (z▸o4)) (fun z=>hc (z▸o5)) e))) (kp8 _ _ (ne_of hw7 hd7 (by intro z;cases z)) hw7)⟩
      · obtain⟨ob,hl_,tl_,ne_,wl_,wlen_,way_,⟨kv7,d1,d2,d3⟩,wn_,ml_,mm_,mn_,o_,al_⟩:=M7
        refine⟨by rw[←hH8];exact upd_same,kp8 _ _ (ne_of hl_ hd7 (by intro z;cases z)) hl_,kp8 _ _ (ne_of tl_ hd7 (by intro z;cases z)) tl_,ne_,kp8 _ _ (ne_of wl_ hd7 (by intro z;cases z)) wl_,wlen_,fun i hi=>⟨(way_ i hi).1,kp8 _ _ (ne_of (way_ i hi).2 hd7 (by intro z;cases z)) (way_ i hi).2⟩,⟨kv7,kp8 _ _ (ne_of d1 hd7 (by intro z;cases z)) d1,d2,d3⟩,wn_,ml_,fun i b e=> ?_,mn_,o_,fun c hc=>(if z:c=m.d then⟨_,by rw[←hH8];exact upd_some z⟩ else(al_ c hc).imp fun o e=>kp8 c o z e)⟩;obtain⟨e1,e2,e3,e4,vs,e5,e6⟩:=mm_ i b e;exact⟨e1,e2,e3,e4,vs,e5,kp8 _ _ (ne_of e6 hd7 (by intro z;cases z)) e6⟩
      · rcases List.mem_cons.mp hc with rfl|hc
        · exact .inr hl20
        · rcases List.mem_cons.mp hc with rfl|hc
          · exact .inr hwt0
          · exact .inl hc
end
end My
namespace My
open PySem L2 PyProof.Rows
section
variable{C:Addr}{H:Hp}{a:HA}{m:MA}{ps ts:List (Option Nat)}{L pk:Nat}{R:Rm}{N:Nat}{rs ws ms:List Addr}{cs:List (List V)}
theorem idx_self{R:Rm}{i:Nat}(hi:i<R.length):i∈idxF R (R.getD i (0,0)).1:=List.mem_filter.mpr ⟨List.mem_range.mpr hi,beq_self_eq_true _⟩
theorem HouseAt.floor (h:HouseAt C H a ps ts L pk R N rs cs) (hr:∀r∈R,1≤r.2) {i:Nat} (hi:i<R.length):∃kv b,H a.fa=some (.dK kv)∧valV kv (.inl ((R.getD i (0,0)).1:Int))=some (.ref b)∧H b=some (.dK (floorK R rs (R.getD i (0,0)).1))∧valV (floorK R rs (R.getD i (0,0)).1) (.inl (placeR R i:Int))=some (.ref (rs.getD i 0)):=by
  obtain⟨kv,f1,f2,f3,f4⟩:=h.fl;rcases f3 (R.getD i (0,0)).1 with z|⟨b,e1,e2,e3,e4,e5⟩
  · have:=idx_self hi
    rw[z.2] at this;cases this
  · exact⟨kv,b,f1,e1,e5,floor_get hr rs (idx_self hi)⟩
theorem HouseAt.room (h:HouseAt C H a ps ts L pk R N rs cs) {i:Nat} (hi:i<R.length):rs[i]? =some (rs.getD i 0)∧rs.getD i 0∈a.own∧∃vs,cs[i]? =some vs∧H (rs.getD i 0)=some (.lst vs):=by
  have e:=get_getD 0 (show i<rs.length by rw[h.rl];exact hi);obtain⟨e1,e2,e3,vs,e4,e5⟩:=h.rm i _ e;exact⟨e,e1,vs,e4,e5⟩
end
section
variable{P:Program}{w:World}{K:PySem.W.Frag}{mg:Str→Option Value}{base:Heap}{A:Adr}
def spCountN:Sp:=fun vs H Q _=>∃n:Nat,vs=[nV n]∧Q (.bl true) H
theorem ok_is_count (T:Txt K mg A):FnOk P w K mg base CX0 2 A.a_is_count A.d_is_count ["thing"] spCountN:=by
  have G_is_number:FnOk P w K mg base CX0 1 A.a_is_number A.d_is_number ["thing"] spNumI:=ok_is_number T;refine T.F_is_count.ok sc_is_count (fun vs H Q E h=> ?_) (fun cdv Ar outer s H vs Q E hr h=> ?_)
  · obtain⟨n,rfl,_⟩:=h
    rfl
  · obtain⟨n,rfl,k⟩:=h
    refine⟨_,(pss_one (ps_ret (pe_and (pe_call G_is_number hr rfl T.m_is_number T.F_is_number.kp T.b_is_number .nil pass0 (pa_cons (pv 0) pa_nil)) (pe_one (pe_cmpR op_ge (pv 0) pe_int (nomark _)))))),?_⟩;refine⟨_,rfl,(n:Int),rfl,_,rfl,iteT ⟨_,rfl,(n:Int),0,rfl,rfl,?_⟩⟩;have e:decide ((0:Int)≤(n:Int))=true:=decide_eq_true (by omega);show Q (V.bl (decide ((0:Int)≤(n:Int)))) H;rw[e];exact k
def spPairW:Sp:=fun vs H Q _=>∃t f p,vs=[.ref t]∧H t=some (.tup (wayL f p))∧Q (.bl true) H
theorem ok_is_pair (T:Txt K mg A):FnOk P w K mg base CX0 3 A.a_is_pair A.d_is_pair ["thing"] spPairW:=by
  have G_is_count:FnOk P w K mg base CX0 2 A.a_is_count A.d_is_count ["thing"] spCountN:=ok_is_count T;refine T.F_is_pair.ok sc_is_pair (fun vs H Q E h=> ?_) (fun cdv Ar outer s H vs Q E hr h=> ?_)
  · obtain⟨t,f,p,rfl,_⟩:=h
    rfl
  · obtain⟨t,f,p,rfl,e,k⟩:=h
    refine⟨_,(pss_cons (ps_if (pt_not (pt_val (pe_callB call_isinst (by rfl) T.z_isinstance Boot.«isinstance» (pa_cons (pv 0) (pa_cons (pe_bltn (v:= .ty "tuple") rfl T.z_tuple Boot.«tuple» rfl) pa_nil))))) (pss_one (ps_ret pe_bl)) pss_nil) (pss_one (ps_ret (pe_and (pe_cmpR op_eq (pe_callB call_len_seq (by rfl) T.z_len Boot.«len» (pa_cons (pv 0) pa_nil)) pe_int (nomark _)) (pe_and (pe_call G_is_count hr rfl T.m_is_count T.F_is_count.kp T.b_is_count .nil pass0 (pa_cons (pe_ix ix_tup (pv 0) pe_int (fun _ _=>rfl)) pa_nil)) (pe_one (pe_call G_is_count hr rfl T.m_is_count T.F_is_count.kp T.b_is_count .nil pass0 (pa_cons (pe_ix ix_tup (pv 0) pe_int (fun _ _=>rfl)) pa_nil)))))))),?_⟩;refine⟨_,rfl,_,_,_,_,rfl,.tup e,rfl,_,rfl,?_⟩;refine⟨_,rfl,t,_,rfl,.inr (SqT.of e),rfl,_,rfl,?_⟩;refine iteT ⟨_,rfl,t,_,_,nV f,rfl,rfl,SqT.of e,rfl,f,rfl,_,rfl,?_⟩;exact iteT ⟨_,rfl,t,_,_,nV p,rfl,rfl,SqT.of e,rfl,p,rfl,k⟩
def spIsWay(C:Addr):Sp:=fun vs H Q _=>∃a ps ts L pk R N rs cs i t,vs=[.ref a.f,.ref t]∧HouseAt C H a ps ts L pk R N rs cs∧(∀r∈R,1≤r.2)∧i<R.length∧H t=some (.tup (wayL (R.getD i (0,0)).1 (placeR R i)))∧∀H',Same H H'→Q (.bl true) H'
theorem ok_House_is_way (T:Txt K mg A):FnOk P w K mg base CX0 4 A.a_House_is_way A.d_House_is_way ["self","thing"] (spIsWay A.a_House):=by
  have G_is_pair:FnOk P w K mg base CX0 3 A.a_is_pair A.d_is_pair ["thing"] spPairW:=ok_is_pair T;refine T.F_House_is_way.ok sc_House_is_way (fun vs H Q E h=> ?_) (fun cdv Ar outer s H vs Q E hr h=> ?_)
  · obtain⟨a,ps,ts,L,pk,R,N,rs,cs,i,t,rfl,_⟩:=h
    rfl
  · obtain⟨a,ps,ts,L,pk,R,N,rs,cs,i,t,rfl,F,hr1,hi,e,k⟩:=h
    have hu:=hu_of hr;obtain⟨dx,ho⟩:=F.ob;obtain⟨kv,b,f1,f2,f3,f4⟩:=F.floor hr1 hi;refine⟨_,(pss_one (ps_ret (pe_and (pe_call G_is_pair hr rfl T.m_is_pair T.F_is_pair.kp T.b_is_pair .nil pass0 (pa_cons (pv 1) pa_nil)) (pe_one (pe_cmp (pc_din hu (pe_ix ix_tup (pv 1) pe_int (fun _ _=>rfl)) (pe_dget2 hu (pe_fld (pv 0) rfl) (pe_ix ix_tup (pv 1) pe_int (fun _ _=>rfl)) pe_dnewK ⟨rfl,rfl,rfl,rfl⟩))))))),?_⟩;refine⟨_,rfl,t,_,_,rfl,e,_,rfl,iteT ⟨_,rfl,t,_,1,_,rfl,rfl,SqT.of e,rfl,_,rfl,a.f,A.a_House,dx,_,_,rfl,ho,T.K_House,T.n_House_floors,flds_f _ _ _,a.fa,rfl,.inl ⟨_,.inl f1⟩,_,rfl,t,_,0,_,rfl,rfl,SqT.of e,rfl,fun e0 he0=> ?_⟩⟩;have s1:=Same.upd (o:= .dK []) he0;refine⟨_,DGet.k (k:= .inl ((R.getD i (0,0)).1:Int)) (s1 _ _ f1),?_⟩;rw[f2];refine⟨b,_,rfl,DGet.k (k:= .inl (placeR R i:Int)) (s1 _ _ f3),?_⟩;rw[f4];exact k _ s1
def spWantRoom(C:Addr):Sp:=fun vs H Q _=>∃a ps ts L pk R N rs cs i t,vs=[.ref a.f,.ref t]∧HouseAt C H a ps ts L pk R N rs cs∧(∀r∈R,1≤r.2)∧ps.length=ts.length∧i<R.length∧ts[(R.getD i (0,0)).1]? =some none∧H t=some (.tup (wayL (R.getD i (0,0)).1 (placeR R i)))∧∀H',Same H H'→Q (.ref (rs.getD i 0)) H'
theorem ok_House_want_room (T:Txt K mg A):FnOk P w K mg base CX0 6 A.a_House_want_room A.d_House_want_room ["self","thing"] (spWantRoom A.a_House):=by
  have G_House_is_way:FnOk P w K mg base CX0 5 A.a_House_is_way A.d_House_is_way ["self","thing"] (spIsWay A.a_House):=(ok_House_is_way T).mono (by decide);have G_Frames_ended_by:FnOk P w K mg base CX0 5 A.a_Frames_ended_by A.d_Frames_ended_by ["self","frame"] (spBy A.a_House):=ok_Frames_ended_by T;refine T.F_House_want_room.ok sc_House_want_room (fun vs H Q E h=> ?_) (fun cdv Ar outer s H vs Q E hr h=> ?_)
  · obtain⟨a,ps,ts,L,pk,R,N,rs,cs,i,t,rfl,_⟩:=h
    rfl
  · obtain⟨a,ps,ts,L,pk,R,N,rs,cs,i,t,rfl,F,hr1,hl,hi,hst,e,k⟩:=h
    have hu:=hu_of hr;obtain⟨dx,ho⟩:=F.ob;refine⟨_,(pss_cons (ps_if (pt_not (pt_val (pe_meth (pv 0) T.K_House T.t_House_is_way G_House_is_way hr T.b_House_is_way .nil pass0 (pa_cons (pv 1) pa_nil)))) (pss_one ps_never) pss_nil) (pss_cons (ps_set (i:=2) sc_House_want_room.nd rfl (Or.inl rfl) (pe_meth (pv 0) T.K_House T.t_Frames_ended_by G_Frames_ended_by hr T.b_Frames_ended_by .nil pass0 (pa_cons (pe_ix ix_tup (pv 1) pe_int (fun _ _=>rfl)) pa_nil))) (pss_cons (ps_if (pt_cmpR op_notN (pv 2) pe_non (nomark _)) (pss_one ps_never) pss_nil) (pss_one (ps_ret (pe_dget hu (pe_dget hu (pe_fld (pv 0) rfl) (pe_ix ix_tup (pv 1) pe_int (fun _ _=>rfl)) (fun _ _=>rfl)) (pe_ix ix_tup (pv 1) pe_int (fun _ _=>rfl)) (fun _ _=>rfl))))))),?_⟩;refine⟨_,rfl,a.f,dx,_,rfl,ho,flds_no (by decide+kernel),_,rfl,a,ps,ts,L,pk,R,N,rs,cs,i,t,rfl,F,hr1,hi,e,fun H1 s1=>⟨_,rfl,?_⟩⟩;have F1:=F.same s1;have e1:=s1 _ _ e;obtain⟨dx1,ho1⟩:=F1.ob;obtain⟨kv,b,f1,f2,f3,f4⟩:=F1.floor hr1 hi;refine⟨_,rfl,a.f,dx1,_,rfl,ho1,flds_no (by decide+kernel),_,rfl,t,_,0,_,rfl,rfl,SqT.of e1,rfl,a.f,a.pa,a.ta,ps,ts,(R.getD i (0,0)).1,none,rfl,F1.fr,hl,hst,?_⟩;refine⟨_,rfl,rfl,_,rfl,?_⟩;refine⟨_,rfl,a.f,A.a_House,dx1,_,_,rfl,ho1,T.K_House,T.n_House_floors,flds_f _ _ _,_,rfl,t,_,0,_,rfl,rfl,SqT.of e1,rfl,a.fa,.ref b,rfl,?_,_,rfl,t,_,1,_,rfl,rfl,SqT.of e1,rfl,b,.ref (rs.getD i 0),rfl,?_,k H1 s1⟩
    · have:=DGet.k (k:= .inl ((R.getD i (0,0)).1:Int)) f1
      rw[f2] at this;exact this
    · have:=DGet.k (k:= .inl (placeR R i:Int)) f3
      rw[f4] at this;exact this
end
end My
namespace My
open PySem L2 PyProof.Rows
section
variable{P:Program}{w:World}{K:PySem.W.Frag}{mg:Str→Option Value}{base:Heap}{A:Adr}
structure WayAt (H:Hp) (ts:List (Option Nat)) (R:Rm) (i:Nat) (t:Addr):Prop where
  hi:i<R.length
  st:ts[(R.getD i (0,0)).1]? =some none
  e:H t=some (.tup (wayL (R.getD i (0,0)).1 (placeR R i)))
theorem WayAt.same{H H' :Hp}{ts:List (Option Nat)}{R:Rm}{i:Nat}{t:Addr}(w:WayAt H ts R i t)(s:Same H H'):WayAt H' ts R i t:=⟨w.hi,w.st,s _ _ w.e⟩
def spSize(C:Addr):Sp:=fun vs H Q _=>∃a ps ts L pk R N rs cs i t xs,vs=[.ref a.f,.ref t]∧HouseAt C H a ps ts L pk R N rs cs∧(∀r∈R,1≤r.2)∧ps.length=ts.length∧WayAt H ts R i t∧cs[i]? =some xs∧∀H',Same H H'→Q (.int xs.length) H'
theorem ok_House_size (T:Txt K mg A):FnOk P w K mg base CX0 7 A.a_House_size A.d_House_size ["self","way"] (spSize A.a_House):=by
  have G_House_want_room:FnOk P w K mg base CX0 6 A.a_House_want_room A.d_House_want_room ["self","thing"] (spWantRoom A.a_House):=ok_House_want_room T;refine T.F_House_size.ok sc_House_size (fun vs H Q E h=> ?_) (fun cdv Ar outer s H vs Q E hr h=> ?_)
  · obtain⟨a,ps,ts,L,pk,R,N,rs,cs,i,t,xs,rfl,_⟩:=h
    rfl
  · obtain⟨a,ps,ts,L,pk,R,N,rs,cs,i,t,xs,rfl,F,hr1,hl,wa,hc,q⟩:=h
    obtain⟨dx,ho⟩:=F.ob;refine⟨_,(pss_one (ps_ret (pe_callB call_len_seq (by rfl) T.z_len Boot.«len» (pa_cons (pe_meth (pv 0) T.K_House T.t_House_want_room G_House_want_room hr T.b_House_want_room .nil pass0 (pa_cons (pv 1) pa_nil)) pa_nil)))),?_⟩;refine⟨_,rfl,a.f,dx,_,rfl,ho,flds_no (by decide+kernel),_,rfl,a,ps,ts,L,pk,R,N,rs,cs,i,t,rfl,F,hr1,hl,wa.hi,wa.st,wa.e,fun H1 s1=> ?_⟩;obtain⟨r1,r2,ys,r3,r4⟩:=(F.same s1).room wa.hi;rw[hc] at r3;cases r3;exact⟨rs.getD i 0,_,rfl,.inl (SqL.of r4),q H1 s1⟩
end
end My
namespace My
open PySem L2 PyProof.Rows
theorem WF.begun {ps ts:List (Option Nat)} (W:WF ps ts) {t:Nat} (ht:t<ps.length) (hle:ps.length≤100):WF (ps++[some t]) (ts++[none]):=by
  have hl:=W.len;refine⟨by simp[hl],by simp,by simp;omega,?_,fun i h0 hi=> ?_,fun i j e=> ?_⟩
  · rw[List.getElem?_append_left W.pos]
    exact W.root
  · by_cases hi2:i<ps.length
    · rw[List.getElem?_append_left hi2]
      exact W.par i h0 hi2
    · have e:i=ps.length:=by simp at hi;omega
      subst e;exact⟨t,by simp,ht⟩
  · rw[List.length_append]
    by_cases hi2:i<ts.length
    · rw[List.getElem?_append_left hi2] at e
      have:=W.tk i j e;omega
    · rw[List.getElem?_append_right (by omega)] at e
      cases q:i - ts.length with
      |zero=>rw[q] at e;cases e
      |succ m=>rw[q] at e;simp at e
theorem setM_get (t:Nat):∀(E:List Nat) (ts:List (Option Nat)) (i:Nat),(setM t E ts)[i]? =ts[i]?∨(i∈E∧(setM t E ts)[i]? =some (some t))
  |[],ts,i=> .inl rfl
  | n :: r,ts,i=>by
    rcases setM_get t r (ts.set n (some t)) i with h|⟨h1,h2⟩
    · by_cases e:n=i
      · subst e
        by_cases hn:n<ts.length
        · exact .inr ⟨List.mem_cons_self,by show(setM t r (ts.set n (some t)))[n]? =_;rw[h,List.getElem?_set_self hn]⟩
        · refine .inl ?_
          show(setM t r (ts.set n (some t)))[n]? =_;rw[h,List.getElem?_eq_none (by rw[List.length_set];omega),List.getElem?_eq_none (by omega)]
      · refine .inl ?_
        show(setM t r (ts.set n (some t)))[i]? =_;rw[h,List.getElem?_set_ne e]
    · exact .inr ⟨List.mem_cons_of_mem _ h1,h2⟩
theorem WF.ended {ps ts:List (Option Nat)} (W:WF ps ts) {t:Nat} (ht:t<ps.length) (E:List Nat):WF ps (setM t E ts):=by
  refine⟨by rw[setM_len];exact W.len,W.pos,W.le,W.root,W.par,fun i j e=> ?_⟩;rcases setM_get t E ts i with h|⟨_,h⟩
  · rw[h] at e
    exact W.tk i j e
  · rw[h] at e
    cases e;exact ht
theorem fin_zero {ps ts:List (Option Nat)} (W:WF ps ts) {t:Nat} (h:t≠0):¬0∈finM ps ts t:=fun hm=>by
  have h1:=(List.mem_filter.mp hm).2;have h1:=of_decide_eq_true h1
  have e:rowM ps 0=[0]:=by
    show(upF ps 0 0).reverse=[0];rfl
  rw[e] at h1;simp at h1;exact h h1
structure Fits (B k:Nat) (d:PyData):Prop where
  sh:d.showable=true
  dp:d.depth≤k
  ln:d.shown.length≤B
theorem Fits.mono{B B' k k' :Nat}{d:PyData}(g:Fits B k d)(h:B≤B')(h' :k≤k'):Fits B' k' d:=⟨g.sh,Nat.le_trans g.dp h',Nat.le_trans g.ln h⟩
theorem fits_all {B k:Nat}:∀{ds:List PyData},(∀d∈ds,Fits B k d)→PyData.showableAll ds=true∧PyData.depthAll ds≤k∧((PyData.shownAll ds).map (·.length)).sum≤B*ds.length∧(PyData.shownAll ds).length=ds.length
  |[],_=>by simp[PyData.showableAll,PyData.depthAll,PyData.shownAll]
  | d ::r,h=>by
    obtain⟨h1,h2,h3,h4⟩:=fits_all (ds:=r) fun x hx=>h x (List.mem_cons_of_mem _ hx);have g:=h d List.mem_cons_self;have gl:=g.ln;refine⟨?_,?_,?_,?_⟩
    · simp only[PyData.showableAll,g.sh,h1,Bool.and_self]
    · simp only[PyData.depthAll]
      exact Nat.max_le.mpr ⟨g.dp,h2⟩
    · simp only[PyData.shownAll,List.map_cons,List.sum_cons,List.length_cons,Nat.mul_add,Nat.mul_one]
      omega
    · simp only[PyData.shownAll,List.length_cons,h4]
theorem Fits.list {B k:Nat} {ds:List PyData} (h:∀d∈ds,Fits B k d):Fits (B*ds.length+2*ds.length+3) (k+1) (.list ds):=by
  obtain⟨h1,h2,h3,h4⟩:=fits_all h;refine⟨?_,?_,?_⟩
  · simp only[PyData.showable,h1]
  · simp only[PyData.depth]
    omega
  · simp only[PyData.shown]
    have:=listText_len_le (PyData.shownAll ds);rw[h4] at this;omega
theorem fits_int {n:Nat} (h:n≤1000):Fits 5 1 (.int n):=by
  refine⟨?_,?_,?_⟩
  · simp only[PyData.showable]
    exact decide_eq_true (log_small h)
  · simp[PyData.depth]
  · simp only[PyData.shown]
    rw[PySem.ofString_length];exact PySem.int_text_length_le10 (k:=4) (by decide) (by rw[Int.natAbs_natCast];omega)
theorem Fits.tup {B k:Nat} {ds:List PyData} (h:∀d∈ds,Fits B k d):Fits (B*ds.length+2*ds.length+3) (k+1) (.tuple ds):=by
  obtain⟨h1,h2,h3,h4⟩:=fits_all h;refine⟨?_,?_,?_⟩
  · simp only[PyData.showable,h1]
  · simp only[PyData.depth]
    omega
  · simp only[PyData.shown]
    have:=tupleText_len_le (PyData.shownAll ds);rw[h4] at this;omega
theorem Fits.rep{B k:Nat}{d:PyData}(g:Fits B k d)(hB:B≤100000)(hk:k≤90):d.showable=true∧d.depth≤90∧d.shown.length≤sizeLine:=⟨g.sh,Nat.le_trans g.dp hk,Nat.le_trans g.ln (Nat.le_of_lt (len_line hB))⟩
theorem fits_two {n p:Nat} (h1:n≤1000) (h2:p≤1000):Fits 100 3 (.tuple [.int n,.int p]):=by
  refine(Fits.tup (B:=5) (k:=1) fun d hd=> ?_).mono (by show 5*2+2*2+3≤100;decide) (by decide);simp only[List.mem_cons,List.not_mem_nil,or_false] at hd;rcases hd with rfl|rfl
  · exact fits_int h1
  · exact fits_int h2
theorem le_sum {x:Nat}:∀{l:List Nat},x∈l→x≤l.sum
  | a ::l,h=>by
    rw[List.sum_cons];rcases List.mem_cons.mp h with rfl|h
    · omega
    · have:=le_sum h
      omega
theorem lenR_used {ts:List (Option Nat)} (R:Rm) {t:Nat} (h:ts[t]? =some none):lenR R t≤usedW ts R:=by
  rw[←used_eq];exact le_sum (List.mem_map_of_mem (stand_mem.mpr (by rw[h];rfl)))
structure Two (C:Addr) (H:Hp) (a:HA) (m:MA) (ps ts:List (Option Nat)) (L pk:Nat) (R:Rm) (N:Nat) (rs ws ms:List Addr) (cs:List (List V)):Prop where
  h:HouseAt C H a ps ts L pk R N rs cs
  mo:ModelAt H m ps ts L pk R ws ms cs
  G:Good ps ts L pk R
  ok:CsOk R ws cs
  ap:∀c∈a.own,¬c∈m.own
section
variable{C:Addr}{H H' H4 H5 H6:Hp}{a:HA}{m:MA}{ps ts:List (Option Nat)}{L pk:Nat}{R:Rm}{N:Nat}{rs ws ms:List Addr}{cs:List (List V)}{t:Nat}
theorem Two.same(t:Two C H a m ps ts L pk R N rs ws ms cs)(s:Same H H'):Two C H' a m ps ts L pk R N rs ws ms cs:=⟨t.h.same s,t.mo.same s,t.G,t.ok,t.ap⟩
theorem Two.kept(t:Two C H a m ps ts L pk R N rs ws ms cs)(k:∀c o,c∈a.own∨c∈m.own→H c=some o→H' c=some o):Two C H' a m ps ts L pk R N rs ws ms cs:=⟨t.h.kept fun c o hc e=>k c o (.inl hc) e,t.mo.kept fun c o hc e=>k c o (.inr hc) e,t.G,t.ok,t.ap⟩
theorem Two.r1(t:Two C H a m ps ts L pk R N rs ws ms cs):∀r∈R,1≤r.2:=fun r hr=>(t.G.rw r hr).1
theorem Two.rt (t:Two C H a m ps ts L pk R N rs ws ms cs):∀r∈R,r.1<ts.length:=fun r hr=>by
  have:=(t.G.rw r hr).2.2;have:=t.G.W.len;omega
theorem CsOk.snoc {t n:Nat} {wt:Addr} (c:CsOk R ws cs) (hw:ws.length=R.length):CsOk (R++[(t,n)]) (ws++[wt]) (cs++[List.replicate n .non]):=by
  have up:∀{v:V},VOk ws R.length v→VOk (ws++[wt]) (R++[(t,n)]).length v:=fun h=>by
    rcases h with h|h|⟨i,hi,h⟩
    · exact .inl h
    · exact .inr (.inl h)
    · exact .inr (.inr ⟨i,by rw[List.length_append];omega,by rw[getD_lt (by omega)];exact h⟩)
  refine⟨by rw[List.length_append,List.length_append,c.cl];rfl,fun j vs e=> ?_,fun j vs e u hu=> ?_⟩
  · by_cases hj:j<cs.length
    · rw[List.getElem?_append_left hj] at e
      rw[getD_lt (by rw[←c.cl];exact hj)];exact c.cz j vs e
    · have hb' :=(List.getElem?_eq_some_iff.mp e).1
      rw[List.length_append] at hb';have hj:j=cs.length:=by simp at hb';omega
      subst hj;rw[List.getElem?_append_right (Nat.le_refl _),Nat.sub_self] at e;cases e;rw[c.cl,getD_eq];exact List.length_replicate
  · by_cases hj:j<cs.length
    · rw[List.getElem?_append_left hj] at e
      exact up (c.vo j vs e u hu)
    · have hb' :=(List.getElem?_eq_some_iff.mp e).1
      rw[List.length_append] at hb';have hj:j=cs.length:=by simp at hb';omega
      subst hj;rw[List.getElem?_append_right (Nat.le_refl _),Nat.sub_self] at e;cases e;exact .inl (List.eq_of_mem_replicate hu)
theorem Two.finish (Z:Two C H4 a m ps ts L pk R N rs ws ms cs) (h0:t≠0) (ht:t<ps.length) (F5:FrAt C H5 a.f a.pa a.ta ps (setM t (finM ps ts t) ts)) (K5:Kept2 a.pa a.ta H4 H5)
    (M6:ModAt H6 m.d m.ha m.tk ps (setM t (finM ps ts t) ts)) (K6:Kept2 m.ha m.tk H5 H6):Two C H6 a m ps (setM t (finM ps ts t) ts) L pk R N rs ws ms cs∧∀c o,¬c∈a.own→¬c∈m.own→H4 c=some o→H6 c=some o:=by
  obtain⟨o1,o2,o3,o4,o5⟩:=Z.h.own5;obtain⟨q1,q2,q3,q4,q5⟩:=Z.mo.own5;have h5:=Z.h.frames F5 K5;have m5:ModelAt H5 m ps ts L pk R ws ms cs:=Z.mo.kept fun c o hc e=>K5 c o (fun z=>Z.ap _ o2 (z▸hc)) (fun z=>Z.ap _ o3 (z▸hc)) e;have h6:HouseAt C H6 a ps (setM t (finM ps ts t) ts) L pk R N rs cs:=h5.kept fun c o hc e=>K6 c o (fun z=>Z.ap c hc (z▸q2)) (fun z=>Z.ap c hc (z▸q3)) e;refine⟨⟨h6,m5.frames M6 K6,⟨Z.G.W.ended ht (finM ps ts t),?_,Z.G.rw,Z.G.lo,Z.G.hi,Nat.le_trans (usedW_finish _ _ _ _) Z.G.use,Z.G.pk⟩,Z.ok,Z.ap⟩,fun c o h1 h2 e=>K6 c o (fun z=>h2 (z▸q2)) (fun z=>h2 (z▸q3)) (K5 c o (fun z=>h1 (z▸o2)) (fun z=>h1 (z▸o3)) e)⟩;rcases setM_get t (finM ps ts t) ts 0 with h|⟨h,_⟩
  · rw[h]
    exact Z.G.g
  · exact absurd h (fin_zero Z.G.W h0)
theorem Two.begin (Z:Two C H4 a m ps ts L pk R N rs ws ms cs) (ht:t<ps.length) (h100:ps.length≤100) (F5:FrAt C H5 a.f a.pa a.ta (ps++[some t]) (ts++[none])) (K5:Kept2 a.pa a.ta H4 H5)
    (M6:ModAt H6 m.d m.ha m.tk (ps++[some t]) (ts++[none])) (K6:Kept2 m.ha m.tk H5 H6):Two C H6 a m (ps++[some t]) (ts++[none]) L pk R N rs ws ms cs∧∀c o,¬c∈a.own→¬c∈m.own→H4 c=some o→H6 c=some o:=by
  obtain⟨o1,o2,o3,o4,o5⟩:=Z.h.own5;obtain⟨q1,q2,q3,q4,q5⟩:=Z.mo.own5;have h5:=Z.h.frames F5 K5;have m5:ModelAt H5 m ps ts L pk R ws ms cs:=Z.mo.kept fun c o hc e=>K5 c o (fun z=>Z.ap _ o2 (z▸hc)) (fun z=>Z.ap _ o3 (z▸hc)) e;have h6:HouseAt C H6 a (ps++[some t]) (ts++[none]) L pk R N rs cs:=h5.kept fun c o hc e=>K6 c o (fun z=>Z.ap c hc (z▸q2)) (fun z=>Z.ap c hc (z▸q3)) e;have hW:=Z.G.W.len;have hpos:=Z.G.W.pos;refine⟨⟨h6,m5.frames M6 K6,⟨Z.G.W.begun ht h100,?_,fun r hr=> ?_,Z.G.lo,Z.G.hi,?_,Z.G.pk⟩,Z.ok,Z.ap⟩,fun c o h1 h2 e=>K6 c o (fun z=>h2 (z▸q2)) (fun z=>h2 (z▸q3)) (K5 c o (fun z=>h1 (z▸o2)) (fun z=>h1 (z▸o3)) e)⟩
  · rw[List.getElem?_append_left (by omega)]
    exact Z.G.g
  · obtain⟨r1,r2,r3⟩:=Z.G.rw r hr
    refine⟨r1,r2,?_⟩;rw[List.length_append];omega
  · rw[usedW_begin ts fun r hr=>by have:=(Z.G.rw r hr).2.2;omega]
    exact Z.G.use
end
end My
namespace My
open PySem L2 PyProof.Rows
theorem _root_.L2.FnOk.toX {P:Program} {w:World} {K:PySem.W.Frag} {mg:Str→Option Value} {base:Heap} {k:Nat} {f:Addr} {fd:FuncData} {ps:List Str} {sp:Sp} (F:FnOk P w K mg base CX0 k f fd ps sp):FnOk P w K mg base (CX1 P w) k f fd ps sp:=
  ⟨F.len,fun A outer s H args us vs Q E hr he hb hv hs=>codeAny_mono (F.run A outer s H args us vs Q E hr he hb hv hs) fun r s' h=>by
    cases r with
    |error e=>exact False.elim h
    |ok fl=>cases fl<;>exact h⟩
def spOr(a b:Sp):Sp:=fun vs H Q E=>a vs H Q E∨b vs H Q E
theorem _root_.L2.FnOk.or {P:Program} {w:World} {K:PySem.W.Frag} {mg:Str→Option Value} {base:Heap} {CX:CXT} {k:Nat} {f:Addr} {fd:FuncData} {ps:List Str} {a b:Sp} (F:FnOk P w K mg base CX k f fd ps a) (G:FnOk P w K mg base CX k f fd ps b):FnOk P w K mg base CX k f fd ps (spOr a b):=
  ⟨fun vs H Q E h=>h.elim (F.len vs H Q E) (G.len vs H Q E),fun A outer s H args us vs Q E hr he hb hv hs=>hs.elim (F.run A outer s H args us vs Q E hr he hb hv) (G.run A outer s H args us vs Q E hr he hb hv)⟩
section
variable{P:Program}{w:World}{K:PySem.W.Frag}{mg:Str→Option Value}{base:Heap}{A:Adr}
def spRI(K:PySem.W.Frag):Sp:=fun vs H Q _=>∃a C dd n x,vs=[.ref a,x]∧H a=some (.ext (excP a C dd n))∧ExcC K C∧Q .non H
theorem ok_RoomError___init__ (T:Txt K mg A):FnOk P w K mg base CX0 1 A.a_RoomError___init__ A.d_RoomError___init__ ["self","text"] (spRI K):=by
  refine T.F_RoomError___init__.ok sc_RoomError___init__ (fun vs H Q E h=> ?_) (fun cdv Ar outer s H vs Q E hr h=> ?_)
  · obtain⟨a,C,dd,n,x,rfl,_⟩:=h
    rfl
  · obtain⟨a,C,dd,n,x,rfl,ea,hc,k⟩:=h
    refine⟨_,(pss_one (ps_expr (pe_vinit rfl T.z_ValueError (pa_cons (pv 0) (pa_cons (pv 1) pa_nil))))),?_⟩;exact⟨_,rfl,_,rfl,a,C,dd,n,x,rfl,ea,hc,k⟩
def spX2(C:Addr)(f g:Str):Sp:=fun vs H Q _=>∃a x y,vs=[.ref a,x,y]∧H a=some (.ext (excP a C none true))∧∀dx,H dx=none→dx≠a→Q .non (upd (upd (upd H a (.ext (excP a C (some dx) true))) dx (.xd [(f,x)])) dx (.xd (putF g y [(f,x)])))
theorem ok_Gone___init__ (T:Txt K mg A):FnOk P w K mg base CX0 2 A.a_Gone___init__ A.d_Gone___init__ ["self","found","by"] (spX2 A.a_Gone "found" "by"):=by
  have G_RoomError___init__:FnOk P w K mg base CX0 1 A.a_RoomError___init__ A.d_RoomError___init__ ["self","text"] (spRI K):=ok_RoomError___init__ T;refine T.F_Gone___init__.ok sc_Gone___init__ (fun vs H Q E h=> ?_) (fun cdv Ar outer s H vs Q E hr h=> ?_)
  · obtain⟨a,x,y,rfl,_⟩:=h
    rfl
  · obtain⟨a,x,y,rfl,ea,k⟩:=h
    refine⟨_,(pss_cons (ps_expr (pe_ccall T.c_RoomError___init__ rfl T.m_RoomError G_RoomError___init__ hr T.b_RoomError___init__ .nil pass0 (pa_cons (pv 0) (pa_cons pe_str pa_nil)))) (pss_cons (ps_fldX (pv 0) (pv 1) rfl) (pss_one (ps_fldX (pv 0) (pv 2) rfl)))),?_⟩;refine⟨_,rfl,a,A.a_Gone,none,true,_,rfl,ea,T.X_Gone.toExcC,?_⟩;refine⟨_,rfl,_,rfl,a,A.a_Gone,true,rfl,T.e_Gone,T.n_Gone_found,.inl ⟨ea,fun dx hn ne=> ?_⟩⟩;exact⟨_,rfl,_,rfl,a,A.a_Gone,true,rfl,T.e_Gone,T.n_Gone_by,.inr ⟨dx,_,(by rw[upd_ne ne.symm,upd_same]),upd_same,ne,(show 1≤900 by decide),k dx hn ne⟩⟩
end
theorem raise2 {K:PySem.W.Frag} {C:Addr} {f g:Str} {k:Ends} {σ:L2.St} {v y:V} {H:Hp} {E:XK} {t:TA} (hc:ExcC K C) (ht:∀Q:List V→Hp→Prop,Q [v,y] H→t σ H Q)
    (r:∀dx H2,Same H H2→H2 dx=some (.xd (putF g y [(f,v)]))→E (.ref C) (some dx) H2):sRaise K E (tMakeX C (spX2 C f g) E0 t) k σ H:=by
  refine ht _ fun x hx=>⟨x,v,y,rfl,upd_same,fun dx hdx ne=>⟨rfl,x,C,some dx,rfl,(by rw[upd_ne (fun z=>ne z.symm),upd_ne (fun z=>ne z.symm),upd_same]),hc,r dx _ (fun c o e=> ?_) ?_⟩⟩
  · have hd:H dx=none:=by rw[upd_ne ne] at hdx;exact hdx
    rw[upd_ne (ne_of_none e hx),upd_ne (ne_of_none e hd),upd_ne (ne_of_none e hd),upd_ne (ne_of_none e hx),upd_ne (ne_of_none e hx)];exact e
  · rw[upd_ne ne,upd_same]
structure GoneAt (H:Hp) (ts:List (Option Nat)) (R:Rm) (i j:Nat) (t:Addr):Prop where
  hi:i<R.length
  st:ts[(R.getD i (0,0)).1]? =some (some j)
  e:H t=some (.tup (wayL (R.getD i (0,0)).1 (placeR R i)))
theorem GoneAt.same{H H' :Hp}{ts:List (Option Nat)}{R:Rm}{i j:Nat}{t:Addr}(w:GoneAt H ts R i j t)(s:Same H H'):GoneAt H' ts R i j t:=⟨w.hi,w.st,s _ _ w.e⟩
def GoneE(A:Adr)(H:Hp)(t:Addr)(j:Nat)(E:XK):Prop:=∀dx H2,Same H H2→H2 dx=some (.xd (putF "by" (.int j) [("found",.ref t)]))→E (.ref A.a_Gone) (some dx) H2
section
variable{P:Program}{w:World}{K:PySem.W.Frag}{mg:Str→Option Value}{base:Heap}{A:Adr}
def spGoneX(A:Adr)(n:Nat):Sp:=fun vs H _ E=>∃a ps ts L pk R N rs cs i j t,∃xs:List V,vs= .ref a.f:: .ref t::xs∧xs.length=n∧HouseAt A.a_House H a ps ts L pk R N rs cs∧(∀r∈R,1≤r.2)∧ps.length=ts.length∧GoneAt H ts R i j t∧GoneE A H t j E
theorem ok_House_want_roomX (T:Txt K mg A):FnOk P w K mg base (CX1 P w) 6 A.a_House_want_room A.d_House_want_room ["self","thing"] (spGoneX A 0):=by
  have G_House_is_way:FnOk P w K mg base CX0 5 A.a_House_is_way A.d_House_is_way ["self","thing"] (spIsWay A.a_House):=(ok_House_is_way T).mono (by decide);have G_Frames_ended_by:FnOk P w K mg base CX0 5 A.a_Frames_ended_by A.d_Frames_ended_by ["self","frame"] (spBy A.a_House):=ok_Frames_ended_by T;have G_Gone___init__:FnOk P w K mg base CX0 4 A.a_Gone___init__ A.d_Gone___init__ ["self","found","by"] (spX2 A.a_Gone "found" "by"):=(ok_Gone___init__ T).mono (by decide);refine T.F_House_want_room.okX sc_House_want_room (fun vs H Q E h=> ?_) (fun cdv Ar outer s H vs Q E hr h=> ?_)
  · obtain⟨a,ps,ts,L,pk,R,N,rs,cs,i,j,t,xs,rfl,hx,_⟩:=h
    rw[List.length_cons,List.length_cons,hx];rfl
  · obtain⟨a,ps,ts,L,pk,R,N,rs,cs,i,j,t,xs,rfl,hx,F,hr1,hl,ga,r⟩:=h
    obtain rfl:=List.length_eq_zero_iff.mp hx;have hu:=hu_of hr;obtain⟨dx,ho⟩:=F.ob;refine⟨_,(pss_cons (ps_if (pt_not (pt_val (pe_meth (pv 0) T.K_House T.t_House_is_way G_House_is_way hr T.b_House_is_way .nil pass0 (pa_cons (pv 1) pa_nil)))) (pss_one ps_never) pss_nil) (pss_cons (ps_set (i:=2) sc_House_want_room.nd rfl (Or.inl rfl) (pe_meth (pv 0) T.K_House T.t_Frames_ended_by G_Frames_ended_by hr T.b_Frames_ended_by .nil pass0 (pa_cons (pe_ix ix_tup (pv 1) pe_int (fun _ _=>rfl)) pa_nil))) (pss_cons (ps_if (pt_cmpR op_notN (pv 2) pe_non (nomark _)) (pss_one (ps_raise rfl wants_def (pe_makeX T.X_Gone G_Gone___init__ hr rfl T.m_Gone T.b_Gone___init__ pass0 (pa_cons (pv 1) (pa_cons (pv 2) pa_nil)) (fun _ _ _ _ h=>by rw[G_Gone___init__.len _ _ _ _ h];decide)))) pss_nil) (pss_one (ps_ret (pe_dget hu (pe_dget hu (pe_fld (pv 0) rfl) (pe_ix ix_tup (pv 1) pe_int (fun _ _=>rfl)) (fun _ _=>rfl)) (pe_ix ix_tup (pv 1) pe_int (fun _ _=>rfl)) (fun _ _=>rfl))))))),?_⟩;refine⟨_,rfl,a.f,dx,_,rfl,ho,flds_no (by decide+kernel),_,rfl,a,ps,ts,L,pk,R,N,rs,cs,i,t,rfl,F,hr1,ga.hi,ga.e,fun H1 s1=>⟨_,rfl,?_⟩⟩;have F1:=F.same s1;have e1:=s1 _ _ ga.e;obtain⟨dx1,ho1⟩:=F1.ob;refine⟨_,rfl,a.f,dx1,_,rfl,ho1,flds_no (by decide+kernel),_,rfl,t,_,0,_,rfl,rfl,SqT.of e1,rfl,a.f,a.pa,a.ta,ps,ts,(R.getD i (0,0)).1,some j,rfl,F1.fr,hl,ga.st,?_⟩;refine⟨_,rfl,rfl,_,rfl,?_⟩;exact raise2 (K:=K) (f:="found") (g:="by") (k:={nx:=fun _ H' =>Q .non H',rt:=Q}) T.X_Gone.toExcC (fun Q' q=>⟨_,rfl,_,rfl,q⟩) fun dx' H2 s2 e2=>r dx' H2 (s1.trans s2) e2
theorem ok_House_sizeX (T:Txt K mg A):FnOk P w K mg base (CX1 P w) 7 A.a_House_size A.d_House_size ["self","way"] (spGoneX A 0):=by
  have G_House_want_room:FnOk P w K mg base (CX1 P w) 6 A.a_House_want_room A.d_House_want_room ["self","thing"] (spGoneX A 0):=ok_House_want_roomX T;refine T.F_House_size.okX sc_House_size (fun vs H Q E h=> ?_) (fun cdv Ar outer s H vs Q E hr h=> ?_)
  · obtain⟨a,ps,ts,L,pk,R,N,rs,cs,i,j,t,xs,rfl,hx,_⟩:=h
    rw[List.length_cons,List.length_cons,hx];rfl
  · obtain⟨a,ps,ts,L,pk,R,N,rs,cs,i,j,t,xs,rfl,hx,F,hr1,hl,ga,r⟩:=h
    obtain rfl:=List.length_eq_zero_iff.mp hx;obtain⟨dx,ho⟩:=F.ob;exact⟨_,(pss_one (ps_ret (pe_callB call_len_seq (by rfl) T.z_len Boot.«len» (pa_cons (pe_meth (pv 0) T.K_House T.t_House_want_room G_House_want_room hr T.b_House_want_room .nil (passes_of wants_def trivial) (pa_cons (pv 1) pa_nil)) pa_nil)))),_,rfl,a.f,dx,_,rfl,ho,flds_no (by decide+kernel),_,rfl,a,ps,ts,L,pk,R,N,rs,cs,i,j,t,[],rfl,rfl,F,hr1,hl,ga,r⟩
end
end My
namespace My
open PySem L2 PyProof.Rows
theorem row_lt {ps ts:List (Option Nat)} (W:WF ps ts) (f:Nat):f<ps.length→∀n∈upM ps f,n≤f:=by
  induction f using Nat.strongRecOn with
  | _ f ih=>
    intro hf n hn;by_cases h0:f=0
    · subst h0
      rw[up_step W W.root] at hn;rcases List.mem_cons.mp hn with rfl|hn
      · exact Nat.le_refl _
      · cases hn
    · obtain⟨j,ej,hj⟩:=W.par f (by omega) hf
      rw[up_step W ej] at hn;rcases List.mem_cons.mp hn with rfl|hn
      · exact Nat.le_refl _
      · have:=ih j hj (by omega) n hn
        omega
theorem stand_keep {ps ts:List (Option Nat)} (W:WF ps ts) {t x:Nat} (ht:t<ps.length) (hx:t<x):(setM x (finM ps ts x) ts)[t]? =ts[t]? :=by
  rcases setM_get x (finM ps ts x) ts t with h|⟨h,_⟩
  · exact h
  · have h1:=of_decide_eq_true (List.mem_filter.mp h).2
    have:=row_lt W t ht x (List.mem_reverse.mp h1);omega
theorem FrAt.kept {C:Addr} {H H' :Hp} {f pa ta:Addr} {ps ts:List (Option Nat)} (F:FrAt C H f pa ta ps ts) (h:∀c o,(c=f∨c=pa∨c=ta)→H c=some o→H' c=some o):FrAt C H' f pa ta ps ts:=by
  obtain⟨⟨dx,z,h0⟩,h1,h2,h3⟩:=F;exact⟨⟨dx,z,h _ _ (.inl rfl) h0⟩,h _ _ (.inr (.inl rfl)) h1,h _ _ (.inr (.inr rfl)) h2,h3⟩
theorem FrAt.apart {C:Addr} {H:Hp} {f pa ta l:Addr} {ps ts:List (Option Nat)} {xs:List V} (F:FrAt C H f pa ta ps ts) (h:H l=some (.lst xs)):f≠l:=by
  obtain⟨⟨dx,z,h0⟩,_⟩:=F;exact ne_of h0 h (by intro z;cases z)
def rflds(f:Addr)(t m:Nat)(tu:Addr):List (Str×V):=putF "turned" (.ref tu) (putF "many" (.int m) (putF "frame" (.int t) (putF "house" (.ref f) [])))
theorem rf_h (f:Addr) (t m:Nat) (tu:Addr):(rflds f t m tu).lookup ("house" :Str)=some (.ref f):=by
  unfold rflds;rw[lookup_putF,if_neg (by decide+kernel),lookup_putF,if_neg (by decide+kernel),lookup_putF,if_neg (by decide+kernel),lookup_putF,if_pos rfl]
theorem rf_f (f:Addr) (t m:Nat) (tu:Addr):(rflds f t m tu).lookup ("frame" :Str)=some (.int t):=by
  unfold rflds;rw[lookup_putF,if_neg (by decide+kernel),lookup_putF,if_neg (by decide+kernel),lookup_putF,if_pos rfl]
theorem rf_m (f:Addr) (t m:Nat) (tu:Addr):(rflds f t m tu).lookup ("many" :Str)=some (.int m):=by
  unfold rflds;rw[lookup_putF,if_neg (by decide+kernel),lookup_putF,if_pos rfl]
theorem rf_t (f:Addr) (t m:Nat) (tu:Addr):(rflds f t m tu).lookup ("turned" :Str)=some (.ref tu):=by
  unfold rflds;rw[lookup_putF,if_pos rfl]
theorem rf_no {f:Addr} {t m:Nat} {tu:Addr} {n:Str} (h:¬n="turned" ∧¬n="many" ∧¬n="frame" ∧¬n="house"):(rflds f t m tu).lookup n=none:=by
  obtain⟨h1,h2,h3,h4⟩:=h;unfold rflds;rw[lookup_putF,if_neg h1,lookup_putF,if_neg h2,lookup_putF,if_neg h3,lookup_putF,if_neg h4];rfl
structure RgAt (C:Addr) (H:Hp) (r f:Addr) (t m:Nat) (tu:Addr) (own:List Nat):Prop where
  ob:∃dx,H r=some (.ins C dx (rflds f t m tu))
  tl:H tu=some (.lst (own.map nV))
theorem RgAt.kept {C:Addr} {H H' :Hp} {r f:Addr} {t m:Nat} {tu:Addr} {own:List Nat} (R:RgAt C H r f t m tu own) (k:∀c o,(c=r∨c=tu)→H c=some o→H' c=some o):RgAt C H' r f t m tu own:=by
  obtain⟨⟨dx,h⟩,h1⟩:=R;exact⟨⟨dx,k _ _ (.inl rfl) h⟩,k _ _ (.inr rfl) h1⟩
theorem RgAt.same{C:Addr}{H H' :Hp}{r f:Addr}{t m:Nat}{tu:Addr}{own:List Nat}(R:RgAt C H r f t m tu own)(s:Same H H'):RgAt C H' r f t m tu own:=R.kept fun c o _ e=>s c o e
theorem RgAt.apart {C:Addr} {H:Hp} {r f:Addr} {t m:Nat} {tu:Addr} {own:List Nat} {l:Addr} {xs:List V} (R:RgAt C H r f t m tu own) (h:H l=some (.lst xs)):r≠l:=by
  obtain⟨dx,h0⟩:=R.ob;exact ne_of h0 h (by intro z;cases z)
def frR(ts:List (Option Nat))(own:List Nat):List Nat:=own.filter fun n=>standB ts (n:Int)
def turnX(ts:List (Option Nat))(own:List Nat):Nat:=(frR ts own).headD 0
def turnE(ps ts:List (Option Nat))(own:List Nat)(m:Nat):List Nat:=if(frR ts own).length=m then finM ps ts (turnX ts own) else[]
def turnT(ps ts:List (Option Nat))(own:List Nat)(m:Nat):List (Option Nat):=if(frR ts own).length=m then setM (turnX ts own) (finM ps ts (turnX ts own)) ts else ts
def turnR (C CR:Addr):TS:=fun D σ H=>∃r f pa ta tu le,∃(t m:Nat) (own E:List Nat) (ps ts:List (Option Nat)) (x2 x3:Option V),σ=[some (.ref r),some (.ref le),x2,x3]∧RgAt CR H r f t m tu own∧FrAt C H f pa ta ps ts∧ps.length=ts.length∧standB ts (t:Int)=true∧ps.length≤100∧own.length≤1000∧H le=some (.lst (E.map nV))∧tu≠pa∧tu≠ta∧le≠pa∧le≠ta∧le≠tu∧
  ∀tp H',H tp=none→H' tp=some (.tup [.int ps.length,.ref le])→H' le=some (.lst (E.map nV))→FrAt C H' f pa ta (ps++[some t]) (ts++[none])→RgAt CR H' r f t m tu (own++[ps.length])→(∀c o,c≠pa→c≠ta→c≠tu→H c=some o→H' c=some o)→D.rt (.ref tp) H'
section
variable{P:Program}{w:World}{K:PySem.W.Frag}{mg:Str→Option Value}{base:Heap}{A:Adr}
def spRInit (A:Adr):Sp:=fun vs H Q _=>∃p dx f pa ta ps ts,∃t m:Nat,vs=[.ref p,.ref f,.int t,.int m]∧H p=some (.ins A.a_Ring dx [])∧FrAt A.a_House H f pa ta ps ts∧ps.length=ts.length∧standB ts (t:Int)=true∧1≤m∧m≤4∧
  ∀tu H',H tu=none→RgAt A.a_Ring H' p f t m tu []→(∀b o,H b=some o→b≠p→H' b=some o)→Q .non H'
theorem ok_Ring___init__ (T:Txt K mg A):FnOk P w K mg base CX0 6 A.a_Ring___init__ A.d_Ring___init__ ["self","house","frame","many"] (spRInit A):=by
  have G_is_whole:FnOk P w K mg base CX0 5 A.a_is_whole A.d_is_whole ["thing","low","high"] spWholeI:=(ok_is_whole T).mono (by decide);have G_Frames_want_standing:FnOk P w K mg base CX0 5 A.a_Frames_want_standing A.d_Frames_want_standing ["self","thing"] (spWantS A.a_House):=ok_Frames_want_standing T;refine T.F_Ring___init__.ok sc_Ring___init__ (fun vs H Q E h=> ?_) (fun cdv Ar outer s H vs Q E hr h=> ?_)
  · obtain⟨p,dx,f,pa,ta,ps,ts,t,m,rfl,_⟩:=h
    rfl
  · obtain⟨p,dx,f,pa,ta,ps,ts,t,m,rfl,hp,F,hl,hs,m1,m4,k⟩:=h
    obtain⟨u1,c_MOST_OF_RING⟩:=T.u_MOST_OF_RING;obtain⟨⟨dxf,z,ho⟩,_⟩:=id F;refine⟨_,(pss_cons (ps_expr (pe_meth (pv 1) T.K_House T.t_Frames_want_standing G_Frames_want_standing hr T.b_Frames_want_standing .nil pass0 (pa_cons (pv 2) pa_nil))) (pss_cons (ps_if (pt_not (pt_val (pe_call G_is_whole hr rfl T.m_is_whole T.F_is_whole.kp T.b_is_whole .nil pass0 (pa_cons (pv 3) (pa_cons pe_int (pa_cons (pe_glob rfl c_MOST_OF_RING.2 c_MOST_OF_RING.1) pa_nil)))))) (pss_one ps_never) pss_nil) (pss_cons (ps_fld (pv 0) (pv 1) rfl) (pss_cons (ps_fld (pv 0) (pv 2) rfl) (pss_cons (ps_fld (pv 0) (pv 3) rfl) (pss_one (ps_fld (pv 0) (pe_lst pa_nil) rfl))))))),?_⟩;refine⟨_,rfl,f,dxf,_,rfl,ho,flds_no (by decide+kernel),_,rfl,f,pa,ta,ps,ts,t,rfl,F,hl,hs,?_⟩;refine⟨_,rfl,(m:Int),1,4,rfl,_,rfl,?_⟩;rw[decide_eq_true (show(1:Int)≤(m:Int) by omega),decide_eq_true (show(m:Int)≤4 by omega)];refine iteF ⟨_,rfl,_,rfl,p,A.a_Ring,dx,_,rfl,hp,T.K_Ring,T.n_Ring_house,(by show 0<1000;decide),?_⟩;have l1:=length_putF "house" (.ref f) [];have l2:=length_putF "frame" (.int t) (putF "house" (.ref f) []);have l3:=length_putF "many" (.int m) (putF "frame" (.int t) (putF "house" (.ref f) []));rw[List.length_nil] at l1;refine⟨_,rfl,_,rfl,p,A.a_Ring,dx,_,rfl,upd_same,T.K_Ring,T.n_Ring_frame,by omega,?_⟩;refine⟨_,rfl,_,rfl,p,A.a_Ring,dx,_,rfl,upd_same,T.K_Ring,T.n_Ring_many,by omega,?_⟩;refine⟨(show 0≤sizeLine by decide),fun tu htu=> ?_⟩;have np:tu≠p:=(ne_of_none upd_same htu).symm;have htu0:H tu=none:=by rw[upd_ne np,upd_ne np,upd_ne np] at htu;exact htu
    refine⟨_,rfl,p,A.a_Ring,dx,_,rfl,(by rw[upd_ne np.symm,upd_same]),T.K_Ring,T.n_Ring_turned,by omega,?_⟩;refine k tu _ htu0 ⟨⟨dx,upd_same⟩,?_⟩ fun b o e hb=> ?_
    · rw[upd_ne np,upd_same]
      rfl
    · rw[upd_ne hb,upd_ne (ne_of_none e htu0),upd_ne hb,upd_ne hb,upd_ne hb]
      exact e
def spRFrames (A:Adr):Sp:=fun vs H Q _=>∃r f pa ta tu,∃(t m:Nat) (own:List Nat) (ps ts:List (Option Nat)),vs=[.ref r]∧RgAt A.a_Ring H r f t m tu own∧FrAt A.a_House H f pa ta ps ts∧ps.length=ts.length∧own.length≤1000∧
  ∀l H',H l=none→Same H H'→H' l=some (.lst ((frR ts own).map nV))→Q (.ref l) H'
theorem ok_Ring_frames (T:Txt K mg A):FnOk P w K mg base CX0 5 A.a_Ring_frames A.d_Ring_frames ["self"] (spRFrames A):=by
  have G_Frames_stands:FnOk P w K mg base CX0 4 A.a_Frames_stands A.d_Frames_stands ["self","thing"] (spStands A.a_House):=ok_Frames_stands T;refine T.F_Ring_frames.ok sc_Ring_frames (fun vs H Q E h=> ?_) (fun cdv Ar outer s H vs Q E hr h=> ?_)
  · obtain⟨r,f,pa,ta,tu,t,m,own,ps,ts,rfl,_⟩:=h
    rfl
  · obtain⟨r,f,pa,ta,tu,t,m,own,ps,ts,rfl,R,F,hl,ho1,k⟩:=h
    obtain⟨dxr,hor⟩:=R.ob;refine⟨_,(pss_one (ps_ret (pe_comp (N:=["number","self"]) (k:=1) (js:=[0]) rfl (cscope_of (by kernel_rfl)) (pi_list (pe_fld (pv 0) rfl)) (fun _ _ _ _ _=>⟨(pg_name (i:=0) (show(["number","self"]:List Str).Nodup by decide+kernel) rfl (Or.inl rfl) (Or.inr rfl)),(pif1 (pt_val (pe_meth (pe_fldK (K:=K) rfl (pv 1) rfl) T.K_House T.t_Frames_stands G_Frames_stands hr T.b_Frames_stands .nil pass0 (pa_cons (pv 0) pa_nil)))),(pv 0)⟩)))),?_⟩;refine⟨_,rfl,r,A.a_Ring,dxr,_,_,rfl,hor,T.K_Ring,T.n_Ring_turned,rf_t _ _ _ _,tu,rfl,⟨_,SqL.of R.tl⟩,?_⟩;have hOl:(own.map nV).length=own.length:=List.length_map ..;refine comp_grow (fun i=>standB ts ((own.getD i 0:Nat):Int)) (fun i=>nV (own.getD i 0)) (feeds_list (SqL.of R.tl)).g ?_ ?_ fun l H2 hl2 s2 hL=> ?_
    · rw[hOl]
      exact Nat.le_trans ho1 (by decide)
    · intro i x H' C1 C0 hi sm hx c1 c0
      rw[hOl] at hi;rw[List.getElem?_map] at hx;have en:own[i]? =some (own.getD i 0):=by rw[List.getD_eq_getElem?_getD];simp[hi]
      rw[en] at hx;cases hx;generalize own.getD i 0=n at c1 c0;have F' :=F.same sm;obtain⟨⟨dx',z',ho'⟩,_⟩:=id F';refine⟨(SubS.refl _).own (by decide),_,rfl,r,A.a_Ring,dxr,_,_,rfl,sm _ _ hor,T.K_Ring,T.n_Ring_house,rf_h _ _ _ _,f,dx',_,rfl,ho',flds_no (by decide+kernel),_,rfl,f,pa,ta,ps,ts,n,rfl,F',hl,_,rfl,?_⟩
      cases hd:standB ts (n:Int) with
      |true=>exact iteT ⟨_,rfl,c1 hd H' (Same.refl H')⟩
      |false=>exact iteF (c0 hd H' (Same.refl H'))
    · rw[hOl] at hL
      refine k l H2 hl2 s2 ?_;rw[hL];exact congrArg (fun z=>some (HO.lst z)) (range_filter own (fun n=>standB ts (n:Int)) nV)
def spRLast (A:Adr):Sp:=fun vs H Q _=>∃r f pa ta tu,∃(t m:Nat) (own:List Nat) (ps ts:List (Option Nat)),vs=[.ref r]∧RgAt A.a_Ring H r f t m tu own∧FrAt A.a_House H f pa ta ps ts∧ps.length=ts.length∧own.length≤1000∧
  ∀H',Same H H'→Q (oV (frR ts own).getLast?) H'
theorem ok_Ring_last (T:Txt K mg A):FnOk P w K mg base CX0 6 A.a_Ring_last A.d_Ring_last ["self"] (spRLast A):=by
  have G_Ring_frames:FnOk P w K mg base CX0 5 A.a_Ring_frames A.d_Ring_frames ["self"] (spRFrames A):=ok_Ring_frames T;refine T.F_Ring_last.ok sc_Ring_last (fun vs H Q E h=> ?_) (fun cdv Ar outer s H vs Q E hr h=> ?_)
  · obtain⟨r,f,pa,ta,tu,t,m,own,ps,ts,rfl,_⟩:=h
    rfl
  · obtain⟨r,f,pa,ta,tu,t,m,own,ps,ts,rfl,R,F,hl,ho1,k⟩:=h
    obtain⟨dxr,hor⟩:=R.ob;refine⟨_,(pss_cons (ps_set (i:=1) sc_Ring_last.nd rfl (Or.inl rfl) (pe_meth0 (pv 0) T.K_Ring T.t_Ring_frames G_Ring_frames hr T.b_Ring_frames .nil pass0)) (pss_one (ps_ret (pe_ifExp (pt_truth (pv 1) (fun _=>rfl)) (pe_ix ix_list (pv 1) (pe_un un_neg pe_int) (fun _ _=>rfl)) pe_non)))),?_⟩;refine⟨_,rfl,r,dxr,_,rfl,hor,rf_no (by decide+kernel),r,f,pa,ta,tu,t,m,own,ps,ts,rfl,R,F,hl,ho1,fun l H1 hl1 s1 e1=> ?_⟩;rcases List.eq_nil_or_concat (frR ts own) with h|⟨ini,n,h⟩
    · rw[h] at e1 k
      exact⟨_,rfl,_,.inl ⟨_,SqL.of e1,rfl⟩,iteF (k H1 s1)⟩
    · have h:frR ts own=ini++[n]:=by rw[h,List.concat_eq_append]
      rw[h] at e1 k;rw[List.getLast?_append] at k;have hne:(!((ini++[n]).map nV).isEmpty)=true:=by rw[List.map_append];cases ini<;>rfl
      refine⟨_,rfl,_,.inl ⟨_,SqL.of e1,rfl⟩,?_⟩;rw[hne];have ea:atI ((ini++[n]).map nV) (-1)=some (nV n):=by rw[List.map_append];exact atI_last _ _
      exact iteT ⟨_,rfl,1,rfl,l,_, -1,nV n,rfl,rfl,SqL.of e1,ea,k H1 s1⟩
def spTurn (A:Adr):Sp:=fun vs H Q _=>∃r f pa ta tu,∃(t m:Nat) (own:List Nat) (ps ts:List (Option Nat)),vs=[.ref r]∧RgAt A.a_Ring H r f t m tu own∧FrAt A.a_House H f pa ta ps ts∧WF ps ts∧standB ts (t:Int)=true∧ps.length≤100∧(∀n∈own,ps[n]? =some (some t))∧1≤m∧own.length≤1000∧tu≠pa∧tu≠ta∧
  ∀tp le H',H tp=none→H le=none→H' tp=some (.tup [.int ps.length,.ref le])→H' le=some (.lst ((turnE ps ts own m).map nV))→FrAt A.a_House H' f pa ta (ps++[some t]) (turnT ps ts own m++[none])→RgAt A.a_Ring H' r f t m tu (own++[ps.length])→(∀c o,c≠pa→c≠ta→c≠tu→H c=some o→H' c=some o)→Q (.ref tp) H'
theorem ok_Ring_turn (T:Txt K mg A):FnOk P w K mg base CX0 8 A.a_Ring_turn A.d_Ring_turn ["self"] (spTurn A):=by
  have G_Ring_frames:FnOk P w K mg base CX0 7 A.a_Ring_frames A.d_Ring_frames ["self"] (spRFrames A):=(ok_Ring_frames T).mono (by decide);have G_Frames_want_beginning:FnOk P w K mg base CX0 7 A.a_Frames_want_beginning A.d_Frames_want_beginning ["self","thing"] (spWantBeg A.a_House):=(ok_Frames_want_beginning T).mono (by decide);have G_Frames_finish:FnOk P w K mg base CX0 7 A.a_Frames_finish A.d_Frames_finish ["self","frame"] (spFinish A.a_House):=ok_Frames_finish T;have G_Frames_begin:FnOk P w K mg base CX0 7 A.a_Frames_begin A.d_Frames_begin ["self","frame"] (spBegin A.a_House):=ok_Frames_begin T;refine T.F_Ring_turn.ok sc_Ring_turn (fun vs H Q E h=> ?_) (fun cdv Ar outer s H vs Q E hr h=> ?_)
  · obtain⟨r,f,pa,ta,tu,t,m,own,ps,ts,rfl,_⟩:=h
    rfl
  · obtain ⟨r,f,pa,ta,tu,t,m,own,ps,ts,rfl,R,F,W,hs,hle,hown,m1,ho1,n1,n2,k⟩:=h
    have hl:=W.len;obtain⟨dxr,hor⟩:=R.ob;obtain⟨⟨dx,z,ho⟩,hp,ht,ne⟩:=id F;refine⟨_,(pss_cons (ps_expr (pe_meth (pe_fld (pv 0) rfl) T.K_House T.t_Frames_want_beginning G_Frames_want_beginning hr T.b_Frames_want_beginning .nil pass0 (pa_cons (pe_fld (pv 0) rfl) pa_nil))) (pss_cons (ps_set (i:=1) sc_Ring_turn.nd rfl (Or.inl rfl) (pe_lst pa_nil)) (pss_cons (ps_set (i:=2) sc_Ring_turn.nd rfl (Or.inl rfl) (pe_meth0 (pv 0) T.K_Ring T.t_Ring_frames G_Ring_frames hr T.b_Ring_frames .nil pass0)) (pss_cons (ps_if (pt_cmpR op_eq (pe_callB call_len_seq (by rfl) T.z_len Boot.«len» (pa_cons (pv 2) pa_nil)) (pe_fld (pv 0) rfl) (nomark _)) (pss_one (ps_set (i:=1) sc_Ring_turn.nd rfl (Or.inl rfl) (pe_meth (pe_fld (pv 0) rfl) T.K_House T.t_Frames_finish G_Frames_finish hr T.b_Frames_finish .nil pass0 (pa_cons (pe_ix ix_list (pv 2) pe_int (fun _ _=>rfl)) pa_nil)))) pss_nil) (pss_imp (turnR A.a_House A.a_Ring) (pss_cons (ps_set (i:=3) sc_Ring_turn.nd rfl (Or.inl rfl) (pe_meth (pe_fld (pv 0) rfl) T.K_House T.t_Frames_begin G_Frames_begin hr T.b_Frames_begin .nil pass0 (pa_cons (pe_fld (pv 0) rfl) pa_nil))) (pss_cons (ps_expr (pe_bm PySem.F.plainAttrs_list PySem.F.slot_list_append PySem.F.type_list_append mt_append (pe_fld (pv 0) rfl) (pa_cons (pv 3) pa_nil))) (pss_one (ps_ret (pe_tup (pa_cons (pv 3) (pa_cons (pv 1) pa_nil))))))) ?cut4))))),?_⟩
    rotate_left
    case cut4 =>
      clear k R F W hs hle hown m1 ho1 n1 n2 hl hor ho hp ht ne
      rintro D σ H0 ⟨r,f,pa,ta,tu,le,t,m,own,E,ps,ts,x2,x3,rfl,R,F,hl,hs,hle,ho1,eL,n1,n2,n3,n4,n5,k⟩
      obtain⟨dxr,hor⟩:=R.ob;obtain⟨⟨dx,z,ho⟩,hp,ht,ne⟩:=id F;refine⟨_,rfl,r,A.a_Ring,dxr,_,_,rfl,hor,T.K_Ring,T.n_Ring_house,rf_h _ _ _ _,f,dx,_,rfl,ho,flds_no (by decide+kernel),_,rfl,r,A.a_Ring,dxr,_,_,rfl,hor,T.K_Ring,T.n_Ring_frame,rf_f _ _ _ _,f,pa,ta,ps,ts,t,rfl,F,hl,hs,hle,fun H1 F1 K1=> ?_⟩;have R1:RgAt A.a_Ring H1 r f t m tu own:=R.kept fun c o hc e=>K1 c o (by rcases hc with rfl|rfl;exact R.apart hp;exact n1) (by rcases hc with rfl|rfl;exact R.apart ht;exact n2) e;obtain⟨dxr1,hor1⟩:=R1.ob;refine⟨_,rfl,r,A.a_Ring,dxr1,_,_,rfl,hor1,T.K_Ring,T.n_Ring_turned,rf_t _ _ _ _,.inl ⟨rfl,_,SqL.of R1.tl⟩,_,rfl,tu,_,_,rfl,rfl,R1.tl,?_,?_⟩
      · rw[List.length_map]
        exact Nat.lt_of_le_of_lt ho1 (by decide)
      refine⟨_,rfl,_,rfl,(show 2≤sizeLine by decide),fun tp htp=> ?_⟩;have nt:tp≠tu:=(ne_of_none upd_same htp).symm;have htp1:H1 tp=none:=by rw[upd_ne nt] at htp;exact htp
      have nz:∀{c:Addr} {o:HO},upd H1 tu (.lst (own.map nV++[.int (ps.length:Int)])) c=some o→c≠tp:=fun e=>ne_of_none e htp
      have htp0:H0 tp=none:=by
        cases q:H0 tp with
        |none=>rfl
        | some o=>
          by_cases z1:tp=pa
          · rw[z1,F1.pl] at htp1
            cases htp1
          · by_cases z2:tp=ta
            · rw[z2,F1.tl] at htp1
              cases htp1
            · rw[K1 _ _ z1 z2 q] at htp1
              cases htp1
      refine k tp _ htp0 upd_same ?_ (F1.kept fun c o hc e=> ?_) ⟨⟨dxr1,?_⟩,?_⟩ fun c o h1 h2 h3 e=> ?_
      · have e1:=K1 _ _ n3 n4 eL
        rw[upd_ne (ne_of_none e1 htp1),upd_ne n5];exact e1
      · have hct:c≠tu:=by
          rcases hc with rfl|rfl|rfl
          · exact F1.apart R1.tl
          · exact n1.symm
          · exact n2.symm
        rw[upd_ne (ne_of_none e htp1),upd_ne hct];exact e
      · have hrt:r≠tu:=R1.apart R1.tl
        rw[upd_ne (ne_of_none hor1 htp1),upd_ne hrt];exact hor1
      · rw[upd_ne nt.symm,upd_same,List.map_append]
        rfl
      · have e1:=K1 c o h1 h2 e
        rw[upd_ne (ne_of_none e1 htp1),upd_ne h3];exact e1
    refine⟨_,rfl,r,A.a_Ring,dxr,_,_,rfl,hor,T.K_Ring,T.n_Ring_house,rf_h _ _ _ _,f,dx,_,rfl,ho,flds_no (by decide+kernel),_,rfl,r,A.a_Ring,dxr,_,_,rfl,hor,T.K_Ring,T.n_Ring_frame,rf_f _ _ _ _,f,pa,ta,ps,ts,t,rfl,F,hl,hs,hle,?_⟩;refine⟨(show 0≤sizeLine by decide),fun l0 hl0=> ?_⟩;have s0:=Same.upd (o:= .lst []) hl0;have at0:upd H l0 (.lst []) l0=some (.lst []):=upd_same;generalize upd H l0 (.lst [])=H1 at s0 at0;have R1:=R.same s0;have F1:=F.same s0;obtain⟨dxr1,hor1⟩:=R1.ob;refine⟨_,rfl,r,dxr1,_,rfl,hor1,rf_no (by decide+kernel),r,f,pa,ta,tu,t,m,own,ps,ts,rfl,R1,F1,hl,ho1,fun sl H2 hsl s2 e2=> ?_⟩;have R2:=R1.same s2;have F2:=F1.same s2;have at2:=s2 _ _ at0;have s02:=s0.trans s2;obtain⟨dxr2,hor2⟩:=R2.ob;obtain⟨⟨dx2,z2,ho2⟩,hp2,ht2,ne2⟩:=id F2;refine⟨_,rfl,sl,_,rfl,.inl (SqL.of e2),_,rfl,r,A.a_Ring,dxr2,_,_,rfl,hor2,T.K_Ring,T.n_Ring_many,rf_m _ _ _ _,rfl,_,rfl,?_⟩;rw[List.length_map];by_cases hm:(frR ts own).length=m
    · rw [decide_eq_true (show V.int ((frR ts own).length:Int)=V.int (m:Int) by rw[hm])]
      refine iteT ?_
      obtain⟨x,rest,hx⟩:∃x rest,frR ts own=x::rest:=by
        cases q:frR ts own with
        |nil=>rw[q] at hm;simp at hm;omega
        |cons x rest=>exact⟨x,rest,rfl⟩
      have hxm:x∈frR ts own:=by rw[hx];exact List.mem_cons_self
      have hxo:=(List.mem_filter.mp hxm).1;have hxs:standB ts (x:Int)=true:=(List.mem_filter.mp hxm).2;have hpx:=hown x hxo;have hxl:x<ps.length:=(List.getElem?_eq_some_iff.mp hpx).1;have hx0:x≠0:=fun z=>by rw[z,W.root] at hpx;cases hpx
      have htx:t<x:=by
        obtain⟨j,ej,hj⟩:=W.par x (by omega) hxl;rw[ej] at hpx;cases hpx;exact hj
      have eX:turnX ts own=x:=by unfold turnX;rw[hx];rfl
      have eE:turnE ps ts own m=finM ps ts x:=by unfold turnE;rw[if_pos hm,eX]
      have eT:turnT ps ts own m=setM x (finM ps ts x) ts:=by unfold turnT;rw[if_pos hm,eX]
      have ea:atI ((frR ts own).map nV) (0:Int)=some (nV x):=by rw[hx];exact atI_nat (xs:=(x::rest).map nV) (j:=0) (v:=nV x) rfl
      refine⟨_,rfl,r,A.a_Ring,dxr2,_,_,rfl,hor2,T.K_Ring,T.n_Ring_house,rf_h _ _ _ _,f,dx2,_,rfl,ho2,flds_no (by decide+kernel),_,rfl,sl,_,0,nV x,rfl,rfl,SqL.of e2,ea,f,pa,ta,ps,ts,x,rfl,F2,W,hxs,hx0,fun le H3 hle3 eL F3 K3=> ?_⟩;have R3:RgAt A.a_Ring H3 r f t m tu own:=R2.kept fun c o hc e=>K3 c o (by rcases hc with rfl|rfl;exact R2.apart hp2;exact n1) (by rcases hc with rfl|rfl;exact R2.apart ht2;exact n2) e;refine⟨r,f,pa,ta,tu,le,t,m,own,_,ps,_,_,_,rfl,R3,F3,by rw[setM_len];exact hl,?_,hle,ho1,eL,n1,n2,(ne_of_none hp2 hle3).symm,(ne_of_none ht2 hle3).symm,(ne_of_none R2.tl hle3).symm,fun tp H' htp etp eL' F' R' K' => ?_⟩
      · unfold standB
        rw[Int.toNat_natCast,stand_keep W (by omega) htx];exact hs
      · refine k tp le H' ?_ (s02.free hle3) etp (by rw[eE];exact eL') (by rw[eT];exact F') R' fun c o h1 h2 h3 e=>K' c o h1 h2 h3 (K3 c o h1 h2 (s02 c o e))
        cases q:H tp with
        |none=>rfl
        | some o=>
          by_cases z1:tp=pa
          · rw[z1,F3.pl] at htp
            cases htp
          · by_cases z2:tp=ta
            · rw[z2,F3.tl] at htp
              cases htp
            · rw[K3 _ _ z1 z2 (s02 _ _ q)] at htp
              cases htp
    · rw[decide_eq_false (show ¬V.int ((frR ts own).length:Int)=V.int (m:Int) from fun z=>hm (by injection z with z;omega))]
      refine iteF ?_;have eE:turnE ps ts own m=[]:=by unfold turnE;rw[if_neg hm]
      have eT:turnT ps ts own m=ts:=by unfold turnT;rw[if_neg hm]
      refine⟨r,f,pa,ta,tu,l0,t,m,own,[],ps,ts,_,_,rfl,R2,F2,hl,hs,hle,ho1,at2,n1,n2,(ne_of_none hp hl0).symm,(ne_of_none ht hl0).symm,(ne_of_none R.tl hl0).symm,fun tp H' htp etp eL' F' R' K' => ?_⟩;exact k tp l0 H' (s02.free htp) hl0 etp (by rw[eE];exact eL') (by rw[eT];exact F') R' fun c o h1 h2 h3 e=>K' c o h1 h2 h3 (s02 c o e)
end
end My
namespace My
open PySem L2 PyProof.Rows
theorem flds_par(x pa ta:Addr)(z:HX):putF "parents" (.ref x) (flds pa ta z)=flds x ta z:=by kernel_rfl
theorem flds_tak(x pa ta:Addr)(z:HX):putF "takers" (.ref x) (flds pa ta z)=flds pa x z:=by kernel_rfl
theorem flds_len2(pa ta:Addr)(z:HX)(v:V):putF "lengths" v (flds pa ta z)=flds pa ta {z with la:=v}:=by kernel_rfl
section
variable{P:Program}{w:World}{K:PySem.W.Frag}{mg:Str→Option Value}{base:Heap}{A:Adr}
def spTwin (C:Addr):Sp:=fun vs H Q _=>∃a ps ts L pk R N rs cs,vs=[.ref a.f]∧HouseAt C H a ps ts L pk R N rs cs∧1≤L∧L≤1000∧ps.length≤1000∧ts.length≤1000∧R.length≤1000000∧N≤1000000∧
  ∀f pa ta H',H f=none→H pa=none→H ta=none→FrAt C H' f pa ta ps ts→Same H H'→Q (.ref f) H'
theorem ok_House_twin (T:Txt K mg A):FnOk P w K mg base CX0 5 A.a_House_twin A.d_House_twin ["self"] (spTwin A.a_House):=by
  have G_House___init__:FnOk P w K mg base CX0 3 A.a_House___init__ A.d_House___init__ ["self","limit"] (spHInit A.a_House):=ok_House___init__ T;refine T.F_House_twin.ok sc_House_twin (fun vs H Q E h=> ?_) (fun cdv Ar outer s H vs Q E hr h=> ?_)
  · obtain⟨a,ps,ts,L,pk,R,N,rs,cs,rfl,_⟩:=h
    rfl
  · obtain ⟨a,ps,ts,L,pk,R,N,rs,cs,rfl,F,L1,L2,hp1,ht1,hR1,hN1,q⟩:=h
    have hu:=hu_of hr;have hL:sizeLine=16777216:=by decide
    have h2L:(2:Nat)≤sizeLine:=by decide
    obtain⟨dx,ho⟩:=F.ob;refine⟨_,(pss_cons (ps_set (i:=1) sc_House_twin.nd rfl (Or.inl rfl) (pe_make T.M_House G_House___init__ hr rfl T.m_House T.b_House___init__ .nil pass0 (pa_cons (pe_fld (pv 0) rfl) pa_nil))) (pss_cons (ps_fld (pv 1) (pe_callTy call_list_of (by rfl) T.z_list Boot.«list» (pa_cons (pe_fld (pv 0) rfl) pa_nil)) rfl) (pss_cons (ps_fld (pv 1) (pe_callTy call_list_of (by rfl) T.z_list Boot.«list» (pa_cons (pe_fld (pv 0) rfl) pa_nil)) rfl) (pss_cons (ps_thaw (ps_for PassesOwn.never rfl (pi_items (pe_bm0 PySem.F.plainAttrs_dict PySem.F.slot_dict_items PySem.F.type_dict_items mt_items (pe_fld (pv 0) rfl))) (pg_tup rfl (pgs_cons (pg_name (i:=2) sc_House_twin.nd rfl (Or.inl rfl) (Or.inl rfl)) (pgs_cons (pg_name (i:=3) sc_House_twin.nd rfl (Or.inl rfl) (Or.inl rfl)) pgs_nil))) (pss_one (ps_dput hu (pe_fld (pv 1) rfl) (pv 2) (pe_callTy (call_dict_pairs rfl) (by rfl) T.z_dict Boot.«dict» (pa_cons (pe_thaw (pe_comp (N:=["place","room"]) (k:=2) (js:=[]) rfl (cscope_of (by kernel_rfl)) (pi_items (pe_bm0 PySem.F.plainAttrs_dict PySem.F.slot_dict_items PySem.F.type_dict_items mt_items (pv 3))) (fun _ _ _ _ _=>⟨(pg_tupK (K:=K) (n:=2) rfl rfl (pgs_cons (pg_name (i:=0) (show(["place","room"]:List Str).Nodup by decide+kernel) rfl (Or.inl rfl) (Or.inr rfl)) (pgs_cons (pg_name (i:=1) (show(["place","room"]:List Str).Nodup by decide+kernel) rfl (Or.inl rfl) (Or.inr rfl)) pgs_nil)) rfl rfl),pif0,(pe_tup (pa_cons (pv 0) (pa_cons (pe_callTy (call_list_ofK (K:=K) rfl) (by rfl) T.z_list Boot.«list» (pa_cons (pv 1) pa_nil)) pa_nil)))⟩))) pa_nil)) rfl)))) (pss_cons (ps_fld (pv 1) (pe_callTy call_dict_copy (by rfl) T.z_dict Boot.«dict» (pa_cons (pe_fld (pv 0) rfl) pa_nil)) rfl) (pss_cons (ps_fld (pv 1) (pe_fld (pv 0) rfl) rfl) (pss_one (ps_ret (pv 1))))))))),?_⟩;refine⟨_,rfl,a.f,A.a_House,dx,_,_,rfl,ho,T.K_House,T.n_House_bound,flds_b _ _ _,?_⟩;intro p dp np nd ne
    have s0:Same H (upd (upd H dp (.own p)) p (.ins A.a_House dp [])):=fun c o e=>by
      rw[upd_ne (ne_of_none e np),upd_ne (ne_of_none e nd)];exact e
    refine⟨p,dp,L,rfl,upd_same,L1,L2,fun a' H1 ea' fr' F1 kp1=>⟨rfl,?_⟩⟩;subst ea';have s1:Same H H1:=fun c o e=>kp1 c o (s0 c o e) (ne_of_none e np)
    have frs:∀c∈a'.own,H c=none:=fun c hc=>by
      rcases fr' c hc with z|z
      · rw[z];exact np
      · exact s0.free z
    obtain⟨of,op,ot,ofa,ola⟩:=F1.own5;obtain⟨dx1,ho1⟩:=F1.ob;obtain⟨kv1,g1,g2,_⟩:=F1.fl;have hkv1:kv1=[]:=List.length_eq_zero_iff.mp (by have:=g2.1;omega);subst hkv1;have Fa:=F.same s1;obtain⟨dxa,hoa⟩:=Fa.ob;refine⟨_,rfl,a.f,A.a_House,dxa,_,_,rfl,hoa,T.K_House,T.n_House_parents,flds_p _ _ _,a.pa,_,rfl,.inl (SqL.of Fa.pl),fun l1 hl1=> ?_⟩;have n1f:a'.f≠l1:=ne_of_none ho1 hl1;refine⟨_,rfl,a'.f,A.a_House,dx1,_,rfl,(by rw[upd_ne n1f];exact ho1),T.K_House,T.n_House_parents,Nat.lt_of_le_of_lt (flds_len _ _ _) (by decide),?_⟩;rw[flds_par]
    have s2:Same H (upd (upd H1 l1 (.lst (ps.map oV))) a'.f (.ins A.a_House dx1 (flds l1 a'.ta ⟨.int L,.ref a'.fa,.ref a'.la,.int (0:Nat)⟩))):=fun c o e=>by
      rw[upd_ne (ne_of_none e (frs _ of)),upd_ne (ne_of_none (s1 _ _ e) hl1)];exact s1 _ _ e
    have o2:upd (upd H1 l1 (.lst (ps.map oV))) a'.f (.ins A.a_House dx1 (flds l1 a'.ta ⟨.int L,.ref a'.fa,.ref a'.la,.int (0:Nat)⟩)) a'.f=some (.ins A.a_House dx1 (flds l1 a'.ta ⟨.int L,.ref a'.fa,.ref a'.la,.int (0:Nat)⟩)):=upd_same;have e2:upd (upd H1 l1 (.lst (ps.map oV))) a'.f (.ins A.a_House dx1 (flds l1 a'.ta ⟨.int L,.ref a'.fa,.ref a'.la,.int (0:Nat)⟩)) l1=some (.lst (ps.map oV)):=by rw[upd_ne n1f.symm,upd_same]
    have f2:upd (upd H1 l1 (.lst (ps.map oV))) a'.f (.ins A.a_House dx1 (flds l1 a'.ta ⟨.int L,.ref a'.fa,.ref a'.la,.int (0:Nat)⟩)) a'.fa=some (.dK []):=by
      rw[upd_ne (ne_of g1 ho1 (by intro z;cases z)),upd_ne (ne_of_none g1 hl1)];exact g1
    have fl1:H l1=none:=s1.free hl1;generalize upd (upd H1 l1 (.lst (ps.map oV))) a'.f (.ins A.a_House dx1 (flds l1 a'.ta ⟨.int L,.ref a'.fa,.ref a'.la,.int (0:Nat)⟩))=H2 at s2 o2 e2 f2;have F2:=F.same s2;obtain⟨dxb,hob⟩:=F2.ob;refine⟨_,rfl,a.f,A.a_House,dxb,_,_,rfl,hob,T.K_House,T.n_House_takers,flds_t _ _ _,a.ta,_,rfl,.inl (SqL.of F2.tl),fun l2 hl2=> ?_⟩;have n2f:a'.f≠l2:=ne_of_none o2 hl2;have n12:l1≠l2:=ne_of_none e2 hl2;refine⟨_,rfl,a'.f,A.a_House,dx1,_,rfl,(by rw[upd_ne n2f];exact o2),T.K_House,T.n_House_takers,Nat.lt_of_le_of_lt (flds_len _ _ _) (by decide),?_⟩;rw[flds_tak];generalize hz:(⟨.int L,.ref a'.fa,.ref a'.la,.int (0:Nat)⟩:HX)=z at o2;have zf:z.fa= .ref a'.fa:=by rw[←hz]
    have s3:Same H (upd (upd H2 l2 (.lst (ts.map oV))) a'.f (.ins A.a_House dx1 (flds l1 l2 z))):=fun c o e=>by
      rw[upd_ne (ne_of_none e (frs _ of)),upd_ne (ne_of_none (s2 _ _ e) hl2)];exact s2 _ _ e
    have o3:upd (upd H2 l2 (.lst (ts.map oV))) a'.f (.ins A.a_House dx1 (flds l1 l2 z)) a'.f=some (.ins A.a_House dx1 (flds l1 l2 z)):=upd_same;have e31:upd (upd H2 l2 (.lst (ts.map oV))) a'.f (.ins A.a_House dx1 (flds l1 l2 z)) l1=some (.lst (ps.map oV)):=by rw[upd_ne n1f.symm,upd_ne n12];exact e2
    have e32:upd (upd H2 l2 (.lst (ts.map oV))) a'.f (.ins A.a_House dx1 (flds l1 l2 z)) l2=some (.lst (ts.map oV)):=by rw[upd_ne n2f.symm,upd_same]
    have f3' :upd (upd H2 l2 (.lst (ts.map oV))) a'.f (.ins A.a_House dx1 (flds l1 l2 z)) a'.fa=some (.dK []):=by
      rw[upd_ne (ne_of f2 o2 (by intro z;cases z)),upd_ne (ne_of_none f2 hl2)];exact f2
    have fl2:H l2=none:=s2.free hl2;generalize upd (upd H2 l2 (.lst (ts.map oV))) a'.f (.ins A.a_House dx1 (flds l1 l2 z))=H3 at s3 o3 e31 e32 f3';have F3:=F.same s3;obtain⟨dxc,hoc⟩:=F3.ob;obtain⟨kv,k1,⟨k2,kOk⟩,k3,k4⟩:=F3.fl;refine⟨_,rfl,a.f,A.a_House,dxc,_,_,rfl,hoc,T.K_House,T.n_House_floors,flds_f _ _ _,.inr (.inr (.inl ⟨rfl,.inl ⟨_,k1⟩⟩)),a.fa,kv,rfl,rfl,k1,fun v hv=> ?_⟩;have s4:=Same.upd (o:=viewO v a.fa) hv;refine⟨v,a.fa,kv,rfl,upd_same,s4 _ _ k1,fun o nf=> ?_⟩
    have nfa:a.fa≠a'.fa:=by
      obtain⟨_,kz,_⟩:=F.fl;exact ne_of_none kz (frs _ ofa)
    generalize hH4:upd H3 v (viewO v a.fa)=H4 at s4;have k14:=s4 _ _ k1;refine for_items (d:=a.fa) (o:=o) (kvs:=kv) (fun i σ H' =>∃(x2 x3:Option V) (kv' :List (Key×V)),σ=[some (.ref a.f),some (.ref a'.f),x2,x3]∧H' a'.fa=some (.dK kv')∧kv'.length≤i∧∀c oo,c≠a'.fa→upd H4 a.fa (.frz o (.dK kv)) c=some oo→H' c=some oo) ⟨_,_,[],rfl,?_,Nat.le_refl _,fun _ _ _ e=>e⟩ ?_ ?_ ?_
    · rw[upd_ne nfa.symm]
      exact s4 _ _ f3'
    · rintro i σ H' ⟨x2,x3,kv',_,_,_,kk⟩
      exact kk _ _ nfa upd_same
    · rintro i k w T' σ H5 hi hT ⟨x2,x3,kv',rfl,f5,l5,kk⟩
      have hil:i<kv.length:=(List.getElem?_eq_some_iff.mp hi).1;obtain⟨n,b,ekw,hval⟩:=kOk _ (List.mem_of_getElem? hi);cases ekw
      have hb3:b∈a.own∧b≠a.fa∧H3 b=some (.dK (floorK R rs n)):=by
        rcases k3 n with h|⟨b',e1,e2,e3,e4,e5⟩
        · rw[h.1] at hval;cases hval
        · rw[e1] at hval
          cases hval;exact⟨e2,e3,e5⟩
      obtain⟨bo,bf,hb3⟩:=hb3;have old5:∀{c:Addr} {oo:HO},H3 c=some oo→c≠a'.fa→c≠a.fa→H5 c=some oo:=fun{c oo} e h1 h2=>kk c oo h1 (by rw[upd_ne h2];exact s4 _ _ e)
      have bfa' :b≠a'.fa:=by
        obtain⟨ob',eb'⟩:=F.al b bo;exact ne_of_none eb' (frs _ ofa)
      have hb5:=old5 hb3 bfa' bf;have s6:=Same.upd (o:= .tup [kV (.inl (n:Int)),.ref b]) hT;refine⟨T',_,rfl,SqT.of upd_same,rfl,?_⟩;refine⟨_,_,rfl,_,_,rfl,rfl,?_⟩;generalize upd H5 T' (.tup [kV (.inl (n:Int)),.ref b])=H6 at s6;have hb6:=s6 _ _ hb5;refine⟨_,rfl,.inr (.inr (.inl ⟨rfl,.inl ⟨_,hb6⟩⟩)),b,_,rfl,rfl,hb6,fun v2 hv2=> ?_⟩;have s7:=Same.upd (o:=viewO v2 b) hv2;refine⟨v2,b,_,rfl,upd_same,s7 _ _ hb6,fun o2 nf2=> ?_⟩;generalize upd H6 v2 (viewO v2 b)=H7 at s7;have hb7:=s7 _ _ hb6;have hfz:upd H7 b (.frz o2 (.dK (floorK R rs n))) b=some (.frz o2 (.dK (floorK R rs n))):=upd_same;have hfl:=floor_len R rs n
      have back:∀{c:Addr} {oo:HO},H5 c=some oo→c≠b→upd H7 b (.frz o2 (.dK (floorK R rs n))) c=some oo:=fun{c oo} e h1=>by
        rw[upd_ne h1];exact s7 _ _ (s6 _ _ e)
      refine comp_rel (fun i v H' =>∃t k w,v= .ref t∧H' t=some (.tup [kV k,w])) (feeds_items hfz) (by omega) ?_ ?_ ?_
      · rintro j v Ha Hb kt ⟨t,k,w,h1,h2⟩
        exact⟨t,k,w,h1,kt _ _ h2⟩
      · intro j x H' C1 hj sm hY c1
        obtain⟨T2,k2',w2,rfl,hT2,hkv⟩:=hY;unfold floorK at hkv;rw[List.getElem?_map] at hkv
        cases hix:(idxF R n)[j]? with
        |none=>rw[hix] at hkv;cases hkv
        | some m=>
          rw[hix] at hkv;cases hkv;have hm:m<R.length:=idx_lt (List.mem_of_getElem? hix)
          have hrs:rs[m]? =some (rs.getD m 0):=by
            rw[List.getD_eq_getElem?_getD];simp[show m<rs.length by rw[F3.rl];exact hm]
          obtain⟨ro,_,_,vs,_,hv3⟩:=F3.rm m _ hrs
          have rfa:rs.getD m 0≠a'.fa:=by
            obtain⟨ob',eb'⟩:=F.al _ ro;exact ne_of_none eb' (frs _ ofa)
          have hv' :=sm _ _ (back (old5 hv3 rfa (ne_of hv3 k1 (by intro z;cases z))) (ne_of hv3 hb3 (by intro z;cases z)));refine⟨T2,_,rfl,SqT.of hT2,rfl,_,_,rfl,_,_,rfl,rfl,((SubS.refl _).own (by decide)).own (by decide),?_⟩;refine⟨_,rfl,_,rfl,rs.getD m 0,_,rfl,.inl (SqL.of hv'),fun l hl=>⟨h2L,fun t ht=> ?_⟩⟩;exact c1 _ _ ((Same.upd hl).trans (Same.upd ht)) ⟨t,.inl (placeR R m:Int),.ref l,rfl,upd_same⟩
      · intro pl H8 ys hpl sm hpl8 hyl hys
        have pb:pl≠b:=fun z=>by rw[z,hfz] at hpl;cases hpl
        refine⟨b,o2,_,sm _ _ hfz,nf2,?_⟩
        obtain⟨kvs,hkvs⟩:=pairs_of (H:=upd H8 b (.dK (floorK R rs n))) (ys:=ys) fun i v e=>by
          obtain⟨t,k,w,h1,h2⟩:=hys i v e;refine⟨t,k,w,h1,?_⟩;rw[upd_ne (ne_of h2 (sm _ _ hfz) (by intro z;cases z))];exact h2
        have keep8:∀{c:Addr} {oo:HO},H5 c=some oo→upd H8 b (.dK (floorK R rs n)) c=some oo:=fun{c oo} e=>by
          by_cases z:c=b
          · subst z
            rw[upd_same,←hb5];exact e
          · rw[upd_ne z]
            exact sm _ _ (back e z)
        refine⟨pl,ys,kvs,rfl,(by rw[upd_ne pb];exact hpl8),hkvs,fun d' hd' => ?_⟩;have s9:=Same.upd (o:= .dK (mergeK [] kvs)) hd';have o9:=s9 _ _ (keep8 (old5 o3 (ne_of o3 f3' (by intro z;cases z)) (ne_of o3 k1 (by intro z;cases z))));have f9:=s9 _ _ (keep8 f5);refine⟨_,rfl,a'.f,A.a_House,dx1,_,_,rfl,o9,T.K_House,T.n_House_floors,flds_f _ _ _,_,rfl,a'.fa,_,zf,DPut.k (k:= .inl (n:Int)) f9 (by omega),?_⟩;refine⟨_,_,_,rfl,upd_same,?_,fun c oo h1 e=> ?_⟩
        · have:=length_putK kv' (.inl (n:Int)) (.ref d')
          omega
        · rw[upd_ne h1]
          exact s9 _ _ (keep8 (kk c oo h1 e))
    · rintro σ H5 ⟨x2,x3,kv',rfl,f5,l5,kk⟩
      refine⟨a.fa,o,kv,kk _ _ nfa upd_same,nf,?_⟩
      have keep6:∀{c:Addr} {oo:HO},H3 c=some oo→c≠a'.fa→upd H5 a.fa (.dK kv) c=some oo:=fun{c oo} e h1=>by
        by_cases z:c=a.fa
        · subst z
          rw[upd_same,←k1];exact e
        · rw[upd_ne z]
          exact kk c oo h1 (by rw[upd_ne z];exact s4 _ _ e)
      have s6:Same H (upd H5 a.fa (.dK kv)):=fun c oo e=>keep6 (s3 _ _ e) (ne_of_none e (frs _ ofa));have o6:=keep6 o3 (ne_of o3 f3' (by intro z;cases z));have e61:=keep6 e31 (ne_of e31 f3' (by intro z;cases z));have e62:=keep6 e32 (ne_of e32 f3' (by intro z;cases z));generalize upd H5 a.fa (.dK kv)=H6 at s6 o6 e61 e62;have F6:=F.same s6;obtain⟨dxd,hod⟩:=F6.ob;obtain⟨kl,m1,_⟩:=F6.ln;refine⟨_,rfl,a.f,A.a_House,dxd,_,_,rfl,hod,T.K_House,T.n_House_lengths,flds_l _ _ _,a.la,kl,rfl,m1,fun d2 hd2=> ?_⟩;have s7:=Same.upd (o:= .dK kl) hd2;have o7:=s7 _ _ o6;refine⟨_,rfl,a'.f,A.a_House,dx1,_,rfl,o7,T.K_House,T.n_House_lengths,Nat.lt_of_le_of_lt (flds_len _ _ _) (by decide),?_⟩;rw[flds_len2];generalize upd H6 d2 (.dK kl)=H7 at s7 o7;have hod7:=s7 _ _ hod;have naf:a.f≠a'.f:=ne_of_none ho (frs _ of);refine⟨_,rfl,a.f,A.a_House,dxd,_,_,rfl,(by rw[upd_ne naf];exact hod7),T.K_House,T.n_House_peak,flds_k _ _ _,?_⟩;refine⟨_,rfl,a'.f,A.a_House,dx1,_,rfl,upd_same,T.K_House,T.n_House_peak,Nat.lt_of_le_of_lt (flds_len _ _ _) (by decide),?_⟩;rw[flds_peak];refine⟨_,rfl,q a'.f l1 l2 _ (frs _ of) fl1 fl2 ⟨⟨dx1,_,upd_same⟩,?_,?_,n12⟩ fun c oo e=> ?_⟩
      · rw[upd_ne n1f.symm,upd_ne n1f.symm]
        exact s7 _ _ e61
      · rw[upd_ne n2f.symm,upd_ne n2f.symm]
        exact s7 _ _ e62
      · have hc:=ne_of_none e (frs _ of)
        rw[upd_ne hc,upd_ne hc];exact s7 _ _ (s6 _ _ e)
end
end My
namespace My
open PySem L2 PyProof.Rows
abbrev kOut:Key:=Sum.inr "outer"
abbrev kMny:Key:=Sum.inr "many"
abbrev kOwn:Key:=Sum.inr "own"
def kvR(t m:Nat)(ow:Addr):List (Key×V):=[(kOut,.int t),(kMny,.int m),(kOwn,.ref ow)]
theorem kvR_o(t m:Nat)(ow:Addr):valV (kvR t m ow) kOut=some (.int t):=valV_pos rfl
theorem kvR_m(t m:Nat)(ow:Addr):valV (kvR t m ow) kMny=some (.int m):=(valV_neg (show ¬kOut=kMny by decide+kernel)).trans (valV_pos rfl)
theorem kvR_w(t m:Nat)(ow:Addr):valV (kvR t m ow) kOwn=some (.ref ow):=(valV_neg (show ¬kOut=kOwn by decide+kernel)).trans ((valV_neg (show ¬kMny=kOwn by decide+kernel)).trans (valV_pos rfl))
structure RwAt (H:Hp) (d ow:Addr) (t m:Nat) (own:List Nat):Prop where
  ob:H d=some (.dK (kvR t m ow))
  tl:H ow=some (.lst (own.map nV))
section
variable{H H' :Hp}{d ow:Addr}{t m:Nat}{own:List Nat}
theorem RwAt.kept(h:RwAt H d ow t m own)(k:∀c o,(c=d∨c=ow)→H c=some o→H' c=some o):RwAt H' d ow t m own:=⟨k _ _ (.inl rfl) h.ob,k _ _ (.inr rfl) h.tl⟩
theorem RwAt.same(h:RwAt H d ow t m own)(s:Same H H'):RwAt H' d ow t m own:=h.kept fun c o _ e=>s c o e
theorem RwAt.getO (h:RwAt H d ow t m own):DGet H d (.str "outer") (some (.int t)):=by
  have:=DGet.k (k:=kOut) h.ob;rw[kvR_o] at this;exact this
theorem RwAt.getM (h:RwAt H d ow t m own):DGet H d (.str "many") (some (.int m)):=by
  have:=DGet.k (k:=kMny) h.ob;rw[kvR_m] at this;exact this
theorem RwAt.getW (h:RwAt H d ow t m own):DGet H d (.str "own") (some (.ref ow)):=by
  have:=DGet.k (k:=kOwn) h.ob;rw[kvR_w] at this;exact this
theorem RwAt.apart(h:RwAt H d ow t m own){l:Addr}{xs:List V}(e:H l=some (.lst xs)):d≠l:=ne_of h.ob e (by intro z;cases z)
end
theorem stand_oV {ts:List (Option Nat)} {n:Nat} (h:n<ts.length):decide (oV ts[n]= .non)=standB ts (n:Int):=by
  unfold standB;rw[decide_eq_true (show(0:Int)≤n by omega),Int.toNat_natCast,Bool.true_and,show ts[n]? =some ts[n] by simp[h]]
  cases ts[n] with
  |none=>rfl
  |some j=>rfl
theorem stand_at {ts:List (Option Nat)} {t:Nat} (h:ts[t]? =some none):standB ts (t:Int)=true:=by
  unfold standB;rw[decide_eq_true (show(0:Int)≤t by omega),Int.toNat_natCast,h];rfl
theorem stand_get {ts:List (Option Nat)} {n:Nat} (h:standB ts (n:Int)=true):ts[n]? =some none:=by
  unfold standB at h;rw[Bool.and_eq_true,Int.toNat_natCast] at h;exact eq_of_beq h.2
def tdR:TS:=fun D σ H=>∃(x2 x5:Option V) (d ha tk dr ow le:Addr) (t m:Nat) (own E:List Nat) (ps ts:List (Option Nat)),σ=[some (.ref d),some (.ref dr),x2,some (.ref le),x5]∧ModAt H d ha tk ps ts∧RwAt H dr ow t m own∧H le=some (.lst (E.map nV))∧ps.length≤100∧ts.length≤100∧own.length≤1000∧ow≠ha∧ow≠tk∧le≠ha∧le≠tk∧le≠ow∧
  ∀tp H',H' tp=some (.tup [.int ps.length,.ref le])→H' le=some (.lst (E.map nV))→ModAt H' d ha tk (ps++[some t]) (ts++[none])→RwAt H' dr ow t m (own++[ps.length])→(∀c o,c≠ha→c≠tk→c≠ow→H c=some o→H' c=some o)→D.rt (.ref tp) H'
section
variable{P:Program}{w:World}{K:PySem.W.Frag}{mg:Str→Option Value}{base:Heap}{A:Adr}
def spLFrames:Sp:=fun vs H Q _=>∃d ha tk dr ow,∃(t m:Nat) (own:List Nat) (ps ts:List (Option Nat)),vs=[.ref d,.ref dr]∧ModAt H d ha tk ps ts∧RwAt H dr ow t m own∧(∀n∈own,n<ts.length)∧own.length≤1000∧
  ∀l H',H l=none→Same H H'→H' l=some (.lst ((frR ts own).map nV))→Q (.ref l) H'
theorem ok__law_frames (T:Txt K mg A):FnOk P w K mg base CX0 1 A.a__law_frames A.d__law_frames ["_law_model","_law_ring"] spLFrames:=by
  refine T.F__law_frames.ok sc__law_frames (fun vs H Q E h=> ?_) (fun cdv Ar outer s H vs Q E hr h=> ?_)
  · obtain⟨d,ha,tk,dr,ow,t,m,own,ps,ts,rfl,_⟩:=h
    rfl
  · obtain⟨d,ha,tk,dr,ow,t,m,own,ps,ts,rfl,M,R,hlt,ho1,k⟩:=h
    have hu:=hu_of hr;refine⟨_,(pss_one (ps_ret (pe_comp (N:=["_law_k","_law_model"]) (k:=1) (js:=[0]) rfl (cscope_of (by kernel_rfl)) (pi_list (pe_dget hu (pv 1) pe_str (fun _ _=>rfl))) (fun _ _ _ _ _=>⟨(pg_name (i:=0) (show(["_law_k","_law_model"]:List Str).Nodup by decide+kernel) rfl (Or.inl rfl) (Or.inr rfl)),(pif1 (pt_cmpR op_isN (pe_ix (ix_listK (K:=K) rfl) (pe_dget hu (pv 1) pe_str (fun _ _=>rfl)) (pv 0) (fun _ _=>rfl)) pe_non (nomark _))),(pv 0)⟩)))),?_⟩;refine⟨_,rfl,dr,_,rfl,R.getW,ow,rfl,⟨_,SqL.of R.tl⟩,?_⟩;have hOl:(own.map nV).length=own.length:=List.length_map ..;refine comp_grow (fun i=>standB ts ((own.getD i 0:Nat):Int)) (fun i=>nV (own.getD i 0)) (feeds_list (SqL.of R.tl)).g ?_ ?_ fun l H2 hl2 s2 hL=> ?_
    · rw[hOl]
      exact Nat.le_trans ho1 (by decide)
    · intro i x H' C1 C0 hi sm hx c1 c0
      rw[hOl] at hi;rw[List.getElem?_map] at hx;have en:own[i]? =some (own.getD i 0):=by rw[List.getD_eq_getElem?_getD];simp[hi]
      rw[en] at hx;cases hx;have hn:=hlt _ (List.mem_of_getElem? en);generalize own.getD i 0=n at c1 c0 hn;have M' :=M.same sm;refine⟨(SubS.refl _).own (by decide),_,rfl,d,_,rfl,M'.getT,_,rfl,tk,_,_,_,rfl,rfl,SqL.of M'.tl,at_map (show ts[n]? =some ts[n] by simp[hn]),rfl,_,rfl,?_⟩;rw[stand_oV hn]
      cases hd:standB ts (n:Int) with
      |true=>exact iteT ⟨_,rfl,c1 hd H' (Same.refl H')⟩
      |false=>exact iteF (c0 hd H' (Same.refl H'))
    · rw[hOl] at hL
      refine k l H2 hl2 s2 ?_;rw[hL];exact congrArg (fun z=>some (HO.lst z)) (range_filter own (fun n=>standB ts (n:Int)) nV)
def spLTurned:Sp:=fun vs H Q _=>∃d ha tk dr ow,∃(t m:Nat) (own:List Nat) (ps ts:List (Option Nat)),vs=[.ref d,.ref dr]∧ModAt H d ha tk ps ts∧RwAt H dr ow t m own∧WF ps ts∧ps.length≤100∧(∀n∈own,n<ts.length)∧own.length≤1000∧1≤m∧ow≠ha∧ow≠tk∧
  ∀tp le H',H' tp=some (.tup [.int ps.length,.ref le])→H' le=some (.lst ((turnE ps ts own m).map nV))→ModAt H' d ha tk (ps++[some t]) (turnT ps ts own m++[none])→RwAt H' dr ow t m (own++[ps.length])→(∀c o,c≠ha→c≠tk→c≠ow→H c=some o→H' c=some o)→Q (.ref tp) H'
theorem ok__law_turned (T:Txt K mg A):FnOk P w K mg base CX0 3 A.a__law_turned A.d__law_turned ["_law_model","_law_ring"] spLTurned:=by
  have G__law_frames:FnOk P w K mg base CX0 2 A.a__law_frames A.d__law_frames ["_law_model","_law_ring"] spLFrames:=(ok__law_frames T).mono (by decide);have G__law_finish:FnOk P w K mg base CX0 2 A.a__law_finish A.d__law_finish ["_law_model","_law_frame"] spLFinish:=ok__law_finish T;have G__law_begin:FnOk P w K mg base CX0 2 A.a__law_begin A.d__law_begin ["_law_model","_law_frame"] spLBegin:=(ok__law_begin T).mono (by decide);refine T.F__law_turned.ok sc__law_turned (fun vs H Q E h=> ?_) (fun cdv Ar outer s H vs Q E hr h=> ?_)
  · obtain⟨d,ha,tk,dr,ow,t,m,own,ps,ts,rfl,_⟩:=h
    rfl
  · obtain⟨d,ha,tk,dr,ow,t,m,own,ps,ts,rfl,M,R,W,hle,hlt,ho1,m1,n1,n2,k⟩:=h
    have hu:=hu_of hr;have hl:=W.len;refine⟨_,(pss_cons (ps_set (i:=2) sc__law_turned.nd rfl (Or.inl rfl) (pe_call G__law_frames hr rfl T.m__law_frames T.F__law_frames.kp T.b__law_frames .nil pass0 (pa_cons (pv 0) (pa_cons (pv 1) pa_nil)))) (pss_cons (ps_set (i:=3) sc__law_turned.nd rfl (Or.inl rfl) (pe_lst pa_nil)) (pss_cons (ps_if (pt_cmpR op_eq (pe_callB call_len_seq (by rfl) T.z_len Boot.«len» (pa_cons (pv 2) pa_nil)) (pe_dget hu (pv 1) pe_str (fun _ _=>rfl)) (nomark _)) (pss_one (ps_set (i:=3) sc__law_turned.nd rfl (Or.inl rfl) (pe_call G__law_finish hr rfl T.m__law_finish T.F__law_finish.kp T.b__law_finish .nil pass0 (pa_cons (pv 0) (pa_cons (pe_ix ix_list (pv 2) pe_int (fun _ _=>rfl)) pa_nil))))) pss_nil) (pss_imp (tdR) (pss_cons (ps_set (i:=4) sc__law_turned.nd rfl (Or.inl rfl) (pe_call G__law_begin hr rfl T.m__law_begin T.F__law_begin.kp T.b__law_begin .nil pass0 (pa_cons (pv 0) (pa_cons (pe_dget hu (pv 1) pe_str (fun _ _=>rfl)) pa_nil)))) (pss_cons (ps_expr (pe_bm PySem.F.plainAttrs_list PySem.F.slot_list_append PySem.F.type_list_append mt_append (pe_dget hu (pv 1) pe_str (fun _ _=>rfl)) (pa_cons (pv 4) pa_nil))) (pss_one (ps_ret (pe_tup (pa_cons (pv 4) (pa_cons (pv 3) pa_nil))))))) ?cut3)))),?_⟩
    rotate_left
    case cut3=>
      clear k R M W hle hlt ho1 m1 n1 n2 hl
      rintro D σ H0 ⟨x2,x5,d,ha,tk,dr,ow,le,t,m,own,E,ps,ts,rfl,M,R,eL,hle,hle2,ho1,n1,n2,n3,n4,n5,k⟩
      refine⟨_,rfl,_,rfl,dr,_,rfl,R.getO,d,ha,tk,ps,ts,t,rfl,M,hle,hle2,fun H1 M1 K1=> ?_⟩;have R1:RwAt H1 dr ow t m own:=R.kept fun c o hc e=>K1 c o (by rcases hc with rfl|rfl;exact R.apart M.hl;exact n1) (by rcases hc with rfl|rfl;exact R.apart M.tl;exact n2) e;refine⟨_,rfl,dr,_,rfl,R1.getW,.inl ⟨rfl,_,SqL.of R1.tl⟩,_,rfl,ow,_,_,rfl,rfl,R1.tl,?_,?_⟩
      · rw[List.length_map]
        exact Nat.lt_of_le_of_lt ho1 (by decide)
      refine⟨_,rfl,_,rfl,(show 2≤sizeLine by decide),fun tp htp=> ?_⟩;have nt:tp≠ow:=(ne_of_none upd_same htp).symm;have htp1:H1 tp=none:=by rw[upd_ne nt] at htp;exact htp
      have dow:dr≠ow:=R1.apart R1.tl;refine k tp _ upd_same ?_ ?_ ⟨?_,?_⟩ fun c o h1 h2 h3 e=> ?_
      · have e1:=K1 _ _ n3 n4 eL
        rw[upd_ne (ne_of_none e1 htp1),upd_ne n5];exact e1
      · obtain⟨⟨z,e⟩,e1,e2,n⟩:=M1
        refine⟨⟨z,?_⟩,?_,?_,n⟩
        · rw[upd_ne (ne_of_none e htp1),upd_ne (ne_of e R1.tl (by intro z;cases z))]
          exact e
        · rw[upd_ne (ne_of_none e1 htp1),upd_ne n1.symm]
          exact e1
        · rw[upd_ne (ne_of_none e2 htp1),upd_ne n2.symm]
          exact e2
      · rw[upd_ne (ne_of_none R1.ob htp1),upd_ne dow]
        exact R1.ob
      · rw[upd_ne nt.symm,upd_same,List.map_append]
        rfl
      · have e1:=K1 c o h1 h2 e
        rw[upd_ne (ne_of_none e1 htp1),upd_ne h3];exact e1
    refine⟨_,rfl,_,rfl,d,ha,tk,dr,ow,t,m,own,ps,ts,rfl,M,R,hlt,ho1,fun lo H1 hlo s1 e1=> ?_⟩;refine⟨(show 0≤sizeLine by decide),fun l0 hl0=> ?_⟩;have s2:=Same.upd (o:= .lst []) hl0;have at0:upd H1 l0 (.lst []) l0=some (.lst []):=upd_same;generalize upd H1 l0 (.lst [])=H2 at s2 at0;have s12:=s1.trans s2;have M2:=M.same s12;have R2:=R.same s12;have e2:=s2 _ _ e1;refine⟨_,rfl,lo,_,rfl,.inl (SqL.of e2),_,rfl,dr,_,rfl,R2.getM,rfl,_,rfl,?_⟩;rw[List.length_map];by_cases hm:(frR ts own).length=m
    · rw[decide_eq_true (show V.int ((frR ts own).length:Int)=V.int (m:Int) by rw[hm])]
      refine iteT ?_
      obtain⟨x,rest,hx⟩:∃x rest,frR ts own=x::rest:=by
        cases q:frR ts own with
        |nil=>rw[q] at hm;simp at hm;omega
        |cons x rest=>exact⟨x,rest,rfl⟩
      have eX:turnX ts own=x:=by unfold turnX;rw[hx];rfl
      have eE:turnE ps ts own m=finM ps ts x:=by unfold turnE;rw[if_pos hm,eX]
      have eT:turnT ps ts own m=setM x (finM ps ts x) ts:=by unfold turnT;rw[if_pos hm,eX]
      have ea:atI ((frR ts own).map nV) (0:Int)=some (nV x):=by rw[hx];exact atI_nat (xs:=(x::rest).map nV) (j:=0) (v:=nV x) rfl
      refine⟨_,rfl,_,rfl,lo,_,0,nV x,rfl,rfl,SqL.of e2,ea,d,ha,tk,ps,ts,x,rfl,M2,W,fun le H3 hle3 eL M3 K3=> ?_⟩;have R3:RwAt H3 dr ow t m own:=R2.kept fun c o hc e=>K3 c o (by rcases hc with rfl|rfl;exact R2.apart M2.hl;exact n1) (by rcases hc with rfl|rfl;exact R2.apart M2.tl;exact n2) e;refine⟨_,_,d,ha,tk,dr,ow,le,t,m,own,_,ps,_,rfl,M3,R3,eL,hle,by rw[setM_len];omega,ho1,n1,n2,(ne_of_none M2.hl hle3).symm,(ne_of_none M2.tl hle3).symm,(ne_of_none R2.tl hle3).symm,fun tp H' etp eL' M' R' K' => ?_⟩;exact k tp le H' etp (by rw[eE];exact eL') (by rw[eT];exact M') R' fun c o h1 h2 h3 e=>K' c o h1 h2 h3 (K3 c o h1 h2 (s12 c o e))
    · rw[decide_eq_false (show ¬V.int ((frR ts own).length:Int)=V.int (m:Int) from fun z=>hm (by injection z with z;omega))]
      refine iteF ?_;have eE:turnE ps ts own m=[]:=by unfold turnE;rw[if_neg hm]
      have eT:turnT ps ts own m=ts:=by unfold turnT;rw[if_neg hm]
      refine⟨_,_,d,ha,tk,dr,ow,l0,t,m,own,[],ps,ts,rfl,M2,R2,at0,hle,by omega,ho1,n1,n2,(ne_of_none (M.same s1).hl hl0).symm,(ne_of_none (M.same s1).tl hl0).symm,(ne_of_none (R.same s1).tl hl0).symm,fun tp H' etp eL' M' R' K' => ?_⟩;exact k tp l0 H' etp (by rw[eE];exact eL') (by rw[eT];exact M') R' fun c o h1 h2 h3 e=>K' c o h1 h2 h3 (s12 c o e)
end
end My
namespace My
open PySem L2 PyProof.Rows
structure RD where
  r:Addr
  tu:Addr
  d:Addr
  ow:Addr
  t:Nat
  m:Nat
  own:List Nat
def RD.pl(x:RD):List Addr:=[x.r,x.tu,x.d,x.ow]
structure RgOk (A:Adr) (H:Hp) (f:Addr) (ps:List (Option Nat)) (x:RD):Prop where
  R:RgAt A.a_Ring H x.r f x.t x.m x.tu x.own
  W:RwAt H x.d x.ow x.t x.m x.own
  op:∀n∈x.own,ps[n]? =some (some x.t)
  tl:x.t<ps.length
  m1:1≤x.m
  ol:x.own.length≤ps.length
structure Rgs (A:Adr) (H:Hp) (f md:Addr) (ps:List (Option Nat)) (l lr lw:Addr) (xs:List RD) (o:List Addr):Prop where
  hl:H l=some (.lst [.ref f,.ref md,.ref lr,.ref lw])
  hr:H lr=some (.lst (xs.map fun x=> .ref x.r))
  hw:H lw=some (.lst (xs.map fun x=> .ref x.d))
  rg:∀x∈xs,RgOk A H f ps x
  nd:(xs.map RD.tu++xs.map RD.ow).Nodup
  xo:∀x∈xs,∀c∈x.pl,c∈o
  lo:l∈o∧lr∈o∧lw∈o
  ln:∀x∈xs,∀c∈[l,lr,lw],c≠x.tu∧c≠x.ow
  al:∀c∈o,∃q,H c=some q
  xl:1≤xs.length∧xs.length≤3
section
variable{A:Adr}{H H' :Hp}{f md:Addr}{ps ps' :List (Option Nat)}{l lr lw:Addr}{xs:List RD}{o:List Addr}
theorem Rgs.kept (h:Rgs A H f md ps l lr lw xs o) (k:∀c q,c∈o→H c=some q→H' c=some q) (hp:∀(i:Nat) y,ps[i]? =some y→ps'[i]? =some y) (hl:ps.length≤ps'.length):Rgs A H' f md ps' l lr lw xs o:=by
  refine⟨k _ _ h.lo.1 h.hl,k _ _ h.lo.2.1 h.hr,k _ _ h.lo.2.2 h.hw,fun x hx=> ?_,h.nd,h.xo,h.lo,h.ln,fun c hc=>(h.al c hc).imp fun q e=>k c q hc e,h.xl⟩;have g:=h.rg x hx;have xo:=h.xo x hx;refine⟨g.R.kept fun c q hc e=>k c q ?_ e,g.W.kept fun c q hc e=>k c q ?_ e,fun n hn=>hp _ _ (g.op n hn),by have:=g.tl;omega,g.m1,by have:=g.ol;omega⟩
  · rcases hc with rfl|rfl<;>exact xo _ (by simp[RD.pl])
  · rcases hc with rfl|rfl<;>exact xo _ (by simp[RD.pl])
theorem Rgs.same(h:Rgs A H f md ps l lr lw xs o)(s:Same H H'):Rgs A H' f md ps l lr lw xs o:=h.kept (fun c q _ e=>s c q e) (fun _ _ e=>e) (Nat.le_refl _)
theorem Rgs.lt(h:Rgs A H f md ps l lr lw xs o){x:RD}(hx:x∈xs):∀n∈x.own,n<ps.length:=fun n hn=>(List.getElem?_eq_some_iff.mp ((h.rg x hx).op n hn)).1
theorem nd_apart {xs:List RD} (nd:(xs.map RD.tu++xs.map RD.ow).Nodup) {i j:Nat} {x y:RD} (hi:xs[i]? =some x) (hj:xs[j]? =some y):(i≠j→x.tu≠y.tu∧x.ow≠y.ow)∧x.tu≠y.ow:=by
  rw[List.nodup_append] at nd;obtain⟨n1,n2,n3⟩:=nd
  have g:∀{α:Type} {l:List α},l.Nodup→∀{a b:α},l[i]? =some a→l[j]? =some b→i≠j→a≠b:=fun hn a b ea eb ne z=>by
    subst z;obtain⟨h1,h1'⟩:=List.getElem?_eq_some_iff.mp ea;obtain⟨h2,h2'⟩:=List.getElem?_eq_some_iff.mp eb;exact ne ((List.getElem_inj hn).mp (h1'.trans h2'.symm))
  have m1:(xs.map RD.tu)[i]? =some x.tu:=by rw[List.getElem?_map,hi];rfl
  have m2:(xs.map RD.tu)[j]? =some y.tu:=by rw[List.getElem?_map,hj];rfl
  have m3:(xs.map RD.ow)[i]? =some x.ow:=by rw[List.getElem?_map,hi];rfl
  have m4:(xs.map RD.ow)[j]? =some y.ow:=by rw[List.getElem?_map,hj];rfl
  exact⟨fun ne=>⟨g n1 m1 m2 ne,g n2 m3 m4 ne⟩,n3 _ (List.mem_of_getElem? m1) _ (List.mem_of_getElem? m4)⟩
theorem Rgs.turned (h:Rgs A H f md ps l lr lw xs o) {j:Nat} {x:RD} (hj:xs[j]? =some x) (hps:∀(i:Nat) y,ps[i]? =some y→ps'[i]? =some y) (hp1:ps'.length=ps.length+1) (hpn:ps'[ps.length]? =some (some x.t))
    (k:∀c q,c∈o→c≠x.tu→c≠x.ow→H c=some q→H' c=some q) (R' :RgAt A.a_Ring H' x.r f x.t x.m x.tu (x.own++[ps.length])) (W' :RwAt H' x.d x.ow x.t x.m (x.own++[ps.length])):
    Rgs A H' f md ps' l lr lw (xs.set j {x with own:=x.own++[ps.length]}) o:=by
  have hxm:=List.mem_of_getElem? hj;have hjl:j<xs.length:=(List.getElem?_eq_some_iff.mp hj).1
  have mp:∀{β:Type} (g:RD→β),g {x with own:=x.own++[ps.length]}=g x→(xs.set j {x with own:=x.own++[ps.length]}).map g=xs.map g:=fun{β} g e=>by
    rw[List.map_set,e];apply List.ext_getElem?;intro i;by_cases z:j=i
    · subst z
      rw[List.getElem?_set_self (by rw[List.length_map];exact hjl),List.getElem?_map,hj];rfl
    · rw[List.getElem?_set_ne z]
  have me:∀y∈xs.set j {x with own:=x.own++[ps.length]},y={x with own:=x.own++[ps.length]}∨∃i,i≠j∧xs[i]? =some y:=fun y hy=>by
    obtain⟨i,hi⟩:=List.mem_iff_getElem?.mp hy;by_cases z:j=i
    · subst z
      rw[List.getElem?_set_self hjl] at hi;cases hi;exact .inl rfl
    · rw[List.getElem?_set_ne z] at hi
      exact .inr ⟨i,fun q=>z q.symm,hi⟩
  obtain⟨l1,l2⟩:=h.lo;have hln:=h.ln x hxm;refine⟨k _ _ l1 (hln l (by simp)).1 (hln l (by simp)).2 h.hl,?_,?_,fun y hy=> ?_,?_,fun y hy=> ?_,h.lo,fun y hy=> ?_,fun c hc=> ?_,by rw[List.length_set];exact h.xl⟩
  · rw[mp (fun x=>V.ref x.r) rfl]
    exact k _ _ l2.1 (hln lr (by simp)).1 (hln lr (by simp)).2 h.hr
  · rw[mp (fun x=>V.ref x.d) rfl]
    exact k _ _ l2.2 (hln lw (by simp)).1 (hln lw (by simp)).2 h.hw
  · rcases me y hy with rfl|⟨i,hij,hi⟩
    · have g:=h.rg x hxm
      refine⟨R',W',fun n hn=> ?_,?_,g.m1,?_⟩
      · rcases List.mem_append.mp hn with hn|hn
        · exact hps _ _ (g.op n hn)
        · have:n=ps.length:=by simpa using hn
          subst this;exact hpn
      · show x.t<ps'.length
        have:=g.tl;omega
      · show(x.own++[ps.length]).length≤ps'.length
        have:=g.ol;rw[List.length_append];simp;omega
    · have g:=h.rg y (List.mem_of_getElem? hi)
      have xo:=h.xo y (List.mem_of_getElem? hi);have a1:=nd_apart h.nd hi hj;have a2:=nd_apart h.nd hj hi;refine⟨g.R.kept fun c q hc e=> ?_,g.W.kept fun c q hc e=> ?_,fun n hn=>hps _ _ (g.op n hn),by have:=g.tl;omega,g.m1,by have:=g.ol;omega⟩
      · rcases hc with rfl|rfl
        · exact k _ _ (xo _ (by simp[RD.pl])) (g.R.apart (h.rg x hxm).R.tl) (g.R.apart (h.rg x hxm).W.tl) e
        · exact k _ _ (xo _ (by simp[RD.pl])) (a1.1 hij).1 a1.2 e
      · rcases hc with rfl|rfl
        · exact k _ _ (xo _ (by simp[RD.pl])) (g.W.apart (h.rg x hxm).R.tl) (g.W.apart (h.rg x hxm).W.tl) e
        · exact k _ _ (xo _ (by simp[RD.pl])) a2.2.symm (a1.1 hij).2 e
  · rw[mp RD.tu rfl,mp RD.ow rfl]
    exact h.nd
  · rcases me y hy with rfl|⟨i,hij,hi⟩
    · exact h.xo x hxm
    · exact h.xo y (List.mem_of_getElem? hi)
  · rcases me y hy with rfl|⟨i,hij,hi⟩
    · exact hln
    · exact h.ln y (List.mem_of_getElem? hi)
  · obtain⟨q,e⟩:=h.al c hc
    by_cases z1:c=x.tu
    · exact⟨_,z1▸R'.tl⟩
    · by_cases z2:c=x.ow
      · exact⟨_,z2▸W'.tl⟩
      · exact⟨q,k c q hc z1 z2 e⟩
end
end My
namespace My
open PySem L2 PyProof.Rows
section
variable{C:Addr}{H H' :Hp}{a:HA}{m:MA}{ps ts ps' ts' :List (Option Nat)}{L pk:Nat}{R:Rm}{N:Nat}{rs ws ms:List Addr}{cs:List (List V)}
theorem HouseAt.frames3 (h:HouseAt C H a ps ts L pk R N rs cs) (F:FrAt C H' a.f a.pa a.ta ps' ts') (k:∀c o,c∈a.own→c≠a.pa→c≠a.ta→H c=some o→H' c=some o):HouseAt C H' a ps' ts' L pk R N rs cs:=by
  obtain⟨⟨dx,ob⟩,pl,tl,ne,⟨kv,f1,f2,f3,f4⟩,⟨kw,l1,l2,l3⟩,fal,rl,rm,rn,⟨o1,o2,o3,o4,o5⟩,al⟩:=h;have dif:∀{c:Addr} {kv:List (Key×V)},c∈a.own→H c=some (.dK kv)→H' c=some (.dK kv):=fun hc e=>k _ _ hc (ne_of e pl (by intro z;cases z)) (ne_of e tl (by intro z;cases z)) e;refine⟨⟨dx,k _ _ o1 (ne_of ob pl (by intro z;cases z)) (ne_of ob tl (by intro z;cases z)) ob⟩,F.pl,F.tl,ne,⟨kv,dif o4 f1,f2,fun n=> ?_,f4⟩,⟨kw,dif o5 l1,l2,l3⟩,fal,rl,fun i b e=> ?_,rn,⟨o1,o2,o3,o4,o5⟩,fun c hc=> ?_⟩
  · rcases f3 n with h|⟨b,e1,e2,e3,e4,e5⟩
    · exact .inl h
    · exact .inr ⟨b,e1,e2,e3,e4,dif e2 e5⟩
  · obtain⟨e1,e2,e3,vs,e4,e5⟩:=rm i b e
    exact⟨e1,e2,e3,vs,e4,k _ _ e1 e2 e3 e5⟩
  · by_cases z1:c=a.pa
    · exact⟨_,z1▸F.pl⟩
    · by_cases z2:c=a.ta
      · exact⟨_,z2▸F.tl⟩
      · exact(al c hc).imp fun o e=>k c o hc z1 z2 e
theorem ModelAt.frames3 {top:Nat} (M:ModelAt H m ps ts L top R ws ms cs) (F:ModAt H' m.d m.ha m.tk ps' ts') (k:∀c o,c∈m.own→c≠m.ha→c≠m.tk→H c=some o→H' c=some o):ModelAt H' m ps' ts' L top R ws ms cs:=by
  obtain⟨ob,hl,tl,ne,wl,wlen,way,⟨kv,c1,c2,c3⟩,wn,ml,mm,mn,⟨o1,o2,o3,o4,o5⟩,al⟩:=M;refine⟨k _ _ o1 (ne_of ob hl (by intro z;cases z)) (ne_of ob tl (by intro z;cases z)) ob,F.hl,F.tl,ne,k _ _ o4 wn.1 wn.2 wl,wlen,fun i hi=>⟨(way i hi).1,k _ _ (way i hi).1 (ne_of (way i hi).2 hl (by intro z;cases z)) (ne_of (way i hi).2 tl (by intro z;cases z)) (way i hi).2⟩,⟨kv,k _ _ o5 (ne_of c1 hl (by intro z;cases z)) (ne_of c1 tl (by intro z;cases z)) c1,c2,c3⟩,wn,ml,fun i b e=> ?_,mn,⟨o1,o2,o3,o4,o5⟩,fun c hc=> ?_⟩
  · obtain⟨e1,e2,e3,e4,vs,e5,e6⟩:=mm i b e
    exact⟨e1,e2,e3,e4,vs,e5,k _ _ e1 e2 e3 e6⟩
  · by_cases z1:c=m.ha
    · exact⟨_,z1▸F.hl⟩
    · by_cases z2:c=m.tk
      · exact⟨_,z2▸F.tl⟩
      · exact(al c hc).imp fun o e=>k c o hc z1 z2 e
theorem Good.fin (G:Good ps ts L pk R) {t:Nat} (h0:t≠0) (ht:t<ps.length):Good ps (setM t (finM ps ts t) ts) L pk R:=by
  refine⟨G.W.ended ht (finM ps ts t),?_,G.rw,G.lo,G.hi,Nat.le_trans (usedW_finish _ _ _ _) G.use,G.pk⟩;rcases setM_get t (finM ps ts t) ts 0 with h|⟨h,_⟩
  · rw[h]
    exact G.g
  · exact absurd h (fin_zero G.W h0)
theorem Good.beg (G:Good ps ts L pk R) {t:Nat} (ht:t<ps.length) (h100:ps.length≤100):Good (ps++[some t]) (ts++[none]) L pk R:=by
  have hW:=G.W.len;have hpos:=G.W.pos;refine⟨G.W.begun ht h100,?_,fun r hr=> ?_,G.lo,G.hi,?_,G.pk⟩
  · rw[List.getElem?_append_left (by omega)]
    exact G.g
  · obtain⟨r1,r2,r3⟩:=G.rw r hr
    refine⟨r1,r2,?_⟩;rw[List.length_append];omega
  · rw[usedW_begin ts fun r hr=>by have:=(G.rw r hr).2.2;omega]
    exact G.use
theorem Good.turn (G:Good ps ts L pk R) {t n:Nat} {own:List Nat} (ht:t<ps.length) (h100:ps.length≤100) (hop:∀x∈own,ps[x]? =some (some t)) (n1:1≤n):Good (ps++[some t]) (turnT ps ts own n++[none]) L pk R:=by
  refine Good.beg ?_ ht h100;unfold turnT
  split
  · rename_i hm
    cases q:frR ts own with
    |nil=>rw[q] at hm;simp at hm;omega
    | cons x rest=>
      have hxm:x∈frR ts own:=by rw[q];exact List.mem_cons_self
      have hp:=hop x (List.mem_filter.mp hxm).1;have eX:turnX ts own=x:=by unfold turnX;rw[q];rfl
      rw[eX];refine G.fin (fun z=> ?_) (List.getElem?_eq_some_iff.mp hp).1;rw[z,G.W.root] at hp;cases hp
  · exact G
end
theorem ints_nV (S:List Nat):S.map nV=(S.map fun n:Nat=>(n:Int)).map V.int:=by
  rw[List.map_map];rfl
def nD(S:List Nat):List PyData:=(S.map some).map oD
theorem dat_nV {H:Hp} {l:Addr} {S:List Nat} (h:H l=some (.lst (S.map nV))):Dat H (.ref l) (.list (nD S)):=by
  rw[nV_oV] at h;exact .lst h (datAll_oV H _)
theorem fits_oD {o:Option Nat} (h:∀n,o=some n→n≤1000):Fits 5 1 (oD o):=by
  cases o with
  | none=>
    refine⟨?_,?_,?_⟩
    · show(PyData.none).showable=true
      simp only[PyData.showable]
    · show(PyData.none).depth≤1
      simp[PyData.depth]
    · show(PyData.none).shown.length≤5
      simp only[PyData.shown];decide+kernel
  |some n=>exact fits_int (h n rfl)
theorem fits_nD {S:List Nat} (h:∀n∈S,n≤1000) (hl:S.length≤200):Fits 1500 2 (.list (nD S)):=by
  have g:=Fits.list (B:=5) (k:=1) (ds:=nD S) fun d hd=>by
    obtain⟨o,ho,rfl⟩:=List.mem_map.mp hd;obtain⟨n,hn,rfl⟩:=List.mem_map.mp ho;exact fits_oD fun m e=>by cases e;exact h n hn
  have e:(nD S).length=S.length:=by unfold nD;rw[List.length_map,List.length_map]
  rw[e] at g;exact g.mono (by omega) (Nat.le_refl _)
theorem fits_pair {n:Nat} {S:List Nat} (hn:n≤1000) (h:∀n∈S,n≤1000) (hl:S.length≤200):Fits 4000 3 (.tuple [.int n,.list (nD S)]):=by
  refine(Fits.tup (B:=1500) (k:=2) fun e he=> ?_).mono (by show 1500*2+2*2+3≤4000;decide) (Nat.le_refl _);simp only[List.mem_cons,List.not_mem_nil,or_false] at he;rcases he with rfl|rfl
  · exact(fits_int hn).mono (by decide) (by decide)
  · exact fits_nD h hl
theorem fin_small {ps ts:List (Option Nat)} (W:WF ps ts) (t:Nat):(∀n∈finM ps ts t,n≤1000)∧(finM ps ts t).length≤200:=by
  have h1:=W.len;have h2:=W.le;refine⟨fun n hn=> ?_,?_⟩
  · have:=fin_lt hn
    omega
  · have:=fin_len ps ts t
    omega
theorem turn_small {ps ts:List (Option Nat)} (W:WF ps ts) (own:List Nat) (m:Nat):(∀n∈turnE ps ts own m,n≤1000)∧(turnE ps ts own m).length≤200:=by
  unfold turnE
  split
  · exact fin_small W _
  · exact⟨(fun n hn=>nomatch hn),Nat.zero_le _⟩
theorem BoxAt.kept {b:Addr} {k:Nat} {H H' :Hp} (B:BoxAt H b k) (h:∀o,H b=some o→H' b=some o):BoxAt H' b k:=by
  obtain⟨x,y,z,hb,r⟩:=B;exact⟨x,y,z,h _ hb,r⟩
def DPost(A:Adr)(b:Addr)(k:Nat)(H:Hp)(a:HA)(m:MA)(l lr lw:Addr)(o:List Addr)(r N:Nat)(Z:Hp→Prop):Prop:=∀a' m' xs' ps' ts' pk' R' N' rs' ws' ms' cs' H',Two A.a_House H' a' m' ps' ts' 1000 pk' R' N' rs' ws' ms' cs'→Rgs A H' a'.f m'.d ps' l lr lw xs' o→a'.f=a.f→m'.d=m.d→(∀c∈a'.own,c∈a.own∨H c=none)→(∀c∈m'.own,c∈m.own∨H c=none)→(∀c q,c≠b→¬c∈a.own→¬c∈m.own→¬c∈o→H c=some q→H' c=some q)→BoxAt H' b (k+4)→R'.length≤r+1→N'≤N+2→Z H'
structure Wd (A:Adr) (H:Hp) (b:Addr) (k:Nat) (a:HA) (m:MA) (l lr lw:Addr) (xs:List RD) (o:List Addr) (ps ts:List (Option Nat)) (pk:Nat) (R:Rm) (N:Nat) (rs ws ms:List Addr) (cs:List (List V)):Prop where
  B:BoxAt H b k
  Z:Two A.a_House H a m ps ts 1000 pk R N rs ws ms cs
  G:Rgs A H a.f m.d ps l lr lw xs o
  ap:∀c∈o,¬c∈a.own∧¬c∈m.own
  nb:¬b∈a.own∧¬b∈m.own∧¬b∈o
  hR:R.length≤998
  hN:N≤8000
theorem Wd.same{A:Adr}{H H' :Hp}{b:Addr}{k:Nat}{a:HA}{m:MA}{l lr lw:Addr}{xs:List RD}{o:List Addr}{ps ts:List (Option Nat)}{pk:Nat}{R:Rm}{N:Nat}{rs ws ms:List Addr}{cs:List (List V)}(h:Wd A H b k a m l lr lw xs o ps ts pk R N rs ws ms cs)(s:Same H H'):Wd A H' b k a m l lr lw xs o ps ts pk R N rs ws ms cs:=⟨h.B.same s,h.Z.same s,h.G.same s,h.ap,h.nb,h.hR,h.hN⟩
theorem Wd.box {A:Adr} {H H' :Hp} {b:Addr} {k k' :Nat} {a:HA} {m:MA} {l lr lw:Addr} {xs:List RD} {o:List Addr} {ps ts:List (Option Nat)} {pk:Nat} {R:Rm} {N:Nat} {rs ws ms:List Addr} {cs:List (List V)} (h:Wd A H b k a m l lr lw xs o ps ts pk R N rs ws ms cs) (B' :BoxAt H' b k') (q:Kept b H H'):Wd A H' b k' a m l lr lw xs o ps ts pk R N rs ws ms cs:=
  ⟨B',h.Z.kept fun c o' hc e=>q c o' (fun z=>by rcases hc with g|g;exact h.nb.1 (z▸g);exact h.nb.2.1 (z▸g)) e,h.G.kept (fun c o' hc e=>q c o' (fun z=>h.nb.2.2 (z▸hc)) e) (fun _ _ e=>e) (Nat.le_refl _),h.ap,h.nb,h.hR,h.hN⟩
theorem DPost.same{A:Adr}{b:Addr}{k:Nat}{H H1:Hp}{a:HA}{m:MA}{l lr lw:Addr}{o:List Addr}{r N:Nat}{Z:Hp→Prop}(h:DPost A b k H a m l lr lw o r N Z)(s:Same H H1):DPost A b k H1 a m l lr lw o r N Z:=fun a' m' xs' ps' ts' pk' R' N' rs' ws' ms' cs' H' z g ef ed ga gm kp=>h a' m' xs' ps' ts' pk' R' N' rs' ws' ms' cs' H' z g ef ed (fun c hc=>(ga c hc).imp id s.free) (fun c hc=>(gm c hc).imp id s.free) fun c q h1 h2 h3 h4 e=>kp c q h1 h2 h3 h4 (s _ _ e)
theorem DPost.box {A:Adr} {b:Addr} {k k' :Nat} {H H1:Hp} {a:HA} {m:MA} {l lr lw:Addr} {o:List Addr} {r N:Nat} {Z:Hp→Prop} (h:DPost A b k H a m l lr lw o r N Z) (K1:Kept b H H1) {j:Nat} (B1:BoxAt H1 b j) (hk:k'≤k):DPost A b k' H1 a m l lr lw o r N Z:=by
  have fr:∀c,H1 c=none→H c=none:=fun c e=>by
    cases z:H c with
    |none=>rfl
    | some q=>
      by_cases hc:c=b
      · obtain⟨x,y,z',hbx,_⟩:=B1
        rw[hc,hbx] at e;cases e
      · rw[K1 c q hc z] at e
        cases e
  exact fun a' m' xs' ps' ts' pk' R' N' rs' ws' ms' cs' H' z g ef ed ga gm kp B' =>h a' m' xs' ps' ts' pk' R' N' rs' ws' ms' cs' H' z g ef ed (fun c hc=>(ga c hc).imp id (fr c)) (fun c hc=>(gm c hc).imp id (fr c)) (fun c q h1 h2 h3 h4 e=>kp c q h1 h2 h3 h4 (K1 c q h1 e)) (B'.mono (by omega))
def deR(A:Adr):TS:=fun D σ H=>∃(b:Addr) (k:Nat) (a:HA) (m:MA) (l lr lw:Addr) (xs:List RD) (o:List Addr) (ps ts:List (Option Nat)) (pk:Nat) (R:Rm) (N:Nat) (rs ws ms:List Addr) (cs:List (List V)) (act:Int) (j t n:Nat) (x7 x10:Option V),σ=[some (.ref b),some (.ref a.f),some (.ref m.d),some (.ref lr),some (.ref lw),some (.int act),some (.int j),x7,some (.int t),some (.int n),x10]∧Wd A H b k a m l lr lw xs o ps ts pk R N rs ws ms cs∧k≤900∧ts[t]? =some none∧1≤n∧n≤6∧DPost A b k H a m l lr lw o R.length N fun H' =>D.rt (.bl true) H'
def dfR(A:Adr):TS:=fun D σ H=>∃(b:Addr) (k:Nat) (a:HA) (m:MA) (l lr lw:Addr) (xs:List RD) (o:List Addr) (ps ts:List (Option Nat)) (pk:Nat) (R:Rm) (N:Nat) (rs ws ms:List Addr) (cs:List (List V)) (act:Int) (j t:Nat) (x7 x9 x10:Option V),σ=[some (.ref b),some (.ref a.f),some (.ref m.d),some (.ref lr),some (.ref lw),some (.int act),some (.int j),x7,some (.int t),x9,x10]∧Wd A H b k a m l lr lw xs o ps ts pk R N rs ws ms cs∧k≤800∧j<xs.length∧ts[t]? =some none∧DPost A b (k+4) H a m l lr lw o R.length N fun H' =>D.rt (.bl true) H'
end My
namespace My
open PySem L2 PyProof.Rows
section
variable{P:Program}{w:World}{K:PySem.W.Frag}{mg:Str→Option Value}{base:Heap}{A:Adr}
def spDeed(A:Adr):Sp:=fun vs H Q _=>∃b k a m l lr lw xs o ps ts pk R N rs ws ms cs,vs=[.ref b,.ref a.f,.ref m.d,.ref lr,.ref lw]∧Wd A H b k a m l lr lw xs o ps ts pk R N rs ws ms cs∧k≤700∧DPost A b (k+10) H a m l lr lw o R.length N fun H' =>Q (.bl true) H'
theorem ok__law_deed (T:Txt K mg A):FnOk P w K mg base CX0 10 A.a__law_deed A.d__law_deed ["_law_box_here","_law_house_here","_law_model","_law_rings","_law_rows"] (spDeed A):=by
  have G__law_take:FnOk P w K mg base CX0 9 A.a__law_take A.d__law_take ["_law_box_here","_law_many"] spTake:=(ok__law_take T).mono (by decide);have G__law_one:FnOk P w K mg base CX0 9 A.a__law_one A.d__law_one ["_law_box_here","_law_some"] spOne:=(ok__law_one T).mono (by decide);have G__law_standing:FnOk P w K mg base CX0 9 A.a__law_standing A.d__law_standing ["_law_model"] spLStanding:=(ok__law_standing T).mono (by decide);have G__law_frames:FnOk P w K mg base CX0 9 A.a__law_frames A.d__law_frames ["_law_model","_law_ring"] spLFrames:=(ok__law_frames T).mono (by decide);have G__law_turned:FnOk P w K mg base CX0 9 A.a__law_turned A.d__law_turned ["_law_model","_law_ring"] spLTurned:=(ok__law_turned T).mono (by decide);have G__law_finish:FnOk P w K mg base CX0 9 A.a__law_finish A.d__law_finish ["_law_model","_law_frame"] spLFinish:=(ok__law_finish T).mono (by decide);have G__law_begin:FnOk P w K mg base CX0 9 A.a__law_begin A.d__law_begin ["_law_model","_law_frame"] spLBegin:=(ok__law_begin T).mono (by decide);have G__law_used:FnOk P w K mg base CX0 9 A.a__law_used A.d__law_used ["_law_model"] spLUsed:=(ok__law_used T).mono (by decide);have G__law_make:FnOk P w K mg base CX0 9 A.a__law_make A.d__law_make ["_law_model","_law_frame","_law_size"] spLMake:=(ok__law_make T).mono (by decide);have G_Ring_turn:FnOk P w K mg base CX0 9 A.a_Ring_turn A.d_Ring_turn ["self"] (spTurn A):=(ok_Ring_turn T).mono (by decide);have G_Frames_finish:FnOk P w K mg base CX0 9 A.a_Frames_finish A.d_Frames_finish ["self","frame"] (spFinish A.a_House):=(ok_Frames_finish T).mono (by decide);have G_Frames_begin:FnOk P w K mg base CX0 9 A.a_Frames_begin A.d_Frames_begin ["self","frame"] (spBegin A.a_House):=(ok_Frames_begin T).mono (by decide);have G_House_make:FnOk P w K mg base CX0 9 A.a_House_make A.d_House_make ["self","frame","size"] (spMake A.a_House):=(ok_House_make T).mono (by decide);refine T.F__law_deed.ok sc__law_deed (fun vs H Q E h=> ?_) (fun cdv Ar outer s H vs Q E hr h=> ?_)
  · obtain⟨b,k,a,m,l,lr,lw,xs,o,ps,ts,pk,R,N,rs,ws,ms,cs,rfl,_⟩:=h
    rfl
  · obtain ⟨b, k,a,m,l,lr,lw,xs,o,ps,ts,pk,R,N,rs,ws,ms,cs,rfl,V0,hk,q⟩:=h
    have hu:=hu_of hr;have hgd:=hr.gd;have hu0:=hr.units0;have hu1:_+100<cLine:=Nat.lt_of_le_of_lt (Nat.add_le_add_left (by decide:100≤16*9+200) _) (by have:=hr.un;omega);have h0L:(0:Nat)≤sizeLine:=by decide
    refine⟨_,(pss_cons (ps_set (i:=5) sc__law_deed.nd rfl (Or.inl rfl) (pe_call G__law_take hr rfl T.m__law_take T.F__law_take.kp T.b__law_take .nil pass0 (pa_cons (pv 0) (pa_cons pe_int pa_nil)))) (pss_cons (ps_set (i:=6) sc__law_deed.nd rfl (Or.inl rfl) (pe_call G__law_take hr rfl T.m__law_take T.F__law_take.kp T.b__law_take .nil pass0 (pa_cons (pv 0) (pa_cons (pe_callB call_len_seq (by rfl) T.z_len Boot.«len» (pa_cons (pv 3) pa_nil)) pa_nil)))) (pss_cons (ps_set (i:=7) sc__law_deed.nd rfl (Or.inl rfl) (pe_cmpR op_eq (pe_call G__law_take hr rfl T.m__law_take T.F__law_take.kp T.b__law_take .nil pass0 (pa_cons (pv 0) (pa_cons pe_int pa_nil))) pe_int (nomark _))) (pss_cons (ps_set (i:=8) sc__law_deed.nd rfl (Or.inl rfl) (pe_call G__law_one hr rfl T.m__law_one T.F__law_one.kp T.b__law_one .nil pass0 (pa_cons (pv 0) (pa_cons (pe_call G__law_standing hr rfl T.m__law_standing T.F__law_standing.kp T.b__law_standing .nil pass0 (pa_cons (pv 2) pa_nil)) pa_nil)))) (pss_cons (ps_if (PW.pt (pw_and (pt_val (pv 7)) (pw_and1 (pt_cmpR (op_ne_ints hu1) (pe_call G__law_frames hr rfl T.m__law_frames T.F__law_frames.kp T.b__law_frames .nil pass0 (pa_cons (pv 2) (pa_cons (pe_ix ix_list (pv 4) (pv 6) (fun _ _=>rfl)) pa_nil))) (pe_lst pa_nil) (nomark _))))) (pss_one (ps_set (i:=8) sc__law_deed.nd rfl (Or.inl rfl) (pe_ix ix_list (pe_call G__law_frames hr rfl T.m__law_frames T.F__law_frames.kp T.b__law_frames .nil pass0 (pa_cons (pv 2) (pa_cons (pe_ix ix_list (pv 4) (pv 6) (fun _ _=>rfl)) pa_nil))) (pe_un un_neg pe_int) (fun _ _=>rfl)))) pss_nil) (pss_imp (dfR A) (pss_cons (ps_set (i:=9) sc__law_deed.nd rfl (Or.inl rfl) (pe_op op_add pe_int (pe_call G__law_take hr rfl T.m__law_take T.F__law_take.kp T.b__law_take .nil pass0 (pa_cons (pv 0) (pa_cons pe_int pa_nil))))) (pss_cons (ps_if (PW.pt (pw_and (pt_cmpR op_lt (pv 5) pe_int (nomark _)) (pw_and (pt_cmpR op_le (pe_callB call_len_seq (by rfl) T.z_len Boot.«len» (pa_cons (pe_dget hu (pv 2) pe_str (fun _ _=>rfl)) pa_nil)) pe_int (nomark _)) (pw_and1 (pt_cmpR op_isN (pe_ix ix_list (pe_dget hu (pv 2) pe_str (fun _ _=>rfl)) (pe_dget hu (pe_ix ix_list (pv 4) (pv 6) (fun _ _=>rfl)) pe_str (fun _ _=>rfl)) (fun _ _=>rfl)) pe_non (nomark _)))))) (pss_cons (ps_set (i:=10) sc__law_deed.nd rfl (Or.inl rfl) (pe_meth0 (pe_ix ix_list (pv 3) (pv 6) (fun _ _=>rfl)) T.K_Ring T.t_Ring_turn G_Ring_turn hr T.b_Ring_turn .nil pass0)) (pss_cons (ps_if (pt_cmpR op_ne (pe_callB (call_repr hgd hu1) (by rfl) T.z_repr Boot.«repr» (pa_cons (pv 10) pa_nil)) (pe_callB (call_repr hgd hu1) (by rfl) T.z_repr Boot.«repr» (pa_cons (pe_call G__law_turned hr rfl T.m__law_turned T.F__law_turned.kp T.b__law_turned .nil pass0 (pa_cons (pv 2) (pa_cons (pe_ix ix_list (pv 4) (pv 6) (fun _ _=>rfl)) pa_nil))) pa_nil)) (nomark _)) (pss_one (ps_ret pe_bl)) pss_nil) (pss_cons (ps_expr (pe_bm PySem.F.plainAttrs_list PySem.F.slot_list_append PySem.F.type_list_append mt_append (pe_ix ix_tup (pv 10) pe_int (fun _ _=>rfl)) (pa_cons (pv 8) pa_nil))) (pss_one (ps_ret pe_bl))))) pss_nil) (pss_imp (deR A) (pss_cons (ps_if (PW.pt (pw_and (pt_cmpR op_eq (pv 5) pe_int (nomark _)) (pw_and1 (pt_cmpR op_gt (pv 8) pe_int (nomark _))))) (pss_one (ps_ret (pe_cmpR op_eq (pe_callB (call_repr hgd hu1) (by rfl) T.z_repr Boot.«repr» (pa_cons (pe_meth (pv 1) T.K_House T.t_Frames_finish G_Frames_finish hr T.b_Frames_finish .nil pass0 (pa_cons (pv 8) pa_nil)) pa_nil)) (pe_callB (call_repr hgd hu1) (by rfl) T.z_repr Boot.«repr» (pa_cons (pe_call G__law_finish hr rfl T.m__law_finish T.F__law_finish.kp T.b__law_finish .nil pass0 (pa_cons (pv 2) (pa_cons (pv 8) pa_nil))) pa_nil)) (nomark _)))) pss_nil) (pss_imp (deR A) (pss_cons (ps_if (PW.pt (pw_and (pt_cmpR op_lt (pv 5) pe_int (nomark _)) (pw_and1 (pt_cmpR op_le (pe_callB call_len_seq (by rfl) T.z_len Boot.«len» (pa_cons (pe_dget hu (pv 2) pe_str (fun _ _=>rfl)) pa_nil)) pe_int (nomark _))))) (pss_one (ps_ret (pe_cmpR op_eq (pe_callB (call_repr hgd hu1) (by rfl) T.z_repr Boot.«repr» (pa_cons (pe_meth (pv 1) T.K_House T.t_Frames_begin G_Frames_begin hr T.b_Frames_begin .nil pass0 (pa_cons (pv 8) pa_nil)) pa_nil)) (pe_callB (call_repr hgd hu1) (by rfl) T.z_repr Boot.«repr» (pa_cons (pe_call G__law_begin hr rfl T.m__law_begin T.F__law_begin.kp T.b__law_begin .nil pass0 (pa_cons (pv 2) (pa_cons (pv 8) pa_nil))) pa_nil)) (nomark _)))) pss_nil) (pss_imp (deR A) (pss_cons (ps_if (pt_cmpR op_gt (pv 9) (pe_op op_sub pe_int (pe_call G__law_used hr rfl T.m__law_used T.F__law_used.kp T.b__law_used .nil pass0 (pa_cons (pv 2) pa_nil))) (nomark _)) (pss_one (ps_ret pe_bl)) pss_nil) (pss_one (ps_ret (pe_cmpR op_eq (pe_callB (call_repr hgd hu1) (by rfl) T.z_repr Boot.«repr» (pa_cons (pe_meth (pv 1) T.K_House T.t_House_make G_House_make hr T.b_House_make .nil pass0 (pa_cons (pv 8) (pa_cons (pv 9) pa_nil))) pa_nil)) (pe_callB (call_repr hgd hu1) (by rfl) T.z_repr Boot.«repr» (pa_cons (pe_call G__law_make hr rfl T.m__law_make T.F__law_make.kp T.b__law_make .nil pass0 (pa_cons (pv 2) (pa_cons (pv 8) (pa_cons (pv 9) pa_nil)))) pa_nil)) (nomark _))))) ?cut9)) ?cut8)) ?cut7))) ?cut5)))))),?_⟩
    rotate_left
    case cut5=>
      clear q hk V0
      rintro D σ H0 ⟨b,k,a,m,l,lr,lw,xs,o,ps,ts,pk,R,N,rs,ws,ms,cs,act,j,t,x7,x9,x10,rfl,U0,hk,hj,htn,q⟩
      refine⟨_,rfl,b,6,k,rfl,U0.B,by omega,by decide,by decide,fun r5 H1 h0 h1 B1 O1=>⟨1,r5,rfl,rfl,?_⟩⟩;have U:=U0.box B1 O1.kept;have q:DPost A b (k+1) H1 a m l lr lw o R.length N fun H' =>D.rt (.bl true) H' :=q.box O1.kept B1 (by omega);obtain⟨n,en,n1,n6⟩:∃n:Nat,1+r5=(n:Int)∧1≤n∧n≤6:=⟨(1+r5).toNat,by omega,by omega,by omega⟩;change gName 9 (V.int (1+r5)) _ _ _;rw[en];have hl:=U.Z.G.W.len;have hple:=U.Z.G.W.le;have hR:=U.hR;have hN:=U.hN;have hsn:=stand_at htn;obtain⟨o1,o2,o3,o4,o5⟩:=U.Z.h.own5;obtain⟨q1,q2,q3,q4,q5⟩:=U.Z.mo.own5;obtain⟨nb1,nb2,nb3⟩:=U.nb;have next:∀(D' :Ends),D'.rt=D.rt→deR A D' [some (.ref b),some (.ref a.f),some (.ref m.d),some (.ref lr),some (.ref lw),some (.int act),some (.int j),x7,some (.int t),some (.int n),x10] H1:=fun D' e=>⟨b,k+1,a,m,l,lr,lw,xs,o,ps,ts,pk,R,N,rs,ws,ms,cs,act,j,t,n,x7,x10,rfl,U,by omega,htn,n1,n6,by rw[e];exact q⟩;obtain⟨x,hx⟩:∃x,xs[j]? =some x:=⟨xs[j],by simp[hj]⟩;have hxm:=List.mem_of_getElem? hx;have hxd:atI (xs.map fun x=>V.ref x.d) (j:Int)=some (.ref x.d):=atI_nat (by rw[List.getElem?_map,hx];rfl);have hxr:atI (xs.map fun x=>V.ref x.r) (j:Int)=some (.ref x.r):=atI_nat (by rw[List.getElem?_map,hx];rfl);have g:=U.G.rg x hxm;have xo:=U.G.xo x hxm;have hol:=g.ol;have hxt:=g.tl;have hlt:∀n∈x.own,n<ts.length:=fun n hn=>by have:=U.G.lt hxm n hn;omega
      have hxx:ts[x.t]? =some ts[x.t]:=by simp[show x.t<ts.length by omega]
      refine⟨_,rfl,act,4,rfl,rfl,_,rfl,?_⟩;refine ite2 (fun _=> ?_) (fun _=>next _ rfl);refine⟨_,rfl,m.d,_,rfl,U.Z.mo.mod.getH,m.ha,_,rfl,.inl (SqL.of U.Z.mo.hl),_,100,rfl,rfl,_,rfl,?_⟩;rw[List.length_map];by_cases h100:(ps.length:Int)≤100
      rotate_left
      · rw[decide_eq_false h100]
        exact iteF (next _ rfl)
      rw[decide_eq_true h100];refine iteT ?_;refine⟨_,rfl,m.d,_,rfl,U.Z.mo.mod.getT,_,rfl,_,rfl,lw,_,_,_,rfl,rfl,SqL.of U.G.hw,hxd,x.d,_,rfl,g.W.getO,m.tk,_,_,_,rfl,rfl,SqL.of U.Z.mo.tl,at_map hxx,rfl,_,rfl,?_⟩
      cases ej:ts[x.t] with
      |some jj=>exact iteF (next _ rfl)
      | none=>
        rw[ej] at hxx;refine iteT ?_;obtain⟨dxr,hor⟩:=g.R.ob;have npa:x.tu≠a.pa:=fun z=>(U.ap x.tu (xo _ (by simp[RD.pl]))).1 (z▸o2);have nta:x.tu≠a.ta:=fun z=>(U.ap x.tu (xo _ (by simp[RD.pl]))).1 (z▸o3);have nha:x.ow≠m.ha:=fun z=>(U.ap x.ow (xo _ (by simp[RD.pl]))).2 (z▸q2);have ntk:x.ow≠m.tk:=fun z=>(U.ap x.ow (xo _ (by simp[RD.pl]))).2 (z▸q3);refine⟨_,rfl,_,rfl,lr,_,_,_,rfl,rfl,SqL.of U.G.hr,hxr,x.r,dxr,_,rfl,hor,rf_no (by decide+kernel),x.r,a.f,a.pa,a.ta,x.tu,x.t,x.m,x.own,ps,ts,rfl,g.R,U.Z.h.fr,U.Z.G.W,stand_at hxx,by omega,g.op,g.m1,by omega,npa,nta,fun tp le H2 htp hle0 etp ele F2 R2 k2=> ?_⟩;obtain⟨e1,e2⟩:=turn_small U.Z.G.W x.own x.m;obtain⟨gs,gdp,gln⟩:=(fits_pair (n:=ps.length) (by omega) e1 e2).rep (by decide) (by decide);refine⟨_,rfl,_,_,rfl,.tup etp (.cons (.int _) (.cons (dat_nV ele) .nil)),gs,gdp,gln,?_⟩;have inO:∀{c:Addr},c∈o→c≠a.pa∧c≠a.ta∧c≠m.ha∧c≠m.tk:=fun{c} hc=>⟨fun z=>(U.ap c hc).1 (z▸o2),fun z=>(U.ap c hc).1 (z▸o3),fun z=>(U.ap c hc).2 (z▸q2),fun z=>(U.ap c hc).2 (z▸q3)⟩;have tuO:=xo x.tu (by simp[RD.pl]);have owO:=xo x.ow (by simp[RD.pl]);have a1:=nd_apart U.G.nd hx hx;have kO2:∀c v,c∈o→c≠x.tu→H1 c=some v→H2 c=some v:=fun c v hc h1 e=>k2 c v (inO hc).1 (inO hc).2.1 h1 e;have kM2:∀c v,c∈m.own→H1 c=some v→H2 c=some v:=fun c v hc e=>k2 c v (fun z=>U.Z.ap _ o2 (z▸hc)) (fun z=>U.Z.ap _ o3 (z▸hc)) (fun z=>(U.ap x.tu tuO).2 (z▸hc)) e;have M2:ModelAt H2 m ps ts 1000 pk R ws ms cs:=U.Z.mo.kept kM2;have W2:RwAt H2 x.d x.ow x.t x.m x.own:=g.W.kept fun c v hc e=>kO2 c v (by rcases hc with rfl|rfl<;>exact xo _ (by simp[RD.pl])) (by rcases hc with rfl|rfl;exact g.W.apart g.R.tl;exact a1.2.symm) e;have hw2:=kO2 _ _ U.G.lo.2.2 (U.G.ln x hxm lw (by simp)).1 U.G.hw;refine⟨_,rfl,_,rfl,_,rfl,lw,_,_,_,rfl,rfl,SqL.of hw2,hxd,m.d,m.ha,m.tk,x.d,x.ow,x.t,x.m,x.own,ps,ts,rfl,M2.mod,W2,U.Z.G.W,by omega,hlt,by omega,g.m1,nha,ntk,fun tp2 le2 H3 etp2 ele2 M3 W3 k3=> ?_⟩;refine⟨_,_,rfl,.tup etp2 (.cons (.int _) (.cons (dat_nV ele2) .nil)),gs,gdp,gln,rfl,_,rfl,?_⟩;rw[decide_eq_true rfl];refine iteF ?_;have leN:∀{c:Addr} {v:HO},H1 c=some v→le≠c:=fun e z=>by rw[z,e] at hle0;cases hle0
        have leA:¬le∈a.own:=fun z=>by obtain⟨v,e⟩:=U.Z.h.al le z;exact leN e rfl
        have leM:¬le∈m.own:=fun z=>by obtain⟨v,e⟩:=U.Z.mo.al le z;exact leN e rfl
        have leO:¬le∈o:=fun z=>by obtain⟨v,e⟩:=U.G.al le z;exact leN e rfl
        have leB:le≠b:=fun z=>by obtain⟨x,y,zz,e,_⟩:=U.B;exact leN e z
        have etp3:H3 tp=some (.tup [.int ps.length,.ref le]):=k3 tp _ (ne_of etp M2.hl (by intro z;cases z)) (ne_of etp M2.tl (by intro z;cases z)) (ne_of etp W2.tl (by intro z;cases z)) etp;have ele3:=k3 le _ (fun z=>leM (z▸q2)) (fun z=>leM (z▸q3)) (fun z=>leO (z▸owO)) ele;refine⟨_,rfl,tp,_,1,.ref le,rfl,rfl,SqT.of etp3,rfl,.inl ⟨rfl,_,SqL.of ele3⟩,_,rfl,le,_,_,rfl,rfl,ele3,?_,?_⟩
        · rw[List.length_map]
          exact Nat.lt_of_le_of_lt e2 (by decide)
        have kp:∀c v,c≠le→H3 c=some v→upd H3 le (.lst ((turnE ps ts x.own x.m).map nV++[V.int (t:Int)])) c=some v:=fun c v h e=>by rw[upd_ne h];exact e
        generalize upd H3 le (.lst ((turnE ps ts x.own x.m).map nV++[V.int (t:Int)]))=H4 at kp;have kA24:∀c v,c∈a.own→H2 c=some v→H4 c=some v:=fun c v hc e=>kp c v (fun z=>leA (z▸hc)) (k3 c v (fun z=>U.Z.ap c hc (z▸q2)) (fun z=>U.Z.ap c hc (z▸q3)) (fun z=>(U.ap x.ow owO).1 (z▸hc)) e);have h2:HouseAt A.a_House H2 a (ps++[some x.t]) (turnT ps ts x.own x.m++[none]) 1000 pk R N rs cs:=U.Z.h.frames3 F2 fun c v hc h1 h2 e=>k2 c v h1 h2 (fun z=>(U.ap x.tu tuO).1 (z▸hc)) e;have h4:=h2.kept kA24;have m3:ModelAt H3 m (ps++[some x.t]) (turnT ps ts x.own x.m++[none]) 1000 pk R ws ms cs:=M2.frames3 M3 fun c v hc h1 h2 e=>k3 c v h1 h2 (fun z=>(U.ap x.ow owO).2 (z▸hc)) e;have m4:=m3.kept fun c v hc e=>kp c v (fun z=>leM (z▸hc)) e;have kO4:∀c v,c∈o→c≠x.tu→c≠x.ow→H1 c=some v→H4 c=some v:=fun c v hc h1 h2 e=>kp c v (fun z=>leO (z▸hc)) (k3 c v (inO hc).2.2.1 (inO hc).2.2.2 h2 (kO2 c v hc h1 e))
        have R4:RgAt A.a_Ring H4 x.r a.f x.t x.m x.tu (x.own++[ps.length]):=R2.kept fun c v hc e=>by
          have hcO:c∈o:=by rcases hc with rfl|rfl<;>exact xo _ (by simp[RD.pl])
          have hcw:c≠x.ow:=by
            rcases hc with rfl|rfl
            · exact g.R.apart g.W.tl
            · exact a1.2
          exact kp c v (fun z=>leO (z▸hcO)) (k3 c v (inO hcO).2.2.1 (inO hcO).2.2.2 hcw e)
        have W4:RwAt H4 x.d x.ow x.t x.m (x.own++[ps.length]):=W3.kept fun c v hc e=>kp c v (fun z=>leO (z▸(by rcases hc with rfl|rfl<;>exact xo _ (by simp[RD.pl])))) e;have G4:=U.G.turned (ps' :=ps++[some x.t]) hx (fun i y e=>by rw[List.getElem?_append_left (List.getElem?_eq_some_iff.mp e).1];exact e) (by simp) (by simp) kO4 R4 W4;refine q a m _ _ _ pk R N rs ws ms cs H4 ⟨h4,m4,U.Z.G.turn hxt (by omega) g.op g.m1,U.Z.ok,U.Z.ap⟩ G4 rfl rfl (fun c hc=> .inl hc) (fun c hc=> .inl hc) (fun c v _ h1 h2 h3 e=> ?_) ?_ (Nat.le_succ _) (by omega)
        · exact kp c v (fun z=>leN e z.symm) (k3 c v (fun z=>h2 (z▸q2)) (fun z=>h2 (z▸q3)) (fun z=>h3 (z▸owO)) (k2 c v (fun z=>h1 (z▸o2)) (fun z=>h1 (z▸o3)) (fun z=>h3 (z▸tuO)) e))
        · exact(U.B.kept fun v e=>kp b v leB.symm (k3 b v (fun z=>nb2 (z▸q2)) (fun z=>nb2 (z▸q3)) (fun z=>nb3 (z▸owO)) (k2 b v (fun z=>nb1 (z▸o2)) (fun z=>nb1 (z▸o3)) (fun z=>nb3 (z▸tuO)) e))).mono (by omega)
    case cut7=>
      clear q hk V0
      rintro D σ H1 ⟨b,k,a,m,l,lr,lw,xs,o,ps,ts,pk,R,N,rs,ws,ms,cs,act,j,t,n,x7,x10,rfl,U,hk,htn,n1,n6,q⟩
      have hl:=U.Z.G.W.len;have hple:=U.Z.G.W.le;have hR:=U.hR;have hN:=U.hN
      have htl:t<ps.length:=by
        have:=(List.getElem?_eq_some_iff.mp htn).1;omega
      have hsn:=stand_at htn;obtain⟨o1,o2,o3,o4,o5⟩:=U.Z.h.own5;obtain⟨q1,q2,q3,q4,q5⟩:=U.Z.mo.own5;obtain⟨nb1,nb2,nb3⟩:=U.nb;have next:∀(D' :Ends),D'.rt=D.rt→deR A D' [some (.ref b),some (.ref a.f),some (.ref m.d),some (.ref lr),some (.ref lw),some (.int act),some (.int j),x7,some (.int t),some (.int n),x10] H1:=fun D' e=>⟨b,k,a,m,l,lr,lw,xs,o,ps,ts,pk,R,N,rs,ws,ms,cs,act,j,t,n,x7,x10,rfl,U,hk,htn,n1,n6,by rw[e];exact q⟩;refine⟨_,rfl,rfl,_,rfl,?_⟩;refine ite2 (fun _=> ?_) (fun _=>next _ rfl);refine⟨_,rfl,_,0,rfl,rfl,_,rfl,?_⟩;by_cases ht0:(0:Int)<(t:Int)
      · rw[decide_eq_true ht0]
        refine iteT ?_;obtain⟨dx,ho⟩:=U.Z.h.ob;obtain⟨f1,f2⟩:=fin_small U.Z.G.W t;obtain⟨gs,gdp,gln⟩:=(fits_nD f1 f2).rep (by decide) (by decide);refine⟨_,rfl,a.f,dx,_,rfl,ho,flds_no (by decide+kernel),_,rfl,a.f,a.pa,a.ta,ps,ts,t,rfl,U.Z.h.fr,U.Z.G.W,hsn,by omega,fun l7 H7 hl7 hL F7 K7=> ?_⟩;refine⟨_,_,rfl,dat_nV hL,gs,gdp,gln,?_⟩;have m7:ModelAt H7 m ps ts 1000 pk R ws ms cs:=U.Z.mo.kept fun c o hc e=>K7 c o (fun z=>U.Z.ap _ o2 (z▸hc)) (fun z=>U.Z.ap _ o3 (z▸hc)) e;refine⟨_,rfl,_,rfl,m.d,m.ha,m.tk,ps,ts,t,rfl,m7.mod,U.Z.G.W,fun l8 H8 hl8 hL8 M8 K8=> ?_⟩;refine⟨_,_,rfl,dat_nV hL8,gs,gdp,gln,rfl,?_⟩;rw[decide_eq_true rfl];obtain⟨Z8,v8⟩:=U.Z.finish (by omega) htl F7 K7 M8 K8;exact q a m xs _ _ pk R N rs ws ms cs H8 Z8 (U.G.kept (fun c q hc e=>v8 c q (U.ap c hc).1 (U.ap c hc).2 e) (fun _ _ e=>e) (Nat.le_refl _)) rfl rfl (fun c hc=> .inl hc) (fun c hc=> .inl hc) (fun c o _ h1 h2 _ e=>v8 c o h1 h2 e) ((U.B.kept fun o e=>v8 b o nb1 nb2 e).mono (by omega)) (Nat.le_succ _) (by omega)
      · rw[decide_eq_false ht0]
        exact iteF (next _ rfl)
    case cut8=>
      clear q hk V0
      rintro D σ H1 ⟨b,k,a,m,l,lr,lw,xs,o,ps,ts,pk,R,N,rs,ws,ms,cs,act,j,t,n,x7,x10,rfl,U,hk,htn,n1,n6,q⟩
      have hl:=U.Z.G.W.len;have hple:=U.Z.G.W.le;have hR:=U.hR;have hN:=U.hN
      have htl:t<ps.length:=by
        have:=(List.getElem?_eq_some_iff.mp htn).1;omega
      have hsn:=stand_at htn;obtain⟨o1,o2,o3,o4,o5⟩:=U.Z.h.own5;obtain⟨q1,q2,q3,q4,q5⟩:=U.Z.mo.own5;obtain⟨nb1,nb2,nb3⟩:=U.nb;have next:∀(D' :Ends),D'.rt=D.rt→deR A D' [some (.ref b),some (.ref a.f),some (.ref m.d),some (.ref lr),some (.ref lw),some (.int act),some (.int j),x7,some (.int t),some (.int n),x10] H1:=fun D' e=>⟨b,k,a,m,l,lr,lw,xs,o,ps,ts,pk,R,N,rs,ws,ms,cs,act,j,t,n,x7,x10,rfl,U,hk,htn,n1,n6,by rw[e];exact q⟩;refine⟨_,rfl,act,6,rfl,rfl,_,rfl,?_⟩;refine ite2 (fun _=> ?_) (fun _=>next _ rfl);refine⟨_,rfl,m.d,_,rfl,U.Z.mo.mod.getH,m.ha,_,rfl,.inl (SqL.of U.Z.mo.hl),_,100,rfl,rfl,_,rfl,?_⟩;rw[List.length_map];by_cases h100:(ps.length:Int)≤100
      · rw[decide_eq_true h100]
        refine iteT ?_;obtain⟨dx,ho⟩:=U.Z.h.ob;obtain⟨gs,gdp,gln⟩:=(fits_int (n:=ps.length) (by omega)).rep (by decide) (by decide);refine⟨_,rfl,a.f,dx,_,rfl,ho,flds_no (by decide+kernel),_,rfl,a.f,a.pa,a.ta,ps,ts,t,rfl,U.Z.h.fr,hl,hsn,by omega,fun H5 F5 K5=> ?_⟩;refine⟨_,_,rfl,.int _,gs,gdp,gln,?_⟩;have m5:ModelAt H5 m ps ts 1000 pk R ws ms cs:=U.Z.mo.kept fun c o hc e=>K5 c o (fun z=>U.Z.ap _ o2 (z▸hc)) (fun z=>U.Z.ap _ o3 (z▸hc)) e;refine⟨_,rfl,_,rfl,m.d,m.ha,m.tk,ps,ts,t,rfl,m5.mod,by omega,by omega,fun H6 M6 K6=> ?_⟩;refine⟨_,_,rfl,.int _,gs,gdp,gln,rfl,?_⟩;rw[decide_eq_true rfl];obtain⟨Z6,v6⟩:=U.Z.begin htl (by omega) F5 K5 M6 K6;exact q a m xs _ _ pk R N rs ws ms cs H6 Z6 (U.G.kept (fun c q hc e=>v6 c q (U.ap c hc).1 (U.ap c hc).2 e) (fun i y e=>by rw[List.getElem?_append_left (List.getElem?_eq_some_iff.mp e).1];exact e) (by simp)) rfl rfl (fun c hc=> .inl hc) (fun c hc=> .inl hc) (fun c o _ h1 h2 _ e=>v6 c o h1 h2 e) ((U.B.kept fun o e=>v6 b o nb1 nb2 e).mono (by omega)) (Nat.le_succ _) (by omega)
      · rw[decide_eq_false h100]
        exact iteF (next _ rfl)
    case cut9 =>
      clear q hk V0
      rintro D σ H1 ⟨b,k,a,m,l,lr,lw,xs,o,ps,ts,pk,R,N,rs,ws,ms,cs,act,j,t,n,x7,x10,rfl,U,hk,htn,n1,n6,q⟩
      have hl:=U.Z.G.W.len;have hple:=U.Z.G.W.le;have hR:=U.hR;have hN:=U.hN
      have htl:t<ps.length:=by
        have:=(List.getElem?_eq_some_iff.mp htn).1;omega
      have hsn:=stand_at htn;obtain⟨o1,o2,o3,o4,o5⟩:=U.Z.h.own5;obtain⟨q1,q2,q3,q4,q5⟩:=U.Z.mo.own5;obtain⟨nb1,nb2,nb3⟩:=U.nb;refine⟨_,rfl,_,rfl,m,ps,ts,1000,pk,R,ws,ms,cs,rfl,U.Z.mo,U.Z.ok.cz,by omega,fun r hr=>⟨(U.Z.G.rw r hr).2.1,U.Z.rt r hr⟩,fun H2 s2=>⟨1000,_,rfl,rfl,_,_,rfl,rfl,_,rfl,?_⟩⟩;have U2:=U.same s2;have p2:=q.same s2;refine ite2 (fun _=> ?_) (fun hgt=> ?_)
      · exact p2 a m xs ps ts pk R N rs ws ms cs H2 U2.Z U2.G rfl rfl (fun c hc=> .inl hc) (fun c hc=> .inl hc) (fun c q _ _ _ _ e=>e) (U2.B.mono (by omega)) (Nat.le_succ _) (by omega)
      · rw [decide_eq_true_iff] at hgt
        have hle:usedW ts R+n≤1000:=by omega
        obtain⟨dx,ho⟩:=U2.Z.h.ob;have hlu:lenR R t≤1000:=Nat.le_trans (lenR_used R htn) (by omega);have gd:=fits_two (n:=t) (p:=lenR R t) (by omega) hlu;obtain⟨gs,gdp,gln⟩:=gd.rep (by decide) (by decide);refine⟨_,rfl,a.f,dx,_,rfl,ho,flds_no (by decide+kernel),_,rfl,_,rfl,a,ps,ts,1000,pk,R,N,rs,cs,t,n,rfl,U2.Z.h,U.Z.ok.cl,U.Z.G,htn,n1,n6,by omega,by omega,hle,fun oa r H3 l3 F3 sa ga kp3 hl0 hl3=> ?_⟩;refine⟨_,_,rfl,.tup hl3 (.cons (.int _) (.cons (.int _) .nil)),gs,gdp,gln,?_⟩;have M3:ModelAt H3 m ps ts 1000 pk R ws ms cs:=U2.Z.mo.kept fun c o hc e=>kp3 c o (fun z=>U.Z.ap c z hc) e;refine⟨_,rfl,_,rfl,_,rfl,m,ps,ts,1000,pk,R,ws,ms,cs,t,n,rfl,M3,U.Z.ok,by omega,fun r hr=>⟨(U.Z.G.rw r hr).1,(U.Z.G.rw r hr).2.1,U.Z.rt r hr⟩,by omega,n1,n6,fun om wt rr l' H4 M4 sm gm kp4 hl4=> ?_⟩;refine⟨_,_,rfl,.tup hl4 (.cons (.int _) (.cons (.int _) .nil)),gs,gdp,gln,rfl,?_⟩;rw[decide_eq_true rfl];rw[usedW_snoc R n htn] at M4
        have nm:∀c∈oa,¬c∈m.own:=fun c hc z=>by
          rcases ga c hc with h|h
          · exact U.Z.ap c h z
          · obtain⟨o,e⟩:=U2.Z.mo.al c z
            rw[h] at e;cases e
        have F4:HouseAt A.a_House H4 {a with own:=oa} ps ts 1000 (max pk (usedW ts R+n)) (R++[(t,n)]) (N+2) (rs++[r]) (cs++[List.replicate n .non]):=F3.kept fun c o hc e=>kp4 c o (nm c hc) e
        have G4:Good ps ts 1000 (max pk (usedW ts R+n)) (R++[(t,n)]):=by
          refine⟨U.Z.G.W,U.Z.G.g,fun r hr=> ?_,U.Z.G.lo,U.Z.G.hi,by rw[usedW_snoc R n htn];exact hle,by have:=U.Z.G.pk;omega⟩;rcases List.mem_append.mp hr with hr|hr
          · exact U.Z.G.rw r hr
          · simp only[List.mem_singleton] at hr
            subst hr;exact⟨n1,n6,by show t<ps.length;omega⟩
        have ap4:∀c∈oa,¬c∈om:=fun c hc z=>by
          rcases gm c z with h|h
          · exact nm c hc h
          · obtain⟨o,e⟩:=F3.al c hc
            rw[h] at e;cases e
        have kp24:∀c q,¬c∈a.own→¬c∈m.own→H2 c=some q→H4 c=some q:=fun c q h1 h2 e=>kp4 c q h2 (kp3 c q h1 e);refine p2 {a with own:=oa} {m with own:=om} xs ps ts _ (R++[(t,n)]) (N+2) _ (ws++[wt]) _ _ H4 ⟨F4,M4,G4,U.Z.ok.snoc U.Z.mo.wlen,ap4⟩ (U2.G.kept (fun c q hc e=>kp24 c q (U.ap c hc).1 (U.ap c hc).2 e) (fun _ _ e=>e) (Nat.le_refl _)) rfl rfl ga (fun c hc=> ?_) (fun c q _ h1 h2 _ e=>kp24 c q h1 h2 e) ?_ (by rw[List.length_append];exact Nat.le_refl _) (Nat.le_refl _)
        · rcases gm c hc with h|h
          · exact .inl h
          · refine .inr ?_
            cases e:H2 c with
            |none=>rfl
            | some o=>
              by_cases z:c∈a.own
              · obtain⟨o',e'⟩:=F3.al c (sa c z)
                rw[h] at e';cases e'
              · have:=kp3 c o z e
                rw[h] at this;cases this
        · exact(U2.B.kept fun o e=>kp24 b o nb1 nb2 e).mono (by omega)
    have hts:=V0.Z.G.ts;have hl:=V0.Z.G.W.len;refine⟨_,rfl,b,8,k,rfl,V0.B,by omega,by decide,by decide,fun act H1 _ _ B1 O1=> ?_⟩;have V1:=V0.box B1 O1.kept;have xl:=V0.G.xl;refine⟨_,rfl,_,rfl,lr,_,rfl,.inl (SqL.of V1.G.hr),b,_,k+1,rfl,B1,by omega,by rw[List.length_map];omega,by rw[List.length_map];omega,fun at_ H2 a0 a1 B2 O2=> ?_⟩;rw[List.length_map] at a1;obtain⟨j,rfl⟩:∃j:Nat,at_=j:=⟨at_.toNat,by omega⟩;have hj:j<xs.length:=by omega
    refine⟨_,rfl,b,2,k+1+1,rfl,B2,by omega,by decide,by decide,fun r3 H3 _ _ B3 O3=>⟨rfl,?_⟩⟩;generalize decide (V.int r3=V.int 0)=near;have K3:Kept b H H3:=(O1.kept.trans O2.kept).trans O3.kept;have V3:=V0.box B3 K3;refine⟨_,rfl,_,rfl,m.d,m.ha,m.tk,ps,ts,rfl,V3.Z.mo.mod,by omega,fun sl H4 hsl s4 hs4=> ?_⟩
    have hne:standM ts≠[]:=fun z=>by
      have:0∈standM ts:=stand_mem.mpr (by rw[V0.Z.G.g];rfl);rw[z] at this;cases this
    have hslen:(standM ts).length≤1000:=Nat.le_trans (stand_le ts) (by omega);refine⟨b,sl,k+1+1+1,standM ts,rfl,B3.same s4,by omega,hs4,B3.ne hsl,hne,hslen,fun t H5 htm B5 K5=> ?_⟩;have K15:Kept b H H5:=(K3.trans s4.kept).trans K5;have V5:=V0.box B5 K15;have htn:ts[t]? =some none:=eq_of_beq (stand_mem.mp htm);have q5:DPost A b (k+1+1+1+2+4) H5 a m l lr lw o R.length N fun H' =>Q (.bl true) H' :=q.box K15 B5 (by omega)
    have fin:∀(t' :Nat) (H' :Hp),Same H5 H'→ts[t']? =some none→dfR A {nx:=fun _ H' =>Q .non H',rt:=Q} [some (.ref b),some (.ref a.f),some (.ref m.d),some (.ref lr),some (.ref lw),some (.int act),some (.int j),some (.bl near),some (.int t'),none,none] H' :=fun t' H' s' h' =>
      ⟨b,k+1+1+1+2,a,m,l,lr,lw,xs,o,ps,ts,pk,R,N,rs,ws,ms,cs,act,j,t',_,_,_,rfl,V5.same s',by omega,hj,h',q5.same s'⟩
    obtain⟨x,hx⟩:∃x,xs[j]? =some x:=⟨xs[j],by simp[hj]⟩;have hxm:=List.mem_of_getElem? hx;have hxd:atI (xs.map fun x=>V.ref x.d) (j:Int)=some (.ref x.d):=atI_nat (by rw[List.getElem?_map,hx];rfl);have g5:=V5.G.rg x hxm;have hlt:∀n∈x.own,n<ts.length:=fun n hn=>by have:=V5.G.lt hxm n hn;omega
    have hol:=g5.ol;have hple:=V0.Z.G.W.le;refine⟨_,rfl,_,rfl,?_⟩
    cases near with
    |false=>exact iteF (iteF (fin t H5 (Same.refl _) htn))
    | true=>
      refine iteT ⟨_,rfl,_,rfl,_,rfl,lw,_,_,_,rfl,rfl,SqL.of V5.G.hw,hxd,m.d,m.ha,m.tk,x.d,x.ow,x.t,x.m,x.own,ps,ts,rfl,V5.Z.mo.mod,g5.W,hlt,by omega,fun l1 H6 hl1 s6 e6=>⟨h0L,fun l0 hl0=> ?_⟩⟩;have s7:=Same.upd (o:= .lst []) hl0;have e7:=s7 _ _ e6;have e7' :=e7;rw[ints_nV] at e7';refine⟨l1,l0,_,[],rfl,rfl,e7',upd_same,_,rfl,?_⟩;have s57:=s6.trans s7;generalize upd H6 l0 (.lst [])=H7 at s57 e7;rcases List.eq_nil_or_concat (frR ts x.own) with h|⟨ini,n,h⟩
      · rw[h]
        exact iteF (fin t H7 s57 htn)
      · have h:frR ts x.own=ini++[n]:=by rw[h,List.concat_eq_append]
        have hnm:n∈frR ts x.own:=by rw[h];simp
        rw[decide_eq_false (show ¬((frR ts x.own).map fun n:Nat=>(n:Int))=[] by rw[h];simp)];refine iteT ?_;have V7:=V5.same s57;refine⟨_,rfl,_,rfl,_,rfl,lw,_,_,_,rfl,rfl,SqL.of V7.G.hw,hxd,m.d,m.ha,m.tk,x.d,x.ow,x.t,x.m,x.own,ps,ts,rfl,V7.Z.mo.mod,(V7.G.rg x hxm).W,hlt,by omega,fun l2 H8 hl2 s8 e8=> ?_⟩;rw[h] at e8;have ea:atI ((ini++[n]).map nV) (-1)=some (nV n):=by rw[List.map_append];exact atI_last _ _
        exact⟨1,rfl,l2,_, -1,nV n,rfl,rfl,SqL.of e8,ea,fin n H8 (s57.trans s8) (stand_get (List.mem_filter.mp hnm).2)⟩
end
end My
namespace My
open PySem L2 PyProof.Rows
theorem keyG{A:Adr}{H:Hp}{t:Addr}{Rr:Nat→Prop}{G:Prop}(E:XK)(key:∀j,Rr j→GoneE A H t j E)(main:(∀j,Rr j→GoneE A H t j E)→G):G:=main key
theorem len4 {σ:L2.St} (h:σ.length=4):∃a b c d,σ=[a,b,c,d]:=by
  match σ,h with
  |[a,b,c,d],_=>exact⟨a,b,c,d,rfl⟩
section
variable{P:Program}{w:World}{K:PySem.W.Frag}{mg:Str→Option Value}{base:Heap}{A:Adr}
def spTouched(C:Addr):Sp:=fun vs H Q _=>∃a ps ts L pk R N rs cs i t,∃o:Option Nat,vs=[.ref a.f,.ref t]∧HouseAt C H a ps ts L pk R N rs cs∧cs.length=R.length∧(∀r∈R,1≤r.2)∧ps.length=ts.length∧i<R.length∧ts[(R.getD i (0,0)).1]? =some o∧H t=some (.tup (wayL (R.getD i (0,0)).1 (placeR R i)))∧∀H',Same H H'→Q (oV o) H'
theorem ok__law_touched (T:Txt K mg A):FnOk P w K mg base CX0 8 A.a__law_touched A.d__law_touched ["_law_house_here","_law_way"] (spTouched A.a_House):=by
  have G_House_size:FnOk P w K mg base (CX1 P w) 7 A.a_House_size A.d_House_size ["self","way"] (spOr (spSize A.a_House) (spGoneX A 0)):=(ok_House_size T).toX.or (ok_House_sizeX T);refine T.F__law_touched.ok sc__law_touched (fun vs H Q E h=> ?_) (fun cdv Ar outer s H vs Q E hr h=> ?_)
  · obtain⟨a,ps,ts,L,pk,R,N,rs,cs,i,t,o,rfl,_⟩:=h
    rfl
  · obtain⟨a,ps,ts,L,pk,R,N,rs,cs,i,t,o,rfl,F,hcl,hr1,hl,hi,hst,et,q⟩:=h
    refine⟨_,(pss_cons (ps_set (i:=2) sc__law_touched.nd rfl (Or.inl rfl) pe_non) (pss_cons (ps_tryAs (i:=3) rfl rfl sc__law_touched.nd rfl rfl rfl T.m_Gone T.X_Gone.toExcC (fun E pn W hw=>(pss_one (ps_expr (pe_meth (pv 0) T.K_House T.t_House_size G_House_size hr T.b_House_size .nil (passes_of hw trivial) (pa_cons (pv 1) pa_nil))))) (fun a=>(pss_one (ps_set (i:=2) sc__law_touched.nd rfl (Or.inl rfl) (pe_fldXK (K:=K) rfl (pv 3) rfl))))) (pss_one (ps_ret (pv 2))))),?_⟩;obtain⟨dx,ho⟩:=F.ob;apply keyG (A:=A) (H:=H) (t:=t) (Rr:=fun j=>o=some j)
    case main=>
      intro key;refine⟨_,rfl,a.f,dx,_,rfl,ho,flds_no (by decide+kernel),_,rfl,?_⟩
      cases o with
      | none=>
        exact .inl ⟨a,ps,ts,L,pk,R,N,rs,cs,i,t,cs[i]'(by omega),rfl,F,hr1,hl,⟨hi,hst,et⟩,by simp[show i<cs.length by omega],fun H1 s1=>⟨_,rfl,q H1 s1⟩⟩
      |some j=>exact .inr ⟨a,ps,ts,L,pk,R,N,rs,cs,i,j,t,[],rfl,rfl,F,hr1,hl,⟨hi,hst,et⟩,key j rfl⟩
    case key=>
      intro j hj;subst hj;intro xd H2 s2 hxd;refine⟨A.a_Gone,rfl,T.U_Gone_Gone,fun a' σ' ea hlen=> ?_⟩;obtain⟨y0,y1,y2,y3,rfl⟩:=len4 hlen;exact⟨_,rfl,a',A.a_Gone,xd,false,_,_,rfl,ea,hxd,T.g_Gone,T.n_Gone_by,rfl,⟨_,rfl,q H2 s2⟩⟩
end
end My
namespace My
open PySem L2 PyProof.Rows
open PySem.SeqAt in
theorem lay_oD:∀xs:List (Option Nat),PyData.canLayAll0 (xs.map oD)=true
  |[]=>by simp[PyData.canLayAll0]
  |none::r=>by simp[oD,PyData.canLayAll0,PyData.canLay0,lay_oD r]
  |some n::r=>by simp[oD,PyData.canLayAll0,PyData.canLay0,lay_oD r]
open PySem.SeqAt in
theorem shaped_oD (xs:List (Option Nat)):shaped (.list (xs.map oD))=true:=by
  unfold shaped;rw[Bool.and_eq_true,decide_eq_true_iff];refine⟨by simp only[PyData.canLay0];exact lay_oD xs,?_⟩;have:=depth_all xs;simp only[PyData.depth];omega
open PySem.SeqAt in
theorem mixAll_oD:∀xs:List (Option Nat),noMixAll (xs.map oD) (xs.map oD)=true
  |[]=>by simp[noMixAll]
  |none::r=>by simp[oD,noMixAll,noMix,mixAll_oD r]
  |some n::r=>by simp[oD,noMixAll,noMix,mixAll_oD r]
open PySem.SeqAt in
theorem mix_oD (xs:List (Option Nat)):noMix (.list (xs.map oD)) (.list (xs.map oD))=true:=by
  simp only[noMix];exact mixAll_oD xs
theorem dat_oV (H:Hp) (o:Option Nat):Dat H (oV o) (oD o):=by
  cases o with
  |none=>exact .non
  |some n=>exact .int n
theorem last_oV (S:List Nat):atI ([V.non]++S.map nV) (-1)=some (oV S.getLast?):=by
  rcases List.eq_nil_or_concat S with h|⟨ini,n,h⟩
  · rw[h]
    exact atI_last [] V.non
  · have h:S=ini++[n]:=by rw[h,List.concat_eq_append]
    rw[h,List.map_append,←List.append_assoc,List.getLast?_append];exact atI_last _ _
theorem cut_mem{xs:List V}{lo hi:Option Int}{x:V}(h:x∈cutV xs lo hi):x∈xs:=List.mem_of_mem_drop (List.mem_of_mem_take h)
theorem range_oV (ts:List (Option Nat)):((List.range ts.length).filter fun _=>true).map (fun i=>oV (ts.getD i none))=ts.map oV:=by
  rw[List.filter_eq_self.mpr (fun _ _=>rfl)];apply List.ext_getElem?;intro i;rw[List.getElem?_map,List.getElem?_map];by_cases hi:i<ts.length
  · rw[List.getElem?_range hi,show ts[i]? =some ts[i] by simp[hi]]
    show some (oV (ts.getD i none))=some (oV ts[i]);rw[List.getD_eq_getElem?_getD];simp[hi]
  · rw[List.getElem?_eq_none (by rw[List.length_range];omega),List.getElem?_eq_none (by omega)]
    rfl
theorem scal_oV(o:Option Nat):scal (oV o) (oV o)=true:=by cases o<;>rfl
section
variable{P:Program}{w:World}{K:PySem.W.Frag}{mg:Str→Option Value}{base:Heap}{A:Adr}
def spGreatest(C:Addr):Sp:=fun vs H Q _=>∃a ps ts L pk R N rs cs,vs=[.ref a.f]∧HouseAt C H a ps ts L pk R N rs cs∧Q (.int pk) H
theorem ok_House_greatest (T:Txt K mg A):FnOk P w K mg base CX0 1 A.a_House_greatest A.d_House_greatest ["self"] (spGreatest A.a_House):=by
  refine T.F_House_greatest.ok sc_House_greatest (fun vs H Q E h=> ?_) (fun cdv Ar outer s H vs Q E hr h=> ?_)
  · obtain⟨a,ps,ts,L,pk,R,N,rs,cs,rfl,_⟩:=h
    rfl
  · obtain⟨a,ps,ts,L,pk,R,N,rs,cs,rfl,F,q⟩:=h
    obtain⟨dx,ho⟩:=F.ob;refine⟨_,(pss_one (ps_ret (pe_fld (pv 0) rfl))),?_⟩;exact⟨_,rfl,a.f,A.a_House,dx,_,_,rfl,ho,T.K_House,T.n_House_peak,flds_k _ _ _,q⟩
def spRight(A:Adr):Sp:=fun vs H Q _=>∃a m l lr lw xs o ps ts pk R N rs ws ms cs,vs=[.ref a.f,.ref m.d,.ref lr,.ref lw]∧Two A.a_House H a m ps ts 1000 pk R N rs ws ms cs∧Rgs A H a.f m.d ps l lr lw xs o∧R.length≤1000∧∀H',Same H H'→Q (.bl true) H'
theorem ok__law_right (T:Txt K mg A):FnOk P w K mg base CX0 10 A.a__law_right A.d__law_right ["_law_house_here","_law_model","_law_rings","_law_rows"] (spRight A):=by
  have G__law_frames:FnOk P w K mg base CX0 9 A.a__law_frames A.d__law_frames ["_law_model","_law_ring"] spLFrames:=(ok__law_frames T).mono (by decide);have G__law_standing:FnOk P w K mg base CX0 9 A.a__law_standing A.d__law_standing ["_law_model"] spLStanding:=(ok__law_standing T).mono (by decide);have G__law_used:FnOk P w K mg base CX0 9 A.a__law_used A.d__law_used ["_law_model"] spLUsed:=(ok__law_used T).mono (by decide);have G__law_touched:FnOk P w K mg base CX0 9 A.a__law_touched A.d__law_touched ["_law_house_here","_law_way"] (spTouched A.a_House):=(ok__law_touched T).mono (by decide);have G_Ring_frames:FnOk P w K mg base CX0 9 A.a_Ring_frames A.d_Ring_frames ["self"] (spRFrames A):=(ok_Ring_frames T).mono (by decide);have G_Ring_last:FnOk P w K mg base CX0 9 A.a_Ring_last A.d_Ring_last ["self"] (spRLast A):=(ok_Ring_last T).mono (by decide);have G_Frames_standing:FnOk P w K mg base CX0 9 A.a_Frames_standing A.d_Frames_standing ["self"] (spStanding A.a_House):=(ok_Frames_standing T).mono (by decide);have G_Frames_begun:FnOk P w K mg base CX0 9 A.a_Frames_begun A.d_Frames_begun ["self"] (spBegun A.a_House):=(ok_Frames_begun T).mono (by decide);have G_Frames_ended_by:FnOk P w K mg base CX0 9 A.a_Frames_ended_by A.d_Frames_ended_by ["self","frame"] (spBy A.a_House):=(ok_Frames_ended_by T).mono (by decide);have G_House_used:FnOk P w K mg base CX0 9 A.a_House_used A.d_House_used ["self"] (spUsed A.a_House):=(ok_House_used T).mono (by decide);have G_House_left:FnOk P w K mg base CX0 9 A.a_House_left A.d_House_left ["self"] (spLeft A.a_House):=(ok_House_left T).mono (by decide);have G_House_greatest:FnOk P w K mg base CX0 9 A.a_House_greatest A.d_House_greatest ["self"] (spGreatest A.a_House):=(ok_House_greatest T).mono (by decide);refine T.F__law_right.ok sc__law_right (fun vs H Q E h=> ?_) (fun cdv Ar outer s H vs Q E hr h=> ?_)
  · obtain⟨a,m,l,lr,lw,xs,o,ps,ts,pk,R,N,rs,ws,ms,cs,rfl,_⟩:=h
    rfl
  · obtain ⟨a,m,l,lr,lw,xs,o,ps,ts,pk,R,N,rs,ws,ms,cs,rfl,Z,G,hR,q⟩:=h
    have hu:=hu_of hr;have hgd:=hr.gd;have hu0:=hr.units0;have hu1:_+100<cLine:=Nat.lt_of_le_of_lt (Nat.add_le_add_left (by decide:100≤16*9+200) _) (by have:=hr.un;omega);have h0L:(0:Nat)≤sizeLine:=by decide
    have h1L:(1:Nat)≤sizeLine:=by decide
    have hL:sizeLine=16777216:=by decide
    have hl:=Z.G.W.len;have hple:=Z.G.W.le;have hts:=Z.G.ts;refine⟨_,(pss_cons (ps_for PassesOwn.never rfl (pi_zip rfl T.z_zip (pa_cons (pv 2) (pa_cons (pv 3) pa_nil))) (pg_tup rfl (pgs_cons (pg_name (i:=4) sc__law_right.nd rfl (Or.inl rfl) (Or.inl rfl)) (pgs_cons (pg_name (i:=5) sc__law_right.nd rfl (Or.inl rfl) (Or.inl rfl)) pgs_nil))) (pss_cons (ps_set (i:=6) sc__law_right.nd rfl (Or.inl rfl) (pe_call G__law_frames hr rfl T.m__law_frames T.F__law_frames.kp T.b__law_frames .nil pass0 (pa_cons (pv 1) (pa_cons (pv 5) pa_nil)))) (pss_one (ps_for PassesOwn.never rfl (pi_range1 rfl T.z_range (pa_cons pe_int pa_nil)) (pg_name (i:=7) sc__law_right.nd rfl (Or.inl rfl) (Or.inl rfl)) (pss_cons (ps_set (i:=8) sc__law_right.nd rfl (Or.inl rfl) (pe_meth0 (pv 4) T.K_Ring T.t_Ring_frames G_Ring_frames hr T.b_Ring_frames .nil pass0)) (pss_cons (ps_if (PW.pt (pw_or (pt_cmpR op_ne (pe_callB (call_repr hgd hu1) (by rfl) T.z_repr Boot.«repr» (pa_cons (pv 8) pa_nil)) (pe_callB (call_repr hgd hu1) (by rfl) T.z_repr Boot.«repr» (pa_cons (pv 6) pa_nil)) (nomark _)) (pw_or1 (pt_cmpR op_ne (pe_callB (call_repr hgd hu1) (by rfl) T.z_repr Boot.«repr» (pa_cons (pe_meth0 (pv 4) T.K_Ring T.t_Ring_last G_Ring_last hr T.b_Ring_last .nil pass0) pa_nil)) (pe_callB (call_repr hgd hu1) (by rfl) T.z_repr Boot.«repr» (pa_cons (pe_ix ix_list (pe_op op_cat (pe_lst (pa_cons pe_non pa_nil)) (pv 6)) (pe_un un_neg pe_int) (fun _ _=>rfl)) pa_nil)) (nomark _))))) (pss_one (ps_ret pe_bl)) pss_nil) (pss_one (ps_expr (pe_bm PySem.F.plainAttrs_list PySem.F.slot_list_append PySem.F.type_list_append mt_append (pv 8) (pa_cons pe_int pa_nil)))))))))) (pss_cons (ps_if (PW.pt (pw_or (pt_cmpR op_ne (pe_callB (call_repr hgd hu1) (by rfl) T.z_repr Boot.«repr» (pa_cons (pe_meth0 (pv 0) T.K_House T.t_Frames_standing G_Frames_standing hr T.b_Frames_standing .nil pass0) pa_nil)) (pe_callB (call_repr hgd hu1) (by rfl) T.z_repr Boot.«repr» (pa_cons (pe_call G__law_standing hr rfl T.m__law_standing T.F__law_standing.kp T.b__law_standing .nil pass0 (pa_cons (pv 1) pa_nil)) pa_nil)) (nomark _)) (pw_or1 (pt_cmpR op_ne (pe_meth0 (pv 0) T.K_House T.t_House_used G_House_used hr T.b_House_used .nil pass0) (pe_call G__law_used hr rfl T.m__law_used T.F__law_used.kp T.b__law_used .nil pass0 (pa_cons (pv 1) pa_nil)) (nomark _))))) (pss_one (ps_ret pe_bl)) pss_nil) (pss_cons (ps_if (PW.pt (pw_or (pt_cmpR op_ne (pe_meth0 (pv 0) T.K_House T.t_House_greatest G_House_greatest hr T.b_House_greatest .nil pass0) (pe_dget hu (pv 1) pe_str (fun _ _=>rfl)) (nomark _)) (pw_or1 (pt_cmpR op_ne (pe_meth0 (pv 0) T.K_House T.t_House_left G_House_left hr T.b_House_left .nil pass0) (pe_op op_sub pe_int (pe_call G__law_used hr rfl T.m__law_used T.F__law_used.kp T.b__law_used .nil pass0 (pa_cons (pv 1) pa_nil))) (nomark _))))) (pss_one (ps_ret pe_bl)) pss_nil) (pss_cons (ps_if (pt_cmpR (op_ne_dat hu1) (pe_comp (N:=["_law_k","_law_house_here"]) (k:=1) (js:=[0]) rfl (cscope_of (by kernel_rfl)) (pi_range1 rfl T.z_range (pa_cons (pe_callB call_len_seq (by rfl) T.z_len Boot.«len» (pa_cons (pe_dget hu (pv 1) pe_str (fun _ _=>rfl)) pa_nil)) pa_nil)) (fun _ _ _ _ _=>⟨(pg_name (i:=0) (show(["_law_k","_law_house_here"]:List Str).Nodup by decide+kernel) rfl (Or.inl rfl) (Or.inr rfl)),pif0,(pe_meth (pv 1) T.K_House T.t_Frames_ended_by G_Frames_ended_by hr T.b_Frames_ended_by .nil pass0 (pa_cons (pv 0) pa_nil))⟩)) (pe_dget hu (pv 1) pe_str (fun _ _=>rfl)) (nomark _)) (pss_one (ps_ret pe_bl)) pss_nil) (pss_cons (ps_for PassesOwn.never rfl (pi_list (pe_slice sl_list (pe_dget hu (pv 1) pe_str (fun _ _=>rfl)) (po_some (pe_un un_neg pe_int)) po_none)) (pg_name (i:=9) sc__law_right.nd rfl (Or.inl rfl) (Or.inl rfl)) (pss_one (ps_if (pt_cmpR op_ne (pe_call G__law_touched hr rfl T.m__law_touched T.F__law_touched.kp T.b__law_touched .nil pass0 (pa_cons (pv 0) (pa_cons (pv 9) pa_nil))) (pe_ix ix_list (pe_dget hu (pv 1) pe_str (fun _ _=>rfl)) (pe_ix ix_tup (pv 9) pe_int (fun _ _=>rfl)) (fun _ _=>rfl)) (nomark _)) (pss_one (ps_ret pe_bl)) pss_nil))) (pss_one (ps_ret (pe_cmpR op_eq (pe_meth0 (pv 0) T.K_House T.t_Frames_begun G_Frames_begun hr T.b_Frames_begun .nil pass0) (pe_op op_sub (pe_callB call_len_seq (by rfl) T.z_len Boot.«len» (pa_cons (pe_dget hu (pv 1) pe_str (fun _ _=>rfl)) pa_nil)) pe_int) (nomark _))))))))),?_⟩;refine⟨_,rfl,_,rfl,lr,lw,rfl,⟨_,G.hr⟩,⟨_,G.hw⟩,?_⟩;refine for_zip (K:=K) (a:=lr) (b:=lw) (xs:=xs.map fun x=>V.ref x.r) (ys:=xs.map fun x=>V.ref x.d) (fun i σ H' =>∃(x4 x5 x6 x7 x8:Option V),σ=[some (.ref a.f),some (.ref m.d),some (.ref lr),some (.ref lw),x4,x5,x6,x7,x8,none]∧Same H H') (by simp) ⟨_,_,_,_,_,rfl,Same.refl _⟩ ?_ ?_ ?_
    · rintro i σ H' _ ⟨x4,x5,x6,x7,x8,_,sm⟩
      exact⟨SqL.of (sm _ _ G.hr),SqL.of (sm _ _ G.hw)⟩
    · rintro i y z Tt σ H5 hy hz ⟨x4,x5,x6,x7,x8,rfl,s5⟩ hT
      rw[List.getElem?_map] at hy hz
      cases hx:xs[i]? with
      |none=>rw[hx] at hy;cases hy
      | some x=>
        rw[hx] at hy hz;cases hy;cases hz;have hxm:=List.mem_of_getElem? hx;have s6:=s5.trans (Same.upd (o:= .tup [V.ref x.r,V.ref x.d]) hT);refine⟨Tt,_,rfl,SqT.of upd_same,rfl,_,_,rfl,_,_,rfl,rfl,?_⟩;generalize upd H5 Tt (.tup [V.ref x.r,V.ref x.d])=H6 at s6;have G6:=G.same s6;have Z6:=Z.same s6;have g6:=G6.rg x hxm;have hol:=g6.ol;have hlt:∀n∈x.own,n<ts.length:=fun n hn=>by have:=G6.lt hxm n hn;omega
        have hsm:∀n∈frR ts x.own,n≤1000:=fun n hn=>by have:=hlt n (List.mem_filter.mp hn).1;omega
        have hfl:(frR ts x.own).length≤200:=Nat.le_trans (List.length_filter_le _ _) (by omega);obtain⟨gs,gdp,gln⟩:=(fits_nD hsm hfl).rep (by decide) (by decide);obtain⟨js,jdp,jln⟩:=(fits_oD (o:=(frR ts x.own).getLast?) fun n e=>hsm n (List.mem_of_getLast? e)).rep (by decide) (by decide);refine⟨_,rfl,_,rfl,m.d,m.ha,m.tk,x.d,x.ow,x.t,x.m,x.own,ps,ts,rfl,Z6.mo.mod,g6.W,hlt,by omega,fun ld H7 hld s7 eld=> ?_⟩;refine⟨2,rfl,by decide,by decide,?_⟩;refine for_range (lo:=0) (n:=2) (fun j σ H' =>∃(y7 y8:Option V),σ=[some (.ref a.f),some (.ref m.d),some (.ref lr),some (.ref lw),some (.ref x.r),some (.ref x.d),some (.ref ld),y7,y8,none]∧Same H7 H') ⟨_,_,rfl,Same.refl _⟩ ?_ ?_
        · rintro j σ H8 hj ⟨y7,y8,rfl,s8⟩
          have s68:=s7.trans s8;have G8:=G6.same s68;have Z8:=Z6.same s68;have g8:=G8.rg x hxm;obtain⟨dxr,hor⟩:=g8.R.ob;refine⟨_,rfl,x.r,dxr,_,rfl,hor,rf_no (by decide+kernel),x.r,a.f,a.pa,a.ta,x.tu,x.t,x.m,x.own,ps,ts,rfl,g8.R,Z8.h.fr,hl,by omega,fun lf H9 hlf s9 elf=> ?_⟩;have eld9:=s9 _ _ (s8 _ _ eld);refine⟨_,rfl,_,_,rfl,dat_nV elf,gs,gdp,gln,_,rfl,_,_,rfl,dat_nV eld9,gs,gdp,gln,rfl,_,rfl,?_⟩;rw[decide_eq_true rfl];refine iteF ?_;have g9:=(G8.same s9).rg x hxm;obtain⟨dxr9,hor9⟩:=g9.R.ob;refine⟨_,rfl,x.r,dxr9,_,rfl,hor9,rf_no (by decide+kernel),x.r,a.f,a.pa,a.ta,x.tu,x.t,x.m,x.own,ps,ts,rfl,g9.R,(Z8.same s9).h.fr,hl,by omega,fun H10 s10=> ?_⟩;refine⟨_,_,rfl,dat_oV _ _,js,jdp,jln,h1L,fun l1 hl1=> ?_⟩;have s11:=Same.upd (o:= .lst [V.non]) hl1;refine⟨_,rfl,l1,ld,_,_,rfl,rfl,upd_same,s11 _ _ (s10 _ _ eld9),?_,fun l2 hl2=> ?_⟩
          · rw[List.length_map]
            show 1+_≤sizeLine;omega
          have s12:=Same.upd (o:= .lst ([V.non]++(frR ts x.own).map nV)) hl2;refine⟨1,rfl,l2,_, -1,_,rfl,rfl,SqL.of upd_same,last_oV _,_,_,rfl,dat_oV _ _,js,jdp,jln,rfl,_,rfl,?_⟩;rw[decide_eq_true rfl];refine iteF ?_;have s912:=(s10.trans s11).trans s12;have elf' :=s912 _ _ elf;refine⟨_,rfl,.inl ⟨rfl,_,SqL.of elf'⟩,lf,_,_,rfl,rfl,elf',?_,?_⟩
          · rw[List.length_map]
            omega
          refine⟨_,_,rfl,fun c v e=> ?_⟩;have e8:=s8 _ _ e;rw[upd_ne (ne_of_none e8 hlf)];exact s912 _ _ (s9 _ _ e8)
        · rintro σ H8 ⟨y7,y8,rfl,s8⟩
          exact⟨_,_,_,_,_,rfl,(s6.trans s7).trans s8⟩
    rintro σ H1 ⟨x4,x5,x6,x7,x8,rfl,s1⟩
    have Z1:=Z.same s1;obtain⟨dx1,ho1⟩:=Z1.h.ob;have ssm:∀n∈standM ts,n≤1000:=fun n hn=>by have:=stand_lt hn;omega
    have ssl:(standM ts).length≤200:=Nat.le_trans (stand_le ts) (by omega);obtain⟨gs,gdp,gln⟩:=(fits_nD ssm ssl).rep (by decide) (by decide);refine⟨_,rfl,a.f,dx1,_,rfl,ho1,flds_no (by decide+kernel),a.f,a.pa,a.ta,ps,ts,rfl,Z1.h.fr,by omega,fun sl H2 hsl s2 e2=> ?_⟩;refine⟨_,_,rfl,dat_nV e2,gs,gdp,gln,_,rfl,m.d,m.ha,m.tk,ps,ts,rfl,(Z1.same s2).mo.mod,by omega,fun sl2 H3 hsl2 s3 e3=> ?_⟩;refine⟨_,_,rfl,dat_nV e3,gs,gdp,gln,rfl,_,rfl,?_⟩;rw[decide_eq_true rfl];refine iteF ?_;have Z3:=(Z1.same s2).same s3;obtain⟨dx3,ho3⟩:=Z3.h.ob;have r6:∀r∈R,r.2≤6:=fun r hr=>(Z.G.rw r hr).2.1;have r6t:∀r∈R,r.2≤6∧r.1<ts.length:=fun r hr=>⟨(Z.G.rw r hr).2.1,Z.rt r hr⟩;refine⟨_,rfl,a.f,dx3,_,rfl,ho3,flds_no (by decide+kernel),a,ps,ts,1000,pk,R,N,rs,cs,rfl,Z3.h,r6,by omega,hts,fun H4 s4=> ?_⟩;have Z4:=Z3.same s4;refine⟨_,rfl,m,ps,ts,1000,pk,R,ws,ms,cs,rfl,Z4.mo,Z.ok.cz,by omega,r6t,fun H5 s5=>⟨rfl,_,rfl,?_⟩⟩;rw[decide_eq_true rfl];refine iteF ?_;have Z5:=Z4.same s5;obtain⟨dx5,ho5⟩:=Z5.h.ob;refine⟨_,rfl,a.f,dx5,_,rfl,ho5,flds_no (by decide+kernel),a,ps,ts,1000,pk,R,N,rs,cs,rfl,Z5.h,_,rfl,m.d,_,rfl,Z5.mo.getP,rfl,_,rfl,?_⟩;rw[decide_eq_true rfl];refine iteF ?_;refine⟨_,rfl,a.f,dx5,_,rfl,ho5,flds_no (by decide+kernel),a,ps,ts,1000,pk,R,N,rs,cs,rfl,Z5.h,r6,by omega,hts,fun H6 s6=> ?_⟩;have Z6:=Z5.same s6;refine⟨_,rfl,m,ps,ts,1000,pk,R,ws,ms,cs,rfl,Z6.mo,Z.ok.cz,by omega,r6t,fun H7 s7=>⟨1000,_,rfl,rfl,rfl,_,rfl,?_⟩⟩;rw[decide_eq_true (show V.int (((1000:Nat):Int) - ((usedW ts R:Nat):Int))=V.int (1000 - ((usedW ts R:Nat):Int)) from rfl)];refine iteF ?_;have Z7:=Z6.same s7;have hln:((List.range ts.length).map fun(i:Nat)=>V.int (0+(i:Int))).length=ts.length:=by rw[List.length_map,List.length_range]
    refine⟨_,rfl,m.d,_,rfl,Z7.mo.mod.getT,m.tk,_,rfl,.inl (SqL.of Z7.mo.tl),_,rfl,?_,?_,?_⟩
    · omega
    · rw[List.length_map]
      omega
    rw[List.length_map,Int.toNat_natCast];refine comp_grow (fun _=>true) (fun i=>oV (ts.getD i none)) (feeds_range 0 ts.length H7).g ?_ ?_ fun pc H8 hpc s8 e8=> ?_
    · rw[hln]
      omega
    · intro i x H' C1 C0 hi sm hx c1 c0
      rw[hln] at hi;rw[List.getElem?_map,List.getElem?_range hi] at hx
      obtain rfl:x= .int (i:Int):=by
        have hx:some (V.int (0+(i:Int)))=some x:=hx;rw[Int.zero_add] at hx;cases hx;rfl
      have Z' :=Z7.same sm;obtain⟨dx',ho'⟩:=Z'.h.ob;have hxi:ts[i]? =some (ts.getD i none):=by rw[List.getD_eq_getElem?_getD];simp[hi]
      refine⟨(SubS.refl _).own (by decide),@iteT _ (C0 H') ⟨_,rfl,a.f,dx',_,rfl,ho',flds_no (by decide+kernel),_,rfl,a.f,a.pa,a.ta,ps,ts,i,_,rfl,Z'.h.fr,hl,hxi,c1 rfl H' (Same.refl H')⟩⟩
    rw[hln,range_oV] at e8;have Z8:=Z7.same s8;refine⟨_,rfl,m.d,_,rfl,Z8.mo.mod.getT,_,_,.lst e8 (datAll_oV _ ts),.lst Z8.mo.tl (datAll_oV _ ts),shaped_oD ts,shaped_oD ts,mix_oD ts,_,rfl,?_⟩;rw[PySem.Spec.same_self];refine iteF ?_;refine⟨_,rfl,m.d,_,rfl,Z8.mo.getW,6,rfl,_,rfl,m.wl,_,rfl,SqL.of Z8.mo.wl,fun p hp=>⟨p,rfl,⟨_,SqL.of upd_same⟩,?_⟩⟩;have s9:=Same.upd (o:= .lst (cutV (ws.map V.ref) (some (-6)) none)) hp;have at9:upd H8 p (.lst (cutV (ws.map V.ref) (some (-6)) none)) p=some (.lst (cutV (ws.map V.ref) (some (-6)) none)):=upd_same;generalize upd H8 p (.lst (cutV (ws.map V.ref) (some (-6)) none))=H9 at s9 at9;have Z9:=Z8.same s9;refine for_list (K:=K) (a:=p) (xs:=cutV (ws.map V.ref) (some (-6)) none) (fun i σ H' =>∃(x9:Option V),σ=[some (.ref a.f),some (.ref m.d),some (.ref lr),some (.ref lw),x4,x5,x6,x7,x8,x9]∧Same H9 H') ⟨_,rfl,Same.refl _⟩ ?_ ?_ ?_
    · rintro i σ H' _ ⟨x9,_,sm⟩
      exact SqL.of (sm _ _ at9)
    · rintro i v σ H10 hv ⟨x9,rfl,s10⟩
      obtain⟨t,htm,rfl⟩:=List.mem_map.mp (cut_mem (List.mem_of_getElem? hv));obtain⟨jj,hjj⟩:=List.mem_iff_getElem?.mp htm
      have hjl:jj<R.length:=by
        have:=(List.getElem?_eq_some_iff.mp hjj).1;rw[Z.mo.wlen] at this;exact this
      have Z10:=Z9.same s10;have ew:ws.getD jj 0=t:=by rw[List.getD_eq_getElem?_getD,hjj];rfl
      have et:=(Z10.mo.way jj hjl).2;rw[ew] at et;have hrt:=Z.rt _ (getD_mem hjl);have hst:ts[(R.getD jj (0,0)).1]? =some ts[(R.getD jj (0,0)).1]:=by simp[hrt]
      refine⟨_,rfl,_,rfl,a,ps,ts,1000,pk,R,N,rs,cs,jj,t,_,rfl,Z10.h,Z.ok.cl,Z.r1,hl,hjl,hst,et,fun H11 s11=> ?_⟩;have Z11:=Z10.same s11;refine⟨_,rfl,m.d,_,rfl,Z11.mo.mod.getT,_,rfl,t,_,0,_,rfl,rfl,SqT.of (s11 _ _ et),rfl,m.tk,_,_,_,rfl,rfl,SqL.of Z11.mo.tl,at_map hst,scal_oV _,_,rfl,?_⟩;rw[decide_eq_true rfl];exact iteF ⟨_,rfl,s10.trans s11⟩
    · rintro σ H10 ⟨x9,rfl,s10⟩
      have Z10:=Z9.same s10;obtain⟨dx10,ho10⟩:=Z10.h.ob;refine⟨_,rfl,a.f,dx10,_,rfl,ho10,flds_no (by decide+kernel),a.f,a.pa,a.ta,ps,ts,rfl,Z10.h.fr,_,rfl,m.d,_,rfl,Z10.mo.mod.getH,m.ha,_,rfl,.inl (SqL.of Z10.mo.hl),_,1,rfl,rfl,rfl,?_⟩;rw[List.length_map,decide_eq_true rfl];exact q _ (s1.trans ((s2.trans s3).trans ((s4.trans s5).trans ((s6.trans s7).trans ((s8.trans s9).trans s10)))))
end
end My
namespace My
open PySem L2 PyProof.Rows
theorem stand_pos {ts:List (Option Nat)} (g:ts[0]? =some none) {i n:Nat} (hi:1≤i) (e:(standM ts)[i]? =some n):n≠0:=by
  obtain⟨j,rfl⟩:∃j,i=j+1:=⟨i - 1,by omega⟩
  cases ts with
  |nil=>simp at g
  | cons y r=>
    unfold standM at e;rw[List.length_cons,List.range_succ_eq_map,List.filter_cons_of_pos (by rw[g];rfl),List.getElem?_cons_succ] at e;have hm:=(List.mem_filter.mp (List.mem_of_getElem? e)).1;obtain⟨k,_,rfl⟩:=List.mem_map.mp hm;exact Nat.succ_ne_zero k
section
variable{P:Program}{w:World}{K:PySem.W.Frag}{mg:Str→Option Value}{base:Heap}{A:Adr}
def spTwinned(C:Addr):Sp:=fun vs H Q _=>∃a ps ts pk R N rs cs,vs=[.ref a.f]∧HouseAt C H a ps ts 1000 pk R N rs cs∧Good ps ts 1000 pk R∧R.length≤1000∧N≤9000∧∀H',Same H H'→Q .non H'
theorem ok__law_twinned (T:Txt K mg A):FnOk P w K mg base CX0 8 A.a__law_twinned A.d__law_twinned ["_law_house_here"] (spTwinned A.a_House):=by
  have G_House_twin:FnOk P w K mg base CX0 7 A.a_House_twin A.d_House_twin ["self"] (spTwin A.a_House):=(ok_House_twin T).mono (by decide);have G_Frames_standing:FnOk P w K mg base CX0 7 A.a_Frames_standing A.d_Frames_standing ["self"] (spStanding A.a_House):=(ok_Frames_standing T).mono (by decide);have G_Frames_stands:FnOk P w K mg base CX0 7 A.a_Frames_stands A.d_Frames_stands ["self","thing"] (spStands A.a_House):=(ok_Frames_stands T).mono (by decide);have G_Frames_finish:FnOk P w K mg base CX0 7 A.a_Frames_finish A.d_Frames_finish ["self","frame"] (spFinish A.a_House):=ok_Frames_finish T;have G_Frames_begun:FnOk P w K mg base CX0 7 A.a_Frames_begun A.d_Frames_begun ["self"] (spBegun A.a_House):=(ok_Frames_begun T).mono (by decide);have G_Frames_begin:FnOk P w K mg base CX0 7 A.a_Frames_begin A.d_Frames_begin ["self","frame"] (spBegin A.a_House):=ok_Frames_begin T;refine T.F__law_twinned.ok sc__law_twinned (fun vs H Q E h=> ?_) (fun cdv Ar outer s H vs Q E hr h=> ?_)
  · obtain⟨a,ps,ts,pk,R,N,rs,cs,rfl,_⟩:=h
    rfl
  · obtain ⟨a,ps,ts,pk,R,N,rs,cs,rfl,F,G,hR,hN,q⟩:=h
    have hl:=G.W.len;have hple:=G.W.le;obtain⟨dx,ho⟩:=F.ob;refine⟨_,(pss_cons (ps_set (i:=1) sc__law_twinned.nd rfl (Or.inl rfl) (pe_meth0 (pv 0) T.K_House T.t_House_twin G_House_twin hr T.b_House_twin .nil pass0)) (pss_cons (ps_for PassesOwn.never rfl (pi_list (pe_rev0 (pe_meth0 (pv 0) T.K_House T.t_Frames_standing G_Frames_standing hr T.b_Frames_standing .nil pass0) pe_int (pe_un un_neg pe_int))) (pg_name (i:=2) sc__law_twinned.nd rfl (Or.inl rfl) (Or.inl rfl)) (pss_one (ps_if (pt_val (pe_meth (pv 1) T.K_House T.t_Frames_stands G_Frames_stands hr T.b_Frames_stands .nil pass0 (pa_cons (pv 2) pa_nil))) (pss_one (ps_expr (pe_meth (pv 1) T.K_House T.t_Frames_finish G_Frames_finish hr T.b_Frames_finish .nil pass0 (pa_cons (pv 2) pa_nil)))) pss_nil))) (pss_one (ps_if (pt_cmpR op_lt (pe_meth0 (pv 1) T.K_House T.t_Frames_begun G_Frames_begun hr T.b_Frames_begun .nil pass0) pe_int (nomark _)) (pss_one (ps_expr (pe_meth (pv 1) T.K_House T.t_Frames_begin G_Frames_begin hr T.b_Frames_begin .nil pass0 (pa_cons pe_int pa_nil)))) pss_nil)))),?_⟩;refine⟨_,rfl,a.f,dx,_,rfl,ho,flds_no (by decide+kernel),a,ps,ts,1000,pk,R,N,rs,cs,rfl,F,by decide,by decide,by omega,by omega,by omega,by omega,fun f pa ta H1 hf hpa hta F1 s1=> ?_⟩;have Fa:=F.same s1;obtain⟨dxa,hoa⟩:=Fa.ob;refine⟨_,rfl,a.f,dxa,_,rfl,hoa,flds_no (by decide+kernel),a.f,a.pa,a.ta,ps,ts,rfl,Fa.fr,by omega,fun sl H2 hsl s2 e2=> ?_⟩;refine⟨0,rfl,1,rfl,_,rfl,sl,_,rfl,rfl,rfl,SqL.of e2,fun p zs hp hzl hz=>⟨p,rfl,⟨_,SqL.of upd_same⟩,?_⟩⟩;have s3:=Same.upd (o:= .lst zs) hp;have at3:upd H2 p (.lst zs) p=some (.lst zs):=upd_same;generalize upd H2 p (.lst zs)=H3 at s3 at3;have s13:=s2.trans s3;have F3:=F1.same s13;have npa:p≠pa:=(ne_of_none (F1.same s2).pl hp).symm;have nta:p≠ta:=(ne_of_none (F1.same s2).tl hp).symm;refine for_list (K:=K) (a:=p) (xs:=zs) (fun i σ H' =>∃(x2:Option V) (ts' :List (Option Nat)),σ=[some (.ref a.f),some (.ref f),x2]∧FrAt A.a_House H' f pa ta ps ts'∧WF ps ts'∧ts'[0]? =some none∧Kept2 pa ta H3 H') ⟨_,ts,rfl,F3,G.W,G.g,Kept2.refl _ _ _⟩ ?_ ?_ ?_
    · rintro i σ H' _ ⟨x2,ts',_,_,_,_,kk⟩
      exact SqL.of (kk _ _ npa nta at3)
    · rintro i z σ H4 hzi ⟨x2,ts',rfl,F4,W4,g4,kk⟩
      obtain⟨j,hj1,hj⟩:=hz z (List.mem_of_getElem? hzi);rw[List.getElem?_map] at hj
      cases hn:(standM ts)[j]? with
      |none=>rw[hn] at hj;cases hj
      | some n=>
        rw[hn] at hj;cases hj;have n0:=stand_pos G.g hj1 hn;obtain⟨⟨dx4,z4,ho4⟩,_⟩:=id F4;refine⟨_,rfl,f,dx4,_,rfl,ho4,flds_no (by decide+kernel),_,rfl,f,pa,ta,ps,ts',n,rfl,F4,W4.len,_,rfl,?_⟩
        cases hs:standB ts' (n:Int) with
        |false=>exact iteF ⟨_,ts',rfl,F4,W4,g4,kk⟩
        | true=>
          refine iteT ⟨_,rfl,f,dx4,_,rfl,ho4,flds_no (by decide+kernel),_,rfl,f,pa,ta,ps,ts',n,rfl,F4,W4,hs,n0,fun l H5 hl5 eL F5 K5=> ?_⟩;refine⟨_,_,rfl,F5,W4.ended ?_ _,?_,kk.trans K5⟩
          · have:=(List.getElem?_eq_some_iff.mp (stand_get hs)).1
            have:=W4.len;omega
          · rcases setM_get n (finM ps ts' n) ts' 0 with h|⟨h,_⟩
            · rw[h]
              exact g4
            · exact absurd h (fin_zero W4 n0)
    · rintro σ H4 ⟨x2,ts',rfl,F4,W4,g4,kk⟩
      have old:∀{H' :Hp},Kept2 pa ta H3 H'→Same H H' :=fun K' c o e=>K' c o (ne_of_none e hpa) (ne_of_none e hta) (s13 _ _ (s1 _ _ e));obtain⟨⟨dx4,z4,ho4⟩,_⟩:=id F4;refine⟨_,rfl,f,dx4,_,rfl,ho4,flds_no (by decide+kernel),f,pa,ta,ps,ts',rfl,F4,_,100,rfl,rfl,_,rfl,?_⟩;by_cases h100:(ps.length:Int) - 1<100
      · rw[decide_eq_true h100]
        exact iteT ⟨_,rfl,f,dx4,_,rfl,ho4,flds_no (by decide+kernel),f,pa,ta,ps,ts',0,rfl,F4,W4.len,stand_at g4,by omega,fun H5 F5 K5=>q H5 (old (kk.trans K5))⟩
      · rw[decide_eq_false h100]
        exact iteF (q H4 (old kk))
end
end My
namespace My
open PySem L2 PyProof.Rows
theorem wf0:WF [none] [none]:=⟨rfl,by decide,by decide,rfl,fun i h0 hi=>by simp at hi;omega,fun i j e=>by cases i<;>simp at e⟩
theorem good0{L:Nat}(h1:1≤L)(h2:L≤1000):Good [none] [none] L 0 []:=⟨wf0,rfl,(fun r hr=>by cases hr),h1,h2,Nat.zero_le _,Nat.zero_le _⟩
theorem cs0:CsOk [] [] []:=⟨rfl,(fun i vs e=>by cases e),(fun i vs e=>by cases e)⟩
structure Rg0 (A:Adr) (H:Hp) (f:Addr) (ps:List (Option Nat)) (lr lw:Addr) (xs:List RD) (o:List Addr):Prop where
  hr:H lr=some (.lst (xs.map fun x=> .ref x.r))
  hw:H lw=some (.lst (xs.map fun x=> .ref x.d))
  rg:∀x∈xs,RgOk A H f ps x
  nd:(xs.map RD.tu++xs.map RD.ow).Nodup
  xo:∀x∈xs,∀c∈x.pl,c∈o
  lo:lr∈o∧lw∈o
  nw:lr≠lw
  ln:∀x∈xs,∀c∈[lr,lw],c≠x.tu∧c≠x.ow
  al:∀c∈o,∃q,H c=some q
section
variable{A:Adr}{H H' :Hp}{f md:Addr}{ps ps' :List (Option Nat)}{l lr lw:Addr}{xs:List RD}{o:List Addr}
theorem Rg0.kept (h:Rg0 A H f ps lr lw xs o) (k:∀c q,c∈o→H c=some q→H' c=some q) (hp:∀(i:Nat) y,ps[i]? =some y→ps'[i]? =some y) (hl:ps.length≤ps'.length):Rg0 A H' f ps' lr lw xs o:=by
  refine⟨k _ _ h.lo.1 h.hr,k _ _ h.lo.2 h.hw,fun x hx=> ?_,h.nd,h.xo,h.lo,h.nw,h.ln,fun c hc=>(h.al c hc).imp fun q e=>k c q hc e⟩;have g:=h.rg x hx;have xo:=h.xo x hx;refine⟨g.R.kept fun c q hc e=>k c q ?_ e,g.W.kept fun c q hc e=>k c q ?_ e,fun n hn=>hp _ _ (g.op n hn),by have:=g.tl;omega,g.m1,by have:=g.ol;omega⟩
  · rcases hc with rfl|rfl<;>exact xo _ (by simp[RD.pl])
  · rcases hc with rfl|rfl<;>exact xo _ (by simp[RD.pl])
theorem Rg0.snoc (h:Rg0 A H f ps lr lw xs o) {x:RD} (k:∀c q,c∈o→c≠lr→c≠lw→H c=some q→H' c=some q) (hr' :H' lr=some (.lst ((xs.map fun x=> .ref x.r)++[.ref x.r]))) (hw' :H' lw=some (.lst ((xs.map fun x=> .ref x.d)++[.ref x.d])))
    (g:RgOk A H' f ps x) (ft:¬x.tu∈o) (fw:¬x.ow∈o) (ntw:x.tu≠x.ow) (al' :∀c∈x.pl,∃q,H' c=some q):Rg0 A H' f ps lr lw (xs++[x]) (x.pl++o):=by
  have keep:∀y∈xs,RgOk A H' f ps y:=fun y hy=>by
    have gy:=h.rg y hy;have yo:=h.xo y hy;have yn:=h.ln y hy;have r1:=gy.R.apart h.hr;have r2:=gy.R.apart h.hw;have d1:=gy.W.apart h.hr;have d2:=gy.W.apart h.hw;refine⟨gy.R.kept fun c q hc e=> ?_,gy.W.kept fun c q hc e=> ?_,gy.op,gy.tl,gy.m1,gy.ol⟩
    · rcases hc with rfl|rfl
      · exact k _ _ (yo _ (by simp[RD.pl])) r1 r2 e
      · exact k _ _ (yo _ (by simp[RD.pl])) (yn lr (by simp)).1.symm (yn lw (by simp)).1.symm e
    · rcases hc with rfl|rfl
      · exact k _ _ (yo _ (by simp[RD.pl])) d1 d2 e
      · exact k _ _ (yo _ (by simp[RD.pl])) (yn lr (by simp)).2.symm (yn lw (by simp)).2.symm e
  have mem:∀y∈xs++[x],y∈xs∨y=x:=fun y hy=>by
    rcases List.mem_append.mp hy with hy|hy
    · exact .inl hy
    · exact .inr (by simpa using hy)
  refine⟨by rw[List.map_append];exact hr',by rw[List.map_append];exact hw',fun y hy=> ?_,?_,fun y hy c hc=> ?_,⟨List.mem_append_right _ h.lo.1,List.mem_append_right _ h.lo.2⟩,h.nw,fun y hy c hc=> ?_,fun c hc=> ?_⟩
  · rcases mem y hy with hy|rfl
    · exact keep y hy
    · exact g
  · have nt:∀y∈xs,y.tu≠x.tu∧y.tu≠x.ow∧y.ow≠x.tu∧y.ow≠x.ow:=fun y hy=>⟨fun z=>ft (z▸h.xo y hy _ (by simp[RD.pl])),fun z=>fw (z▸h.xo y hy _ (by simp[RD.pl])),fun z=>ft (z▸h.xo y hy _ (by simp[RD.pl])),fun z=>fw (z▸h.xo y hy _ (by simp[RD.pl]))⟩
    have nd:=h.nd;rw[List.nodup_append] at nd;obtain⟨n1,n2,n3⟩:=nd;rw[List.map_append,List.map_append,List.nodup_append];refine⟨List.nodup_append.mpr ⟨n1,by simp,fun p hp q hq=> ?_⟩,List.nodup_append.mpr ⟨n2,by simp,fun p hp q hq=> ?_⟩,fun p hp q hq=> ?_⟩
    · obtain⟨y,hy,rfl⟩:=List.mem_map.mp hp
      have:q=x.tu:=by simpa using hq
      rw[this];exact(nt y hy).1
    · obtain⟨y,hy,rfl⟩:=List.mem_map.mp hp
      have:q=x.ow:=by simpa using hq
      rw[this];exact(nt y hy).2.2.2
    · rcases List.mem_append.mp hp with hp|hp<;>rcases List.mem_append.mp hq with hq|hq
      · exact n3 p hp q hq
      · obtain⟨y,hy,rfl⟩:=List.mem_map.mp hp
        have:q=x.ow:=by simpa using hq
        rw[this];exact(nt y hy).2.1
      · obtain⟨y,hy,rfl⟩:=List.mem_map.mp hq
        have:p=x.tu:=by simpa using hp
        rw[this];exact(nt y hy).2.2.1.symm
      · have e1:p=x.tu:=by simpa using hp
        have e2:q=x.ow:=by simpa using hq
        rw[e1,e2];exact ntw
  · rcases mem y hy with hy|rfl
    · exact List.mem_append_right _ (h.xo y hy c hc)
    · exact List.mem_append_left _ hc
  · rcases mem y hy with hy|rfl
    · exact h.ln y hy c hc
    · have hco:c∈o:=by
        simp only[List.mem_cons,List.not_mem_nil,or_false] at hc;rcases hc with rfl|rfl
        · exact h.lo.1
        · exact h.lo.2
      exact⟨fun z=>ft (z▸hco),fun z=>fw (z▸hco)⟩
  · rcases List.mem_append.mp hc with hc|hc
    · exact al' c hc
    · obtain⟨q,e⟩:=h.al c hc
      by_cases z1:c=lr
      · exact⟨_,z1▸hr'⟩
      · by_cases z2:c=lw
        · exact⟨_,z2▸hw'⟩
        · exact⟨q,k c q hc z1 z2 e⟩
theorem Rg0.done (h:Rg0 A H f ps lr lw xs o) (s:Same H H') (hl:H l=none) (e:H' l=some (.lst [.ref f,.ref md,.ref lr,.ref lw])) (x1:1≤xs.length) (x3:xs.length≤3):Rgs A H' f md ps l lr lw xs (l::o):=by
  have h' :=h.kept (fun c q _ e=>s c q e) (fun _ _ e=>e) (Nat.le_refl _);refine⟨e,h'.hr,h'.hw,h'.rg,h.nd,fun x hx c hc=> .tail _ (h.xo x hx c hc),⟨.head _,.tail _ h.lo.1,.tail _ h.lo.2⟩,fun x hx c hc=> ?_,fun c hc=> ?_,x1,x3⟩
  · rcases List.mem_cons.mp hc with rfl|hc
    · have t1:=(h.rg x hx).R.tl
      have t2:=(h.rg x hx).W.tl;exact⟨(ne_of_none t1 hl).symm,(ne_of_none t2 hl).symm⟩
    · exact h.ln x hx c hc
  · rcases List.mem_cons.mp hc with rfl|hc
    · exact⟨_,e⟩
    · exact h'.al c hc
end
structure Bg (A:Adr) (H:Hp) (b:Addr) (k:Nat) (a:HA) (m:MA) (lr lw:Addr) (xs:List RD) (o:List Addr) (ps ts:List (Option Nat)):Prop where
  B:BoxAt H b k
  Z:Two A.a_House H a m ps ts 1000 0 [] 0 [] [] [] []
  G:Rg0 A H a.f ps lr lw xs o
  ap:∀c∈o,¬c∈a.own∧¬c∈m.own
  nb:¬b∈a.own∧¬b∈m.own∧¬b∈o
  st:∀j:Nat,j<ts.length→ts[j]? =some none
theorem Bg.same{A:Adr}{H H' :Hp}{b:Addr}{k:Nat}{a:HA}{m:MA}{lr lw:Addr}{xs:List RD}{o:List Addr}{ps ts:List (Option Nat)}(h:Bg A H b k a m lr lw xs o ps ts)(s:Same H H'):Bg A H' b k a m lr lw xs o ps ts:=⟨h.B.same s,h.Z.same s,h.G.kept (fun c q _ e=>s c q e) (fun _ _ e=>e) (Nat.le_refl _),h.ap,h.nb,h.st⟩
theorem Bg.box {A:Adr} {H H' :Hp} {b:Addr} {k k' :Nat} {a:HA} {m:MA} {lr lw:Addr} {xs:List RD} {o:List Addr} {ps ts:List (Option Nat)} (h:Bg A H b k a m lr lw xs o ps ts) (B' :BoxAt H' b k') (q:Kept b H H'):Bg A H' b k' a m lr lw xs o ps ts:=
  ⟨B',h.Z.kept fun c o' hc e=>q c o' (fun z=>by rcases hc with g|g;exact h.nb.1 (z▸g);exact h.nb.2.1 (z▸g)) e,h.G.kept (fun c o' hc e=>q c o' (fun z=>h.nb.2.2 (z▸hc)) e) (fun _ _ e=>e) (Nat.le_refl _),h.ap,h.nb,h.st⟩
def BPost(A:Adr)(H:Hp)(b:Addr)(k:Nat)(a:HA)(m:MA)(lr lw:Addr)(n L:Nat)(o:List Addr)(Z:Hp→Prop):Prop:=∀xs' o' ps' ts' H',Bg A H' b (k+1) a m lr lw xs' o' ps' ts'→xs'.length=n+1→ps'.length≤L+1→(∀c∈o',c∈o∨H c=none)→(∀c q,c≠b→¬c∈a.own→¬c∈m.own→¬c∈o→H c=some q→H' c=some q)→Z H'
def begR (A:Adr):TS:=fun D σ H=>∃(b:Addr) (k:Nat) (fl:Bool) (a:HA) (m:MA) (lr lw:Addr) (xs:List RD) (o:List Addr) (ps ts:List (Option Nat)) (t:Nat) (x6 x8:Option V),σ=[some (.ref b),some (.bl fl),some (.ref a.f),some (.ref m.d),some (.ref lr),some (.ref lw),x6,some (.int t),x8]∧Bg A H b k a m lr lw xs o ps ts∧k≤900∧t<ps.length∧ps.length≤50∧xs.length≤100∧
  BPost A H b k a m lr lw xs.length ps.length o fun H' =>∀y8,D.nx [some (.ref b),some (.bl fl),some (.ref a.f),some (.ref m.d),some (.ref lr),some (.ref lw),x6,some (.int t),y8] H'
end My
namespace My
open PySem L2 PyProof.Rows
section
variable{P:Program}{w:World}{K:PySem.W.Frag}{mg:Str→Option Value}{base:Heap}{A:Adr}
def spLBegun(A:Adr):Sp:=fun vs H Q _=>∃b k,vs=[.ref b]∧BoxAt H b k∧k≤500∧∀l a m lr lw xs o ps ts H',Two A.a_House H' a m ps ts 1000 0 [] 0 [] [] [] []→Rgs A H' a.f m.d ps l lr lw xs o→(∀c∈a.own,H c=none)→(∀c∈m.own,H c=none)→(∀c∈o,H c=none)→(∀c∈o,¬c∈a.own∧¬c∈m.own)→BoxAt H' b (k+20)→Kept b H H'→Q (.ref l) H'
theorem ok__law_begun (T:Txt K mg A):FnOk P w K mg base CX0 10 A.a__law_begun A.d__law_begun ["_law_box_here"] (spLBegun A):=by
  have G__law_take:FnOk P w K mg base CX0 9 A.a__law_take A.d__law_take ["_law_box_here","_law_many"] spTake:=(ok__law_take T).mono (by decide);have G__law_house:FnOk P w K mg base CX0 9 A.a__law_house A.d__law_house ["_law_limit"] spLHouse:=(ok__law_house T).mono (by decide);have G__law_begin:FnOk P w K mg base CX0 9 A.a__law_begin A.d__law_begin ["_law_model","_law_frame"] spLBegin:=(ok__law_begin T).mono (by decide);have G_Frames_begin:FnOk P w K mg base CX0 9 A.a_Frames_begin A.d_Frames_begin ["self","frame"] (spBegin A.a_House):=(ok_Frames_begin T).mono (by decide);have G_House___init__:FnOk P w K mg base CX0 8 A.a_House___init__ A.d_House___init__ ["self","limit"] (spHInit A.a_House):=(ok_House___init__ T).mono (by decide);have G_Ring___init__:FnOk P w K mg base CX0 8 A.a_Ring___init__ A.d_Ring___init__ ["self","house","frame","many"] (spRInit A):=(ok_Ring___init__ T).mono (by decide);refine T.F__law_begun.ok sc__law_begun (fun vs H Q E h=> ?_) (fun cdv Ar outer s H vs Q E hr h=> ?_)
  · obtain⟨b,k,rfl,_⟩:=h
    rfl
  · obtain ⟨b, k,rfl,B0,hk,q⟩:=h
    have hu:=hu_of hr;have hgd:=hr.gd;have hu0:=hr.units0;have hu1:_+100<cLine:=Nat.lt_of_le_of_lt (Nat.add_le_add_left (by decide:100≤16*9+200) _) (by have:=hr.un;omega);have h0L:(0:Nat)≤sizeLine:=by decide
    refine⟨_,(pss_cons (ps_set (i:=1) sc__law_begun.nd rfl (Or.inl rfl) (pe_cmpR op_eq (pe_call G__law_take hr rfl T.m__law_take T.F__law_take.kp T.b__law_take .nil pass0 (pa_cons (pv 0) (pa_cons pe_int pa_nil))) pe_int (nomark _))) (pss_cons (ps_set (i:=2) sc__law_begun.nd rfl (Or.inl rfl) (pe_make T.M_House G_House___init__ hr rfl T.m_House T.b_House___init__ .nil pass0 (pa_cons pe_int pa_nil))) (pss_cons (ps_set (i:=3) sc__law_begun.nd rfl (Or.inl rfl) (pe_call G__law_house hr rfl T.m__law_house T.F__law_house.kp T.b__law_house .nil pass0 (pa_cons pe_int pa_nil))) (pss_cons (ps_set (i:=4) sc__law_begun.nd rfl (Or.inl rfl) (pe_lst pa_nil)) (pss_cons (ps_set (i:=5) sc__law_begun.nd rfl (Or.inl rfl) (pe_lst pa_nil)) (pss_cons (ps_for PassesOwn.never rfl (pi_range1 rfl T.z_range (pa_cons (pe_op op_add pe_int (pe_call G__law_take hr rfl T.m__law_take T.F__law_take.kp T.b__law_take .nil pass0 (pa_cons (pv 0) (pa_cons pe_int pa_nil)))) pa_nil)) (pg_name (i:=6) sc__law_begun.nd rfl (Or.inl rfl) (Or.inl rfl)) (pss_cons (ps_set (i:=7) sc__law_begun.nd rfl (Or.inl rfl) pe_int) (pss_cons (ps_if (PW.pt (pw_and (pt_not (pt_val (pv 1))) (pw_and1 (pt_cmpR op_gt (pe_call G__law_take hr rfl T.m__law_take T.F__law_take.kp T.b__law_take .nil pass0 (pa_cons (pv 0) (pa_cons pe_int pa_nil))) pe_int (nomark _))))) (pss_one (ps_set (i:=7) sc__law_begun.nd rfl (Or.inl rfl) (pe_op op_sub (pe_callB call_len_seq (by rfl) T.z_len Boot.«len» (pa_cons (pe_dget hu (pv 3) pe_str (fun _ _=>rfl)) pa_nil)) pe_int))) pss_nil) (pss_imp (begR A) (pss_cons (ps_set (i:=8) sc__law_begun.nd rfl (Or.inl rfl) (pe_op op_add pe_int (pe_call G__law_take hr rfl T.m__law_take T.F__law_take.kp T.b__law_take .nil pass0 (pa_cons (pv 0) (pa_cons pe_int pa_nil))))) (pss_cons (ps_expr (pe_bm PySem.F.plainAttrs_list PySem.F.slot_list_append PySem.F.type_list_append mt_append (pv 4) (pa_cons (pe_make T.M_Ring G_Ring___init__ hr rfl T.m_Ring T.b_Ring___init__ .nil pass0 (pa_cons (pv 2) (pa_cons (pv 7) (pa_cons (pv 8) pa_nil)))) pa_nil))) (pss_cons (ps_expr (pe_bm PySem.F.plainAttrs_list PySem.F.slot_list_append PySem.F.type_list_append mt_append (pv 5) (pa_cons (pe_disp (pps_cons pe_str (pv 7) (pps_cons pe_str (pv 8) (pps_cons pe_str (pe_lst pa_nil) pps_nil))) rfl rfl (by simp) (by decide)) pa_nil))) (pss_one (ps_if (pt_not (pt_val (pv 1))) (pss_cons (ps_expr (pe_meth (pv 2) T.K_House T.t_Frames_begin G_Frames_begin hr T.b_Frames_begin .nil pass0 (pa_cons (pv 7) pa_nil))) (pss_one (ps_expr (pe_call G__law_begin hr rfl T.m__law_begin T.F__law_begin.kp T.b__law_begin .nil pass0 (pa_cons (pv 3) (pa_cons (pv 7) pa_nil)))))) pss_nil))))) ?cut2)))) (pss_one (ps_ret (pe_lst (pa_cons (pv 2) (pa_cons (pv 3) (pa_cons (pv 4) (pa_cons (pv 5) pa_nil))))))))))))),?_⟩
    rotate_left
    case cut2 =>
      clear q hk B0
      rintro D σ H1 ⟨b,k,fl,a,m,lr,lw,xs,o,ps,ts,t,x6,x8,rfl,U,hk,htl,hpl,hxl,q⟩
      have hl:=U.Z.G.W.len;have hts:=U.st t (by omega);have hsn:=stand_at hts;refine⟨_,rfl,b,4,k,rfl,U.B,by omega,by decide,by decide,fun r H2 r0 r1 B2 O2=>⟨1,r,rfl,rfl,?_⟩⟩;change gName 8 (V.int (1+r)) _ _ _;have e:(1:Int)+r=((1+r.toNat:Nat):Int):=by omega
      rw[e];have hn4:1+r.toNat≤4:=by omega
      have hn1:1≤1+r.toNat:=by omega
      generalize 1+r.toNat=n at hn4 hn1;have U2:=U.box B2 O2.kept;obtain⟨nb1,nb2,nb3⟩:=U.nb;refine⟨_,rfl,.inl ⟨rfl,_,SqL.of U2.G.hr⟩,_,rfl,_,rfl,_,rfl,fun rr dxr nr ndr ner=>⟨rr,dxr,a.f,a.pa,a.ta,ps,ts,t,n,rfl,upd_same,?_,hl,hsn,hn1,hn4,fun tu H3 htu R3 kp3=>⟨rfl,?_⟩⟩⟩
      · exact U2.Z.h.fr.kept fun c o' _ e=>by
          rw[upd_ne (ne_of_none e nr),upd_ne (ne_of_none e ndr)];exact e
      have s23:Same H2 (upd (upd H2 dxr (.own rr)) rr (.ins A.a_Ring dxr [])):=fun c o' e=>by
        rw[upd_ne (ne_of_none e nr),upd_ne (ne_of_none e ndr)];exact e
      have s3:Same H2 H3:=fun c o' e=>kp3 c o' (s23 c o' e) (ne_of_none e nr);have ftu:H2 tu=none:=s23.free htu;have U3:=U2.same s3;obtain⟨lo1,lo2⟩:=U.G.lo;refine⟨lr,_,_,rfl,rfl,U3.G.hr,by rw[List.length_map];exact Nat.lt_of_le_of_lt hxl (by decide:100<sizeLine),?_⟩
      have k4:∀c q,c≠lr→H3 c=some q→upd H3 lr (.lst ((xs.map fun x=>V.ref x.r)++[.ref rr])) c=some q:=fun c q h e=>by
        rw[upd_ne h];exact e
      have e4:upd H3 lr (.lst ((xs.map fun x=>V.ref x.r)++[.ref rr])) lr=some (.lst ((xs.map fun x=>V.ref x.r)++[.ref rr])):=upd_same;generalize upd H3 lr (.lst ((xs.map fun x=>V.ref x.r)++[.ref rr]))=H4 at k4 e4;have hw4:=k4 _ _ U.G.nw.symm U3.G.hw;refine⟨_,rfl,.inl ⟨rfl,_,SqL.of hw4⟩,fun d hd=>⟨_,rfl,_,rfl,h0L,fun ow how=> ?_⟩⟩;have s5:=Same.upd (o:= .dK []) hd;have s6:=Same.upd (o:= .lst []) how;have d5:upd H4 d (.dK []) d=some (.dK []):=upd_same;have ndo:ow≠d:=(ne_of_none d5 how).symm;refine⟨s6 _ _ d5,[(kOut,.int t),(kMny,.int n),(kOwn,.ref ow)],by kernel_rfl,by show 3≤15;decide,?_⟩;have em:mergeK [] [(kOut,V.int t),(kMny,.int n),(kOwn,.ref ow)]=kvR t n ow:=by kernel_rfl
      rw[em]
      have k7:∀c q,H4 c=some q→upd (upd (upd H4 d (.dK [])) ow (.lst [])) d (.dK (kvR t n ow)) c=some q:=fun c q e=>by
        rw[upd_ne (ne_of_none e hd)];exact s6 _ _ (s5 _ _ e)
      have d7:upd (upd (upd H4 d (.dK [])) ow (.lst [])) d (.dK (kvR t n ow)) d=some (.dK (kvR t n ow)):=upd_same
      have w7:upd (upd (upd H4 d (.dK [])) ow (.lst [])) d (.dK (kvR t n ow)) ow=some (.lst []):=by
        rw[upd_ne ndo];exact upd_same
      have fow:H4 ow=none:=s5.free how;generalize upd (upd (upd H4 d (.dK [])) ow (.lst [])) d (.dK (kvR t n ow))=H7 at k7 d7 w7;refine⟨lw,_,_,rfl,rfl,k7 _ _ hw4,by rw[List.length_map];exact Nat.lt_of_le_of_lt hxl (by decide:100<sizeLine),?_⟩
      have k8:∀c q,c≠lw→H7 c=some q→upd H7 lw (.lst ((xs.map fun x=>V.ref x.d)++[.ref d])) c=some q:=fun c q h e=>by
        rw[upd_ne h];exact e
      have e8:upd H7 lw (.lst ((xs.map fun x=>V.ref x.d)++[.ref d])) lw=some (.lst ((xs.map fun x=>V.ref x.d)++[.ref d])):=upd_same;generalize upd H7 lw (.lst ((xs.map fun x=>V.ref x.d)++[.ref d]))=H8 at k8 e8;have keep3:∀c q,c≠lr→c≠lw→H3 c=some q→H8 c=some q:=fun c q h1 h2 e=>k8 c q h2 (k7 c q (k4 c q h1 e));have keep:∀c q,c≠lr→c≠lw→H2 c=some q→H8 c=some q:=fun c q h1 h2 e=>keep3 c q h1 h2 (s3 c q e);have ne2:∀c,H2 c=none→c≠lr∧c≠lw:=fun c e=>⟨(ne_of_none U2.G.hr e).symm,(ne_of_none U2.G.hw e).symm⟩
      have f4:∀c,H4 c=none→H2 c=none:=fun c e=>by
        cases z:H2 c with
        |none=>rfl
        | some q=>
          by_cases hc:c=lr
          · rw[hc,e4] at e
            cases e
          · rw[k4 c q hc (s3 c q z)] at e
            cases e
      have fd:H2 d=none:=f4 d hd;have fw:H2 ow=none:=f4 ow fow;have ntw:tu≠ow:=ne_of_none (k4 _ _ (ne2 tu ftu).1 R3.tl) fow
      have R8:RgAt A.a_Ring H8 rr a.f t n tu []:=R3.kept fun c q hc e=>by
        rcases hc with rfl|rfl
        · exact keep3 _ _ (ne2 _ nr).1 (ne2 _ nr).2 e
        · exact keep3 _ _ (ne2 _ ftu).1 (ne2 _ ftu).2 e
      have W8:RwAt H8 d ow t n []:=⟨k8 _ _ (ne2 d fd).2 d7,k8 _ _ (ne2 ow fw).2 w7⟩
      have no2:∀c,H2 c=none→¬c∈o:=fun c e hc=>by
        obtain⟨q,e'⟩:=U2.G.al c hc;rw[e] at e';cases e'
      have fpl:∀c∈RD.pl ⟨rr,tu,d,ow,t,n,[]⟩,H2 c=none:=fun c hc=>by
        simp only[RD.pl,List.mem_cons,List.not_mem_nil,or_false] at hc;rcases hc with rfl|rfl|rfl|rfl
        · exact nr
        · exact ftu
        · exact fd
        · exact fw
      have alx:∀c∈RD.pl ⟨rr,tu,d,ow,t,n,[]⟩,∃q,H8 c=some q:=fun c hc=>by
        simp only[RD.pl,List.mem_cons,List.not_mem_nil,or_false] at hc;rcases hc with rfl|rfl|rfl|rfl
        · exact⟨_,R8.ob.choose_spec⟩
        · exact⟨_,R8.tl⟩
        · exact⟨_,W8.ob⟩
        · exact⟨_,W8.tl⟩
      have G8:Rg0 A H8 a.f ps lr lw (xs++[⟨rr,tu,d,ow,t,n,[]⟩]) (RD.pl ⟨rr,tu,d,ow,t,n,[]⟩++o):=U2.G.snoc (fun c q _ h1 h2 e=>keep c q h1 h2 e) (k8 _ _ U.G.nw (k7 _ _ e4)) e8 ⟨R8,W8,(fun x hx=>nomatch hx),htl,hn1,Nat.zero_le _⟩ (no2 _ ftu) (no2 _ fw) ntw alx;obtain⟨bx1,bx2,bx3,hbx,_⟩:=id B2
      have U8 :Bg A H8 b (k+1) a m lr lw (xs++[⟨rr,tu,d,ow,t,n,[]⟩]) (RD.pl ⟨rr,tu,d,ow,t,n,[]⟩++o) ps ts:=by
        refine⟨B2.kept fun q e=>keep b q (fun z=>nb3 (z▸lo1)) (fun z=>nb3 (z▸lo2)) e,U2.Z.kept fun c q hc e=>keep c q (fun z=> ?_) (fun z=> ?_) e,G8,fun c hc=> ?_,⟨nb1,nb2,fun z=> ?_⟩,U.st⟩
        · subst z
          exact hc.elim (U.ap _ lo1).1 (U.ap _ lo1).2
        · subst z
          exact hc.elim (U.ap _ lo2).1 (U.ap _ lo2).2
        · rcases List.mem_append.mp hc with hc|hc
          · refine⟨fun z=> ?_,fun z=> ?_⟩
            · obtain⟨q,e⟩:=U2.Z.h.al c z
              rw[fpl c hc] at e;cases e
            · obtain⟨q,e⟩:=U2.Z.mo.al c z
              rw[fpl c hc] at e;cases e
          · exact U.ap c hc
        · rcases List.mem_append.mp z with z|z
          · rw[fpl b z] at hbx
            cases hbx
          · exact nb3 z
      have fr12:∀c,H2 c=none→H1 c=none:=fun c e=>by
        cases z:H1 c with
        |none=>rfl
        | some q=>
          by_cases hc:c=b
          · rw[hc,hbx] at e
            cases e
          · rw[O2.kept c q hc z] at e
            cases e
      have fo8:∀c∈RD.pl ⟨rr,tu,d,ow,t,n,[]⟩++o,c∈o∨H1 c=none:=fun c hc=>by
        rcases List.mem_append.mp hc with hc|hc
        · exact .inr (fr12 c (fpl c hc))
        · exact .inl hc
      have kp8:∀c q,c≠b→¬c∈o→H1 c=some q→H8 c=some q:=fun c q hb ho e=>keep c q (fun z=>ho (z▸lo1)) (fun z=>ho (z▸lo2)) (O2.kept c q hb e);have xl8:(xs++[(⟨rr,tu,d,ow,t,n,[]⟩:RD)]).length=xs.length+1:=by simp
      refine⟨_,rfl,fl,rfl,?_⟩
      cases fl with
      |true=>exact iteF (q _ _ _ _ _ U8 xl8 (by omega) fo8 (fun c q h1 _ _ h4 e=>kp8 c q h1 h4 e) _)
      | false =>
        obtain⟨dx,ho⟩:=U8.Z.h.ob;obtain⟨o1,o2,o3,o4,o5⟩:=U8.Z.h.own5;refine iteT ⟨_,rfl,a.f,dx,_,rfl,ho,flds_no (by decide+kernel),_,rfl,a.f,a.pa,a.ta,ps,ts,t,rfl,U8.Z.h.fr,hl,hsn,by omega,fun H9 F9 K9=> ?_⟩;have m9:ModelAt H9 m ps ts 1000 0 [] [] [] []:=U8.Z.mo.kept fun c o hc e=>K9 c o (fun z=>U8.Z.ap _ o2 (z▸hc)) (fun z=>U8.Z.ap _ o3 (z▸hc)) e;refine⟨_,rfl,_,rfl,m.d,m.ha,m.tk,ps,ts,t,rfl,m9.mod,by omega,by omega,fun H10 M10 K10=> ?_⟩;obtain⟨Z10,v10⟩:=U8.Z.begin htl (by omega) F9 K9 M10 K10
        have pp:∀{xs:List (Option Nat)} {z:Option Nat} (i:Nat) y,xs[i]? =some y→(xs++[z])[i]? =some y:=fun i y e=>by
          rw[List.getElem?_append_left (List.getElem?_eq_some_iff.mp e).1];exact e
        have U10:Bg A H10 b (k+1) a m lr lw (xs++[⟨rr,tu,d,ow,t,n,[]⟩]) (RD.pl ⟨rr,tu,d,ow,t,n,[]⟩++o) (ps++[some t]) (ts++[none]):=by
          refine⟨U8.B.kept fun q e=>v10 b q nb1 nb2 e,Z10,U8.G.kept (fun c q hc e=>v10 c q (U8.ap c hc).1 (U8.ap c hc).2 e) (fun i y e=>pp i y e) (by simp),U8.ap,U8.nb,fun j hj=> ?_⟩;by_cases h:j<ts.length
          · exact pp j none (U.st j h)
          · have:j=ts.length:=by
              simp at hj;omega
            subst this;simp
        exact q _ _ _ _ _ U10 xl8 (by simp) fo8 (fun c q h1 h2 h3 h4 e=>v10 c q h2 h3 (kp8 c q h1 h4 e)) _
    have made:∀{H0 H1:Hp} {x dx:Addr} {a:HA},H0 x=none→H0 dx=none→a.f=x→(∀c∈a.own,c=x∨upd (upd H0 dx (.own x)) x (.ins A.a_House dx []) c=none)→(∀b o,upd (upd H0 dx (.own x)) x (.ins A.a_House dx []) b=some o→b≠x→H1 b=some o)→Same H0 H1∧∀c∈a.own,H0 c=none:=fun{H0 H1 x dx a} hx hdx ef go kp=>by
      have s0:Same H0 (upd (upd H0 dx (.own x)) x (.ins A.a_House dx [])):=fun c o e=>by
        rw[upd_ne (ne_of_none e hx),upd_ne (ne_of_none e hdx)];exact e
      refine⟨fun c o e=>kp c o (s0 c o e) (ne_of_none e hx),fun c hc=> ?_⟩;rcases go c hc with h|h
      · rw[h]
        exact hx
      · exact s0.free h
    refine⟨_,rfl,b,2,k,rfl,B0,by omega,by decide,by decide,fun r0 H1 _ _ B1 O1=>⟨rfl,?_⟩⟩;generalize decide (V.int r0=V.int 0)=flat;intro x0 dx0 hx0 hdx0 ne0;refine⟨x0,dx0,1000,rfl,upd_same,by decide,by decide,fun a H2 ef0 go0 h2 kp0=>⟨rfl,?_⟩⟩;obtain⟨s2,fa⟩:=made hx0 hdx0 ef0 go0 kp0;subst ef0;refine⟨1000,rfl,fun m H3 gm M3 s3=>⟨h0L,fun lr hlr=>⟨h0L,fun lw hlw=> ?_⟩⟩⟩;have s4:=Same.upd (o:= .lst []) hlr;have s5:=Same.upd (o:= .lst []) hlw;have e4:upd H3 lr (.lst []) lr=some (.lst []):=upd_same;have e5:upd (upd H3 lr (.lst [])) lw (.lst []) lw=some (.lst []):=upd_same;generalize upd H3 lr (.lst [])=H4 at hlw s4 e4 s5 e5;generalize upd H4 lw (.lst [])=H5 at s5 e5
    have al2:∀c∈a.own,H2 c≠none:=fun c hc z=>by
      obtain⟨o,e⟩:=h2.al c hc;rw[z] at e;cases e
    have al3:∀c∈m.own,H3 c≠none:=fun c hc z=>by
      obtain⟨o,e⟩:=M3.al c hc;rw[z] at e;cases e
    have Z5:Two A.a_House H5 a m [none] [none] 1000 0 [] 0 [] [] [] []:=⟨h2.same (s3.trans (s4.trans s5)),M3.same (s4.trans s5),good0 (by decide) (by decide),cs0,fun c hc z=>al2 c hc (gm c z)⟩;have B5:=((B1.same s2).same s3).same (s4.trans s5)
    have fr1:∀c,H1 c=none→H c=none:=fun c e=>by
      cases z:H c with
      |none=>rfl
      | some q=>
        by_cases hc:c=b
        · obtain⟨x,y,z',hbx,_⟩:=B1
          rw[hc,hbx] at e;cases e
        · rw[O1.kept c q hc z] at e
          cases e
    have nb1:∀c,H1 c=none→c≠b:=fun c e z=>by
      obtain⟨x,y,z',hbx,_⟩:=B1;rw[z,hbx] at e;cases e
    have flr:H1 lr=none:=s2.free (s3.free hlr);have flw:H1 lw=none:=s2.free (s3.free (s4.free hlw));have fm:∀c∈m.own,H1 c=none:=fun c hc=>s2.free (gm c hc)
    have U5:Bg A H5 b (k+1) a m lr lw [] [lr,lw] [none] [none]:=by
      refine⟨B5,Z5,⟨s5 _ _ e4,e5,(fun x hx=>by cases hx),.nil,(fun x hx=>by cases hx),⟨by simp,by simp⟩,ne_of_none e4 hlw,(fun x hx=>by cases hx),fun c hc=> ?_⟩,fun c hc=> ?_,⟨fun z=>nb1 _ (fa _ z) rfl,fun z=>nb1 _ (fm _ z) rfl,fun z=> ?_⟩,fun j hj=> ?_⟩
      · simp only[List.mem_cons,List.not_mem_nil,or_false] at hc
        rcases hc with rfl|rfl
        · exact⟨_,s5 _ _ e4⟩
        · exact⟨_,e5⟩
      · simp only[List.mem_cons,List.not_mem_nil,or_false] at hc
        rcases hc with rfl|rfl
        · exact⟨fun z=>al2 _ z (s3.free hlr),fun z=>al3 _ z hlr⟩
        · exact⟨fun z=>al2 _ z (s3.free (s4.free hlw)),fun z=>al3 _ z (s4.free hlw)⟩
      · simp only[List.mem_cons,List.not_mem_nil,or_false] at z
        rcases z with z|z
        · exact nb1 _ flr z.symm
        · exact nb1 _ flw z.symm
      · have:j=0:=by simpa using hj
        subst this;rfl
    refine⟨_,rfl,b,3,k+1,rfl,B5,by omega,by decide,by decide,fun r6 H6 q0 q1 B6 O6=>⟨1,r6,rfl,rfl,1+r6,rfl,by omega,by omega,?_⟩⟩;have K6:Kept b H1 H6:=(s2.trans (s3.trans (s4.trans s5))).kept.trans O6.kept;refine for_range (lo:=0) (n:=(1+r6).toNat) (fun i σ H' =>∃(x6 x7 x8:Option V) (xs:List RD) (o:List Addr) (ps ts:List (Option Nat)),σ=[some (.ref b),some (.bl flat),some (.ref a.f),some (.ref m.d),some (.ref lr),some (.ref lw),x6,x7,x8]∧Bg A H' b (k+2+2*i) a m lr lw xs o ps ts∧xs.length=i∧ps.length≤1+i∧(∀c∈o,H1 c=none)∧Kept b H1 H') ⟨_,_,_,_,_,_,_,rfl,U5.box B6 O6.kept,rfl,Nat.le_refl _,?_,K6⟩ ?_ ?_
    · intro c hc
      simp only[List.mem_cons,List.not_mem_nil,or_false] at hc;rcases hc with rfl|rfl
      · exact flr
      · exact flw
    · rintro i σ H7 hi ⟨x6,x7,x8,xs,o,ps,ts,rfl,U7,hxl,hpl,fo,K7⟩
      have hi3:i<3:=by omega
      have hps1:=U7.Z.G.W.pos
      have post :∀(t:Nat) {H8:Hp},BoxAt H8 b (k+2+2*i+1)→Kept b H7 H8→BPost A H8 b (k+2+2*i+1) a m lr lw xs.length ps.length o fun H' =>∀y8,∃(x6 x7 x8:Option V) (xs:List RD) (o:List Addr) (ps ts:List (Option Nat)),[some (.ref b),some (.bl flat),some (.ref a.f),some (.ref m.d),some (.ref lr),some (.ref lw),some (.int (0+(i:Int))),some (.int t),y8]=[some (.ref b),some (.bl flat),some (.ref a.f),some (.ref m.d),some (.ref lr),some (.ref lw),x6,x7,x8]∧Bg A H' b (k+2+2*(i+1)) a m lr lw xs o ps ts∧xs.length=i+1∧ps.length≤1+(i+1)∧(∀c∈o,H1 c=none)∧Kept b H1 H' :=by
        intro t H8 B8 K8 xs' o' ps' ts' H' U' hx' hp' fo' kp' y8;refine⟨_,_,_,xs',o',ps',ts',rfl,?_,by omega,by omega,fun c hc=> ?_,fun c q hcb e=> ?_⟩
        · have e:k+2+2*i+1+1=k+2+2*(i+1):=by omega
          rw[e] at U';exact U'
        · rcases fo' c hc with h|h
          · exact fo c h
          · cases z:H1 c with
            |none=>rfl
            | some q=>
              by_cases hcb:c=b
              · obtain⟨x,y,z',hbx,_⟩:=B8
                rw[hcb,hbx] at h;cases h
              · rw[K8 c q hcb (K7 c q hcb z)] at h
                cases h
        · exact kp' c q hcb (fun z=>by rw[fa c z] at e;cases e) (fun z=>by rw[fm c z] at e;cases e) (fun z=>by rw[fo c z] at e;cases e) (K8 c q hcb (K7 c q hcb e))
      refine⟨_,rfl,flat,rfl,?_⟩
      cases flat with
      | true=>
        refine iteF (iteF ?_);have B8:BoxAt H7 b (k+2+2*i+1):=U7.B.mono (by omega);exact⟨b,k+2+2*i+1,true,a,m,lr,lw,xs,o,ps,ts,0,_,_,rfl,U7.box B8 (Kept.refl b H7),by omega,by omega,by omega,by omega,post 0 B8 (Kept.refl b H7)⟩
      | false=>
        refine iteT ⟨_,rfl,b,3,_,rfl,U7.B,by omega,by decide,by decide,fun r8 H8 _ _ B8 O8=>⟨r8,0,rfl,rfl,_,rfl,?_⟩⟩;have U8:=U7.box B8 O8.kept
        have nx:∀t:Nat,t<ps.length→∀(D:Ends) x8,(∀σ H',(∃(x6 x7 x8:Option V) (xs:List RD) (o:List Addr) (ps ts:List (Option Nat)),σ=[some (.ref b),some (.bl false),some (.ref a.f),some (.ref m.d),some (.ref lr),some (.ref lw),x6,x7,x8]∧Bg A H' b (k+2+2*(i+1)) a m lr lw xs o ps ts∧xs.length=i+1∧ps.length≤1+(i+1)∧(∀c∈o,H1 c=none)∧Kept b H1 H')→D.nx σ H')→begR A D [some (.ref b),some (.bl false),some (.ref a.f),some (.ref m.d),some (.ref lr),some (.ref lw),some (.int (0+(i:Int))),some (.int t),x8] H8:=fun t ht D x8 hD=>
          ⟨b,k+2+2*i+1,false,a,m,lr,lw,xs,o,ps,ts,t,_,_,rfl,U8,by omega,ht,by omega,by omega,fun xs' o' ps' ts' H' U' hx' hp' fo' kp' y8=>hD _ _ (post t B8 O8.kept xs' o' ps' ts' H' U' hx' hp' fo' kp' y8)⟩
        refine ite2 (fun _=> ?_) (fun _=>nx 0 (by omega) _ _ fun _ _ h=>h);refine⟨_,rfl,m.d,_,rfl,U8.Z.mo.mod.getH,m.ha,_,rfl,.inl (SqL.of U8.Z.mo.hl),_,1,rfl,rfl,?_⟩;rw[List.length_map];have e:((ps.length:Nat):Int) - 1=((ps.length - 1:Nat):Int):=by omega
        change gName 7 (V.int ((ps.length:Int) - 1)) _ _ _;rw[e];exact nx (ps.length - 1) (by omega) _ _ fun _ _ h=>h
    · rintro σ H7 ⟨x6,x7,x8,xs,o,ps,ts,rfl,U7,hxl,hpl,fo,K7⟩
      have K7:=O1.kept.trans K7;refine⟨_,rfl,_,rfl,_,rfl,_,rfl,(show 4≤sizeLine by decide),fun l hl=> ?_⟩;have s8:=Same.upd (o:= .lst [V.ref a.f,V.ref m.d,V.ref lr,V.ref lw]) hl;have hn3:(1+r6).toNat≤3:=by omega
      have hn1:1≤(1+r6).toNat:=by omega
      refine q l a m lr lw xs (l::o) ps ts _ (U7.Z.same s8) (U7.G.done s8 hl upd_same (by omega) (by omega)) (fun c hc=>fr1 c (fa c hc)) (fun c hc=>fr1 c (fm c hc)) (fun c hc=> ?_) (fun c hc=> ?_) ((U7.B.same s8).mono (by omega)) (K7.trans s8.kept)
      · rcases List.mem_cons.mp hc with rfl|hc
        · cases z:H c with
          |none=>rfl
          | some q=>
            by_cases hcb:c=b
            · obtain⟨x,y,z',hbx,_⟩:=U7.B
              rw[hcb,hbx] at hl;cases hl
            · rw[K7 c q hcb z] at hl
              cases hl
        · exact fr1 c (fo c hc)
      · rcases List.mem_cons.mp hc with rfl|hc
        · refine⟨fun z=> ?_,fun z=> ?_⟩
          · obtain⟨o',e⟩:=U7.Z.h.al _ z
            rw[hl] at e;cases e
          · obtain⟨o',e⟩:=U7.Z.mo.al _ z
            rw[hl] at e;cases e
        · exact U7.ap c hc
end
end My
namespace My
open PySem L2 PyProof.Rows
structure WS where
  l:Addr
  lr:Addr
  lw:Addr
  o:List Addr
def InW(a:HA)(m:MA)(u:WS)(c:Addr):Prop:=c∈a.own∨c∈m.own∨c∈u.o
structure WAt (A:Adr) (H:Hp) (a:HA) (m:MA) (u:WS) (n:Nat) (xs:List RD) (ps ts:List (Option Nat)) (pk:Nat) (R:Rm) (N:Nat) (rs ws ms:List Addr) (cs:List (List V)):Prop where
  Z:Two A.a_House H a m ps ts 1000 pk R N rs ws ms cs
  G:Rgs A H a.f m.d ps u.l u.lr u.lw xs u.o
  ap:∀c∈u.o,¬c∈a.own∧¬c∈m.own
  hR:R.length≤n
  hN:N≤2*n
def PairAt(A:Adr)(H:Hp)(a:HA)(m:MA)(u:WS)(n:Nat):Prop:=∃xs ps ts pk R N rs ws ms cs,WAt A H a m u n xs ps ts pk R N rs ws ms cs
structure CoreAt (A:Adr) (H0 H:Hp) (bo:Addr) (u0 u1:WS) (a0:HA) (m0:MA) (a1:HA) (m1:MA) (n:Nat):Prop where
  sm:Same H0 H
  p0:PairAt A H a0 m0 u0 n
  p1:PairAt A H a1 m1 u1 n
  ap:∀c,InW a0 m0 u0 c→¬InW a1 m1 u1 c
  nb:∀c,InW a0 m0 u0 c∨InW a1 m1 u1 c→c≠bo∧H0 c=none
  bn:H0 bo=none
section
variable{A:Adr}{H0 H H' :Hp}{bo b:Addr}{u u0 u1:WS}{a a0 a1 a' :HA}{m m0 m1 m' :MA}{n n' :Nat}{vb:HO}
theorem PairAt.al (p:PairAt A H a m u n) {c:Addr} (h:InW a m u c):∃o,H c=some o:=by
  obtain⟨xs,ps,ts,pk,R,N,rs,ws,ms,cs,W⟩:=p;rcases h with h|h|h
  · exact W.Z.h.al c h
  · exact W.Z.mo.al c h
  · exact W.G.al c h
theorem PairAt.kept (p:PairAt A H a m u n) (k:∀c o,InW a m u c→H c=some o→H' c=some o):PairAt A H' a m u n:=by
  obtain⟨xs,ps,ts,pk,R,N,rs,ws,ms,cs,W⟩:=p;exact⟨xs,ps,ts,pk,R,N,rs,ws,ms,cs,W.Z.kept fun c o hc e=>k c o (hc.elim .inl fun h=> .inr (.inl h)) e,W.G.kept (fun c o hc e=>k c o (.inr (.inr hc)) e) (fun _ _ e=>e) (Nat.le_refl _),W.ap,W.hR,W.hN⟩
theorem PairAt.mono (p:PairAt A H a m u n) (h:n≤n'):PairAt A H a m u n' :=by
  obtain⟨xs,ps,ts,pk,R,N,rs,ws,ms,cs,W⟩:=p;have h1:=W.hR;have h2:=W.hN;exact⟨xs,ps,ts,pk,R,N,rs,ws,ms,cs,W.Z,W.G,W.ap,by omega,by omega⟩
theorem CoreAt.swap(c:CoreAt A H0 H bo u0 u1 a0 m0 a1 m1 n):CoreAt A H0 H bo u1 u0 a1 m1 a0 m0 n:=⟨c.sm,c.p1,c.p0,fun x h1 h0=>c.ap x h0 h1,fun x h=>c.nb x h.symm,c.bn⟩
theorem CoreAt.mono(c:CoreAt A H0 H bo u0 u1 a0 m0 a1 m1 n)(h:n≤n'):CoreAt A H0 H bo u0 u1 a0 m0 a1 m1 n' :=⟨c.sm,c.p0.mono h,c.p1.mono h,c.ap,c.nb,c.bn⟩
theorem CoreAt.same(c:CoreAt A H0 H bo u0 u1 a0 m0 a1 m1 n)(s:Same H H'):CoreAt A H0 H' bo u0 u1 a0 m0 a1 m1 n:=⟨c.sm.trans s,c.p0.kept fun x o _ e=>s x o e,c.p1.kept fun x o _ e=>s x o e,c.ap,c.nb,c.bn⟩
def Apt(H0:Hp)(bo:Addr)(u0 u1:WS)(a0:HA)(m0:MA)(a1:HA)(m1:MA)(b:Addr):Prop:=b≠bo∧¬InW a0 m0 u0 b∧¬InW a1 m1 u1 b∧H0 b=none
theorem Apt.swap(h:Apt H0 bo u0 u1 a0 m0 a1 m1 b):Apt H0 bo u1 u0 a1 m1 a0 m0 b:=⟨h.1,h.2.2.1,h.2.1,h.2.2.2⟩
theorem CoreAt.apart (c:CoreAt A H0 H bo u0 u1 a0 m0 a1 m1 n) (hbo:H bo=some vb) (hb:H b=none):Apt H0 bo u0 u1 a0 m0 a1 m1 b:=by
  refine⟨(ne_of_none hbo hb).symm,fun z=> ?_,fun z=> ?_,c.sm.free hb⟩
  · obtain⟨o,e⟩:=c.p0.al z
    rw[hb] at e;cases e
  · obtain⟨o,e⟩:=c.p1.al z
    rw[hb] at e;cases e
theorem CoreAt.box (c:CoreAt A H0 H bo u0 u1 a0 m0 a1 m1 n) (hb:Apt H0 bo u0 u1 a0 m0 a1 m1 b) (k:Kept b H H'):CoreAt A H0 H' bo u0 u1 a0 m0 a1 m1 n:=by
  obtain⟨h1,h3,h4,h5⟩:=hb;exact⟨fun x o e=>k x o (ne_of_none e h5) (c.sm x o e),c.p0.kept fun x o h e=>k x o (fun z=>h3 (z▸h)) e,c.p1.kept fun x o h e=>k x o (fun z=>h4 (z▸h)) e,c.ap,c.nb,c.bn⟩
theorem CoreAt.step (c:CoreAt A H0 H bo u0 u1 a0 m0 a1 m1 n) (hbo:H bo=some vb) (hb:Apt H0 bo u0 u1 a0 m0 a1 m1 b) (hx:∃o,H b=some o) (hn:n≤n') (ga:∀x∈a'.own,x∈a0.own∨H x=none) (gm:∀x∈m'.own,x∈m0.own∨H x=none)
    (k:∀x o,x≠b→¬x∈a0.own→¬x∈m0.own→¬x∈u0.o→H x=some o→H' x=some o) (p:(∀x∈u0.o,¬x∈a'.own∧¬x∈m'.own)→PairAt A H' a' m' u0 n'):CoreAt A H0 H' bo u0 u1 a' m' a1 m1 n'∧Apt H0 bo u0 u1 a' m' a1 m1 b∧H' bo=some vb:=by
  obtain⟨h1,h3,h4,h5⟩:=hb
  have gi:∀x,InW a' m' u0 x→InW a0 m0 u0 x∨H x=none:=fun x h=>by
    rcases h with h|h|h
    · exact(ga x h).imp .inl id
    · exact(gm x h).imp (fun z=> .inr (.inl z)) id
    · exact .inl (.inr (.inr h))
  have k0:∀x o,x≠b→¬InW a0 m0 u0 x→H x=some o→H' x=some o:=fun x o h h' e=>k x o h (fun z=>h' (.inl z)) (fun z=>h' (.inr (.inl z))) (fun z=>h' (.inr (.inr z))) e
  have hap:∀x∈u0.o,¬x∈a'.own∧¬x∈m'.own:=fun x hxo=>by
    obtain⟨q,e⟩:=c.p0.al (.inr (.inr hxo))
    have ap:¬x∈a0.own∧¬x∈m0.own:=by
      obtain⟨xs,ps,ts,pk,R,N,rs,ws,ms,cs,W⟩:=c.p0;exact W.ap x hxo
    refine⟨fun z=> ?_,fun z=> ?_⟩
    · rcases ga x z with z|z
      · exact ap.1 z
      · rw[z] at e
        cases e
    · rcases gm x z with z|z
      · exact ap.2 z
      · rw[z] at e
        cases e
  refine⟨⟨fun x o e=>k0 x o (ne_of_none e h5) (fun z=> ?_) (c.sm x o e),p hap,(c.p1.kept fun x o h e=>k0 x o (fun z=>h4 (z▸h)) (fun z=>c.ap x z h) e).mono hn,fun x h h' => ?_,fun x h=> ?_,c.bn⟩,⟨h1,fun z=> ?_,h4,h5⟩,k0 _ _ h1.symm (fun z=>(c.nb _ (.inl z)).1 rfl) hbo⟩
  · have:=(c.nb x (.inl z)).2
    rw[this] at e;cases e
  · rcases gi x h with h|h
    · exact c.ap x h h'
    · obtain⟨o,e⟩:=c.p1.al h'
      rw[h] at e;cases e
  · rcases h with h|h
    · rcases gi x h with h|h
      · exact c.nb x (.inl h)
      · exact⟨(ne_of_none hbo h).symm,c.sm.free h⟩
    · exact c.nb x (.inr h)
  · rcases gi b z with z|z
    · exact h3 z
    · obtain⟨o,e⟩:=hx
      rw[z] at e;cases e
end
section
variable{P:Program}{w:World}{K:PySem.W.Frag}{mg:Str→Option Value}{base:Heap}{A:Adr}
def spLaw(K:PySem.W.Frag):Sp:=fun vs H Q _=>∃(a:Addr) (ns:List Int),vs=[.ref a]∧SqL K H a (ns.map V.int)∧ns.length≤63∧∀H',Q (.bl true) H'
theorem ok_law (T:Txt K mg A):FnOk P w K mg base CX0 11 A.a_law A.d_law ["_law_script"] (spLaw K):=by
  have G__law_cell:FnOk P w K mg base CX0 10 A.a__law_cell A.d__law_cell ["_law_script","_law_k"] (spCell K):=(ok__law_cell T).mono (by decide);have G__law_box:FnOk P w K mg base CX0 10 A.a__law_box A.d__law_box ["_law_cell_here"] spBox:=(ok__law_box T).mono (by decide);have G__law_take:FnOk P w K mg base CX0 10 A.a__law_take A.d__law_take ["_law_box_here","_law_many"] spTake:=(ok__law_take T).mono (by decide);have G__law_begun:FnOk P w K mg base CX0 10 A.a__law_begun A.d__law_begun ["_law_box_here"] (spLBegun A):=ok__law_begun T;have G__law_deed:FnOk P w K mg base CX0 10 A.a__law_deed A.d__law_deed ["_law_box_here","_law_house_here","_law_model","_law_rings","_law_rows"] (spDeed A):=ok__law_deed T;have G__law_twinned:FnOk P w K mg base CX0 10 A.a__law_twinned A.d__law_twinned ["_law_house_here"] (spTwinned A.a_House):=(ok__law_twinned T).mono (by decide);have G__law_right:FnOk P w K mg base CX0 10 A.a__law_right A.d__law_right ["_law_house_here","_law_model","_law_rings","_law_rows"] (spRight A):=ok__law_right T;refine T.F_law.ok sc_law (fun vs H Q E h=> ?_) (fun cdv Ar outer s H vs Q E hr h=> ?_)
  · obtain⟨a,ns,rfl,_⟩:=h
    rfl
  · obtain ⟨a, ns,rfl,hS,hlen,q⟩:=h
    have hu:=hu_of hr;have hgd:=hr.gd;have hu1:_+100<cLine:=Nat.lt_of_le_of_lt (Nat.add_le_add_left (by decide:100≤16*9+200) _) (by have:=hr.un;omega);refine⟨_,(pss_cons (ps_set (i:=1) sc_law.nd rfl (Or.inl rfl) (pe_call G__law_box hr rfl T.m__law_box T.F__law_box.kp T.b__law_box .nil pass0 (pa_cons (pe_call G__law_cell hr rfl T.m__law_cell T.F__law_cell.kp T.b__law_cell .nil pass0 (pa_cons (pv 0) (pa_cons pe_int pa_nil))) pa_nil))) (pss_cons (ps_set (i:=2) sc_law.nd rfl (Or.inl rfl) (pe_lst (pa_cons (pe_call G__law_begun hr rfl T.m__law_begun T.F__law_begun.kp T.b__law_begun .nil pass0 (pa_cons (pv 1) pa_nil)) (pa_cons (pe_call G__law_begun hr rfl T.m__law_begun T.F__law_begun.kp T.b__law_begun .nil pass0 (pa_cons (pv 1) pa_nil)) pa_nil)))) (pss_cons (ps_for PassesOwn.never rfl (pi_range2 rfl T.z_range (pa_cons pe_int (pa_cons (pe_callB (call_max2 rfl) (by rfl) T.z_max Boot.«max» (pa_cons pe_int (pa_cons (pe_callB (call_min2 rfl) (by rfl) T.z_min Boot.«min» (pa_cons pe_int (pa_cons (pe_callB call_len_seq (by rfl) T.z_len Boot.«len» (pa_cons (pv 0) pa_nil)) pa_nil))) pa_nil))) pa_nil))) (pg_name (i:=3) sc_law.nd rfl (Or.inl rfl) (Or.inl rfl)) (pss_cons (ps_set (i:=1) sc_law.nd rfl (Or.inl rfl) (pe_call G__law_box hr rfl T.m__law_box T.F__law_box.kp T.b__law_box .nil pass0 (pa_cons (pe_call G__law_cell hr rfl T.m__law_cell T.F__law_cell.kp T.b__law_cell .nil pass0 (pa_cons (pv 0) (pa_cons (pv 3) pa_nil))) pa_nil))) (pss_cons (ps_set (i:=4) sc_law.nd rfl (Or.inl rfl) (pe_call G__law_take hr rfl T.m__law_take T.F__law_take.kp T.b__law_take .nil pass0 (pa_cons (pv 1) (pa_cons pe_int pa_nil)))) (pss_cons (ps_set (i:=5) sc_law.nd rfl (Or.inl rfl) (pe_cmpR op_eq (pe_call G__law_take hr rfl T.m__law_take T.F__law_take.kp T.b__law_take .nil pass0 (pa_cons (pv 1) (pa_cons pe_int pa_nil))) pe_int (nomark _))) (pss_one (ps_for PassesOwn.never rfl (pi_range1 rfl T.z_range (pa_cons (pe_op op_add pe_int (pe_call G__law_take hr rfl T.m__law_take T.F__law_take.kp T.b__law_take .nil pass0 (pa_cons (pv 1) (pa_cons pe_int pa_nil)))) pa_nil)) (pg_name (i:=6) sc_law.nd rfl (Or.inl rfl) (Or.inl rfl)) (pss_cons (ps_asg (pe_ix ix_list (pv 2) (pv 4) (fun _ _=>rfl)) (pg_tupL rfl (pgs_cons (pg_name (i:=7) sc_law.nd rfl (Or.inl rfl) (Or.inl rfl)) (pgs_cons (pg_name (i:=8) sc_law.nd rfl (Or.inl rfl) (Or.inl rfl)) (pgs_cons (pg_name (i:=9) sc_law.nd rfl (Or.inl rfl) (Or.inl rfl)) (pgs_cons (pg_name (i:=10) sc_law.nd rfl (Or.inl rfl) (Or.inl rfl)) pgs_nil)))))) (pss_cons (ps_if (pt_not (pt_val (pe_call G__law_deed hr rfl T.m__law_deed T.F__law_deed.kp T.b__law_deed .nil pass0 (pa_cons (pv 1) (pa_cons (pv 7) (pa_cons (pv 8) (pa_cons (pv 9) (pa_cons (pv 10) pa_nil)))))))) (pss_one (ps_ret pe_bl)) pss_nil) (pss_cons (ps_if (pt_val (pv 5)) (pss_one (ps_expr (pe_call G__law_twinned hr rfl T.m__law_twinned T.F__law_twinned.kp T.b__law_twinned .nil pass0 (pa_cons (pv 7) pa_nil)))) pss_nil) (pss_one (ps_for PassesOwn.never rfl (pi_list (pv 2)) (pg_tupL rfl (pgs_cons (pg_name (i:=7) sc_law.nd rfl (Or.inl rfl) (Or.inl rfl)) (pgs_cons (pg_name (i:=8) sc_law.nd rfl (Or.inl rfl) (Or.inl rfl)) (pgs_cons (pg_name (i:=9) sc_law.nd rfl (Or.inl rfl) (Or.inl rfl)) (pgs_cons (pg_name (i:=10) sc_law.nd rfl (Or.inl rfl) (Or.inl rfl)) pgs_nil))))) (pss_one (ps_if (pt_not (pt_val (pe_call G__law_right hr rfl T.m__law_right T.F__law_right.kp T.b__law_right .nil pass0 (pa_cons (pv 7) (pa_cons (pv 8) (pa_cons (pv 9) (pa_cons (pv 10) pa_nil))))))) (pss_one (ps_ret pe_bl)) pss_nil))))))))))))) (pss_one (ps_ret pe_bl))))),?_⟩;refine⟨_,rfl,a,ns,0,rfl,hS,by omega,by omega,fun c=>⟨c,rfl,fun b H1 hb B1 s1=> ?_⟩⟩;refine⟨_,rfl,b,0,rfl,B1,by omega,fun l0 a0 m0 r0 w0 xs0 o0 ps0 ts0 H2 Z0 G0 fa0 fm0 fo0 ap0 B2 K2=> ?_⟩;refine⟨_,rfl,b,20,rfl,B2,by omega,fun l1 a1 m1 r1 w1 xs1 o1 ps1 ts1 H3 Z1 G1 fa1 fm1 fo1 ap1 B3 K3=>⟨(show 2≤sizeLine by decide),fun bo hbo=> ?_⟩⟩;have s4:=Same.upd (o:= .lst [V.ref l0,V.ref l1]) hbo;have hb4:upd H3 bo (.lst [V.ref l0,V.ref l1]) bo=some (.lst [V.ref l0,V.ref l1]):=upd_same;generalize upd H3 bo (.lst [V.ref l0,V.ref l1])=H4 at s4 hb4;obtain⟨bx1,bx2,bx3,hbx,_⟩:=id B1;obtain⟨by1,by2,by3,hby,_⟩:=id B2
    have no1:∀{c},H1 c=none→c≠b:=fun e z=>by
      rw[z,hbx] at e;cases e
    have no2:∀{c},H2 c=none→c≠b:=fun e z=>by
      rw[z,hby] at e;cases e
    have k4:∀c o,c≠b→H2 c=some o→H4 c=some o:=fun c o h e=>s4 _ _ (K3 c o h e);have P0:PairAt A H2 a0 m0 ⟨l0,r0,w0,o0⟩ 0:=⟨_,_,_,_,_,_,_,_,_,_,Z0,G0,ap0,Nat.le_refl _,Nat.le_refl _⟩;have P1:PairAt A H3 a1 m1 ⟨l1,r1,w1,o1⟩ 0:=⟨_,_,_,_,_,_,_,_,_,_,Z1,G1,ap1,Nat.le_refl _,Nat.le_refl _⟩;have f0:∀c,InW a0 m0 ⟨l0,r0,w0,o0⟩ c→H1 c=none:=fun c h=>h.elim (fa0 c) fun h=>h.elim (fm0 c) (fo0 c);have f1:∀c,InW a1 m1 ⟨l1,r1,w1,o1⟩ c→H2 c=none:=fun c h=>h.elim (fa1 c) fun h=>h.elim (fm1 c) (fo1 c)
    have f12:∀c,H2 c=none→H1 c=none:=fun c e=>by
      cases z:H1 c with
      |none=>rfl
      | some q=>
        rw[K2 c q (no2 e) z] at e;cases e
    have s14:Same H H4:=fun c o e=>by
      have hcb:c≠b:=ne_of_none e hb;exact k4 c o hcb (K2 c o hcb (s1 c o e))
    have core:CoreAt A H H4 bo ⟨l0,r0,w0,o0⟩ ⟨l1,r1,w1,o1⟩ a0 m0 a1 m1 0:=by
      refine⟨s14,P0.kept fun c o h e=>k4 c o (no1 (f0 c h)) e,P1.kept fun c o _ e=>s4 c o e,fun c h h' => ?_,fun c h=> ?_,?_⟩
      · obtain⟨o,e⟩:=P0.al h
        rw[f1 c h'] at e;cases e
      · rcases h with h|h
        · refine⟨fun z=> ?_,s1.free (f0 c h)⟩
          subst z;obtain⟨o,e⟩:=P0.al h;rw[K3 _ _ (no1 (f0 _ h)) e] at hbo;cases hbo
        · refine⟨fun z=> ?_,s1.free (f12 c (f1 c h))⟩
          subst z;obtain⟨o,e⟩:=P1.al h;rw[e] at hbo;cases hbo
      · cases z:H bo with
        |none=>rfl
        | some q=>
          have hcb:bo≠b:=ne_of_none z hb;rw[K3 bo q hcb (K2 bo q hcb (s1 bo q z))] at hbo;cases hbo
    generalize hu0:(⟨l0,r0,w0,o0⟩:WS)=u0 at core;generalize hu1:(⟨l1,r1,w1,o1⟩:WS)=u1 at core;have el0:l0=u0.l:=by rw[←hu0]
    have el1:l1=u1.l:=by rw[←hu1]
    rw[el0,el1] at hb4;clear P0 P1 f0 f1 f12 Z0 Z1 G0 G1 K2 K3 B2 B3 fa0 fm0 fo0 ap0 fa1 fm1 fo1 ap1;refine⟨_,rfl,a,_,rfl,.inl (core.sm.seq hS),41,_,rfl,3,_,rfl,?_⟩;generalize hn:(if(if((List.map V.int ns).length:Int)<41 then((List.map V.int ns).length:Int) else 41)>3 then(if((List.map V.int ns).length:Int)<41 then((List.map V.int ns).length:Int) else 41) else 3)=n
    have nn:3≤n∧n≤41:=by
      rw[←hn]
      split<;>split<;>omega
    refine⟨1,n,rfl,⟨by omega,by omega,by omega,by omega⟩,?_⟩;refine for_range (lo:=1) (n:=(n - 1).toNat) (fun i σ H' =>∃(x1 x3 x4 x5 x6 x7 x8 x9 x10:Option V) (a0 a1:HA) (m0 m1:MA),σ=[some (.ref a),x1,some (.ref bo),x3,x4,x5,x6,x7,x8,x9,x10]∧H' bo=some (.lst [.ref u0.l,.ref u1.l])∧CoreAt A H H' bo u0 u1 a0 m0 a1 m1 (3*i)) ⟨_,_,_,_,_,_,_,_,_,a0,a1,m0,m1,rfl,hb4,core⟩ ?_ ?_
    · rintro i σ H5 hi ⟨x1,x3,x4,x5,x6,x7,x8,x9,x10,a0,a1,m0,m1,rfl,hb5,core⟩
      have hi' :i<40:=by omega
      refine⟨_,rfl,_,rfl,a,ns,_,rfl,core.sm.seq hS,by omega,by omega,fun c=>⟨c,rfl,fun b H6 hb B6 s6=> ?_⟩⟩;have ap:=core.apart hb5 hb;refine⟨_,rfl,b,2,0,rfl,B6,by omega,by decide,by decide,fun at_ H7 t0 t1 B7 O7=> ?_⟩;refine⟨_,rfl,b,5,1,rfl,B7,by omega,by decide,by decide,fun r8 H8 _ _ B8 O8=>⟨rfl,?_⟩⟩;generalize decide (V.int r8=V.int 0)=tw;refine⟨_,rfl,b,3,2,rfl,B8,by omega,by decide,by decide,fun r H9 r0 r1 B9 O9=>⟨1,r,rfl,rfl,1+r,rfl,by omega,by omega,?_⟩⟩;have K9:Kept b H5 H9:=(s6.kept.trans O7.kept).trans (O8.kept.trans O9.kept);refine for_range (lo:=0) (n:=(1+r).toNat) (fun j σ H' =>∃(x6 x7 x8 x9 x10:Option V) (a0 a1:HA) (m0 m1:MA),σ=[some (.ref a),some (.ref b),some (.ref bo),some (.int (1+(i:Int))),some (.int at_),some (.bl tw),x6,x7,x8,x9,x10]∧H' bo=some (.lst [.ref u0.l,.ref u1.l])∧BoxAt H' b (3+14*j)∧Apt H bo u0 u1 a0 m0 a1 m1 b∧CoreAt A H H' bo u0 u1 a0 m0 a1 m1 (3*i+j)) ⟨_,_,_,_,_,a0,a1,m0,m1,rfl,K9 _ _ ap.1.symm hb5,B9,ap,core.box ap K9⟩ ?_ ?_
      · rintro j σ H10 hj ⟨y6,y7,y8,y9,y10,a0,a1,m0,m1,rfl,hb10,B10,ap10,core10⟩
        have hj2:j<3:=by omega
        obtain⟨bz1,bz2,bz3,hbz,_⟩:=id B10
        have pick:∃(u:WS) (aa:HA) (mm:MA),atI [V.ref u0.l,V.ref u1.l] at_=some (.ref u.l)∧PairAt A H10 aa mm u (3*i+j)∧¬InW aa mm u b∧∀(a' :HA) (m' :MA) (H' :Hp),(∀x∈a'.own,x∈aa.own∨H10 x=none)→(∀x∈m'.own,x∈mm.own∨H10 x=none)→(∀x o,x≠b→¬x∈aa.own→¬x∈mm.own→¬x∈u.o→H10 x=some o→H' x=some o)→((∀x∈u.o,¬x∈a'.own∧¬x∈m'.own)→PairAt A H' a' m' u (3*i+(j+1)))→∃a0 a1 m0 m1,CoreAt A H H' bo u0 u1 a0 m0 a1 m1 (3*i+(j+1))∧Apt H bo u0 u1 a0 m0 a1 m1 b∧H' bo=some (.lst [.ref u0.l,.ref u1.l])∧PairAt A H' a' m' u (3*i+(j+1)):=by
          rcases(show at_=0∨at_=1 by omega) with rfl|rfl
          · refine⟨u0,a0,m0,rfl,core10.p0,ap10.2.1,fun a' m' H' ga gm kp p=> ?_⟩
            obtain⟨c',ap',hb'⟩:=core10.step (n' :=3*i+(j+1)) hb10 ap10 ⟨_,hbz⟩ (by omega) ga gm kp p;exact⟨a',a1,m',m1,c',ap',hb',c'.p0⟩
          · refine⟨u1,a1,m1,rfl,core10.p1,ap10.2.2.1,fun a' m' H' ga gm kp p=> ?_⟩
            obtain⟨c',ap',hb'⟩:=core10.swap.step (n' :=3*i+(j+1)) hb10 ap10.swap ⟨_,hbz⟩ (by omega) ga gm kp p;exact⟨a0,a',m0,m',c'.swap,ap'.swap,hb',c'.p0⟩
        obtain⟨u,aa,mm,hat,⟨xs,ps,ts,pk,R,N,rs,ws,ms,cs,W⟩,nin,back⟩:=pick;have hR:=W.hR;have hN:=W.hN;refine⟨_,rfl,_,rfl,bo,_,_,.ref u.l,rfl,rfl,SqL.of hb10,hat,?_⟩;refine⟨u.l,_,rfl,SqL.of W.G.hl,rfl,_,_,rfl,_,_,rfl,_,_,rfl,_,_,rfl,rfl,?_⟩;refine⟨_,rfl,_,rfl,_,rfl,_,rfl,_,rfl,b,3+14*j,aa,mm,u.l,u.lr,u.lw,xs,u.o,ps,ts,pk,R,N,rs,ws,ms,cs,rfl,⟨B10,W.Z,W.G,W.ap,⟨fun z=>nin (.inl z),fun z=>nin (.inr (.inl z)),fun z=>nin (.inr (.inr z))⟩,by omega,by omega⟩,by omega,fun a' m' xs' ps' ts' pk' R' N' rs' ws' ms' cs' H11 Z' G' ef ed ga gm kp B11 hR' hN' => ?_⟩;obtain⟨a0',a1',m0',m1',core11,ap11,hb11,_⟩:=back a' m' H11 ga gm kp fun hap=>⟨xs',ps',ts',pk',R',N',rs',ws',ms',cs',Z',G',hap,by omega,by omega⟩;refine⟨_,rfl,iteF ?_⟩;refine⟨_,rfl,_,rfl,?_⟩;have fin:∀(H12:Hp),Same H11 H12→∀y7 y8 y9 y10,∃(x6 x7 x8 x9 x10:Option V) (a0 a1:HA) (m0 m1:MA),[some (.ref a),some (.ref b),some (.ref bo),some (.int (1+(i:Int))),some (.int at_),some (.bl tw),some (.int (0+(j:Int))),y7,y8,y9,y10]=[some (.ref a),some (.ref b),some (.ref bo),some (.int (1+(i:Int))),some (.int at_),some (.bl tw),x6,x7,x8,x9,x10]∧H12 bo=some (.lst [.ref u0.l,.ref u1.l])∧BoxAt H12 b (3+14*(j+1))∧Apt H bo u0 u1 a0 m0 a1 m1 b∧CoreAt A H H12 bo u0 u1 a0 m0 a1 m1 (3*i+(j+1)):=fun H12 s12 y7 y8 y9 y10=>⟨_,_,_,_,_,a0',a1',m0',m1',rfl,s12 _ _ hb11,(B11.same s12).mono (by omega),ap11,core11.same s12⟩;refine ite2 (fun _=>⟨_,rfl,a',ps',ts',pk',R',N',rs',cs',(by rw[ef];rfl),Z'.h,Z'.G,by omega,by omega,fun H12 s12=> ?_⟩) (fun _=> ?_)
        rotate_left
        have s12:=Same.refl H11
        all_goals
          refine⟨_,rfl,bo,rfl,⟨_,SqL.of (s12 _ _ hb11)⟩,?_⟩;refine for_list (K:=K) (a:=bo) (xs:=[V.ref u0.l,V.ref u1.l]) (fun jj σ H' =>∃(x7 x8 x9 x10:Option V),σ=[some (.ref a),some (.ref b),some (.ref bo),some (.int (1+(i:Int))),some (.int at_),some (.bl tw),some (.int (0+(j:Int))),x7,x8,x9,x10]∧Same H11 H') ⟨_,_,_,_,rfl,s12⟩ ?_ ?_ ?_
          · rintro jj σ H' _ ⟨z7,z8,z9,z10,rfl,s'⟩
            exact SqL.of (s' _ _ hb11)
          · rintro jj x σ H13 hx ⟨z7,z8,z9,z10,rfl,s13⟩
            have hxu:∃(u:WS) (aa:HA) (mm:MA),x= .ref u.l∧PairAt A H13 aa mm u (3*i+(j+1)):=by
              have c13:=core11.same s13;have hj2:jj<2:=(List.getElem?_eq_some_iff.mp hx).1;rcases(show jj=0∨jj=1 by omega) with rfl|rfl
              · cases hx
                exact⟨u0,a0',m0',rfl,c13.p0⟩
              · cases hx
                exact⟨u1,a1',m1',rfl,c13.p1⟩
            obtain⟨v,ab,mb,rfl,⟨xs,ps,ts,pk,R,N,rs,ws,ms,cs,W⟩⟩:=hxu;have hR:=W.hR;refine⟨v.l,_,rfl,SqL.of W.G.hl,rfl,_,_,rfl,_,_,rfl,_,_,rfl,_,_,rfl,rfl,?_⟩;refine⟨_,rfl,_,rfl,_,rfl,_,rfl,ab,mb,v.l,v.lr,v.lw,xs,v.o,ps,ts,pk,R,N,rs,ws,ms,cs,rfl,W.Z,W.G,by omega,fun H14 s14=>⟨_,rfl,iteF ?_⟩⟩;exact⟨_,_,_,_,rfl,s13.trans s14⟩
          · rintro σ H13 ⟨z7,z8,z9,z10,rfl,s13⟩
            exact fin H13 s13 _ _ _ _
      · rintro σ H10 ⟨y6,y7,y8,y9,y10,a0,a1,m0,m1,rfl,hb10,B10,ap10,core10⟩
        exact⟨_,_,_,_,_,_,_,_,_,a0,a1,m0,m1,rfl,hb10,core10.mono (by omega)⟩
    · rintro σ H5 ⟨x1,x3,x4,x5,x6,x7,x8,x9,x10,a0,a1,m0,m1,rfl,hb5,core⟩
      exact q H5
end
end My
namespace My
open PySem L2 PyProof.Rows
theorem walk {l:PySem.W.OpenLaw} {q:Program} {loose:List Str} {XP:(Str→Option Value)→Heap→Prop} {YP:World→Heap→Prop} {d:DefRec} {K:Params→PySem.W.Frag} (hn:l.most=some 63) (hdf:d.params.defaults=[])
    (hY:∀(w:World) (h:Heap),YP w h→(K w.params).In h)
    (F:∀(w:World) (mg:Str→Option Value) (fa:Addr) (h:Heap),(K w.params).In h→h.Ns mainGlobals mg→mg d.name=some (.ref fa)→
      ∃fd:FuncData,(∀(s:Shared) (u:Value),BindsTo s fd ⟨[u],[]⟩ [("_law_script",u)])∧∀base:Heap,(K w.params).In base→base.Ns mainGlobals mg→FnOk l.prog w (K w.params) mg base CX0 11 fa fd ["_law_script"] (spLaw (K w.params))):
    PySem.W.WalkO q loose XP YP l.row.toRowW d [] (fun f vs=>PySem.call f vs):=
  L2.walk_of (n:=63) (k:=11) (x:="_law_script") (CX:=fun _=>CX0) (sp:=fun w=>spLaw (K w.params)) hn (by decide) hdf ⟨rfl,by decide,by decide,rfl⟩ hY F (fun _ _ a ns hl _ hS=>⟨a,ns,rfl,hS,hl,fun _=>rfl⟩) fun _ _ _ _ _ z=>z
theorem law_mk {l:PySem.W.OpenLaw} {w:World} {K:PySem.W.Frag} {h:Heap} {mg:Str→Option Value} {fa:Addr} (X:K.In h) (G:h.Ns mainGlobals mg) (hfa:mg "law"=some (.ref fa)) (hT:∃A:Adr,Txt K mg A):
    ∃fd:FuncData,(∀(s:Shared) (u:Value),BindsTo s fd ⟨[u],[]⟩ [("_law_script",u)])∧∀base:Heap,K.In base→base.Ns mainGlobals mg→FnOk l.prog w K mg base CX0 11 fa fd ["_law_script"] (spLaw K):=by
  obtain⟨A,T⟩:=hT;have e:=hfa.symm.trans T.m_law;cases e;exact⟨A.d_law,T.B_law,fun base _ _=>ok_law T⟩
open PySem.W (nsIn findIn isFn codeIn keepIn typeIn specialIn readsIn findCls mroIn hasDictIn plainGet plainOver makesIn takesIn mg_of mg_none_of) in
theorem txt_mk {K:PySem.W.Frag} {h:Heap} {mg:Str→Option Value} (X:K.In h) (G:h.Ns mainGlobals mg)
    {C_0:Addr}
    {C_1:Addr}
    {C_2:Addr}
    {C_3:Addr}
    {C_4:Addr}
    {f0 f1 f2 f3 f4 f5 f6 f7 f8 f9 f10 f11 f12 f13 f14 f15 f16 f17 f18 f19 f20 f21 f22 f23 f24 f25 f26 f27 f28 f29 f30 f31 f32 f33 f34 f35 f36 f37 f38 f39 f40 f41 f42 f43 f44 f45 f46 f47 f48 f49 f50 f51 f52:Addr} {od0 an0 od1 an1 od2 an2 od3 an3 od4 an4 od5 an5 od6 an6 od7 an7 od8 an8 od9 an9 od10 an10 od11 an11 od12 an12 od13 an13 od14 an14 od15 an15 od16 an16 od17 an17 od18 an18 od19 an19 od20 an20 od21 an21 od22 an22 od23 an23 od24 an24 od25 an25 od26 an26 od27 an27 od28 an28 od29 an29 od30 an30 od31 an31 od32 an32 od33 an33 od34 an34 od35 an35 od36 an36 od37 an37 od38 an38 od39 an39 od40 an40 od41 an41 od42 an42 od43 an43 od44 an44 od45 an45 od46 an46 od47 an47 od48 an48 od49 an49 od50 an50 od51 an51 od52 an52:Option Addr} {sl0 sl1 sl2 sl3 sl4 sl5 sl6 sl7 sl8 sl9 sl10 sl11 sl12 sl13 sl14 sl15 sl16 sl17 sl18 sl19 sl20 sl21 sl22 sl23 sl24 sl25 sl26 sl27 sl28 sl29 sl30 sl31 sl32 sl33 sl34 sl35 sl36 sl37 sl38 sl39 sl40 sl41 sl42 sl43 sl44 sl45 sl46 sl47 sl48 sl49 sl50 sl51 sl52:Array (Option Value)} {oc0 kV0 dc0 pm0 cd0 ct0 oc1 kV1 dc1 pm1 cd1 ct1 oc2 kV2 dc2 pm2 cd2 ct2 oc3 kV3 dc3 pm3 cd3 ct3 oc4 kV4 dc4 pm4 cd4 ct4 oc5 kV5 dc5 pm5 cd5 ct5 oc6 kV6 dc6 pm6 cd6 ct6 oc7 kV7 dc7 pm7 cd7 ct7 oc8 kV8 dc8 pm8 cd8 ct8 oc9 kV9 dc9 pm9 cd9 ct9 oc10 kV10 dc10 pm10 cd10 ct10 oc11 kV11 dc11 pm11 cd11 ct11 oc12 kV12 dc12 pm12 cd12 ct12 oc13 kV13 dc13 pm13 cd13 ct13 oc14 kV14 dc14 pm14 cd14 ct14 oc15 kV15 dc15 pm15 cd15 ct15 oc16 kV16 dc16 pm16 cd16 ct16 oc17 kV17 dc17 pm17 cd17 ct17 oc18 kV18 dc18 pm18 cd18 ct18 oc19 kV19 dc19 pm19 cd19 ct19 oc20 kV20 dc20 pm20 cd20 ct20 oc21 kV21 dc21 pm21 cd21 ct21 oc22 kV22 dc22 pm22 cd22 ct22 oc23 kV23 dc23 pm23 cd23 ct23 oc24 kV24 dc24 pm24 cd24 ct24 oc25 kV25 dc25 pm25 cd25 ct25 oc26 kV26 dc26 pm26 cd26 ct26 oc27 kV27 dc27 pm27 cd27 ct27 oc28 kV28 dc28 pm28 cd28 ct28 oc29 kV29 dc29 pm29 cd29 ct29 oc30 kV30 dc30 pm30 cd30 ct30 oc31 kV31 dc31 pm31 cd31 ct31 oc32 kV32 dc32 pm32 cd32 ct32 oc33 kV33 dc33 pm33 cd33 ct33 oc34 kV34 dc34 pm34 cd34 ct34 oc35 kV35 dc35 pm35 cd35 ct35 oc36 kV36 dc36 pm36 cd36 ct36 oc37 kV37 dc37 pm37 cd37 ct37 oc38 kV38 dc38 pm38 cd38 ct38 oc39 kV39 dc39 pm39 cd39 ct39 oc40 kV40 dc40 pm40 cd40 ct40 oc41 kV41 dc41 pm41 cd41 ct41 oc42 kV42 dc42 pm42 cd42 ct42 oc43 kV43 dc43 pm43 cd43 ct43 oc44 kV44 dc44 pm44 cd44 ct44 oc45 kV45 dc45 pm45 cd45 ct45 oc46 kV46 dc46 pm46 cd46 ct46 oc47 kV47 dc47 pm47 cd47 ct47 oc48 kV48 dc48 pm48 cd48 ct48 oc49 kV49 dc49 pm49 cd49 ct49 oc50 kV50 dc50 pm50 cd50 ct50 oc51 kV51 dc51 pm51 cd51 ct51 oc52 kV52 dc52 pm52 cd52 ct52:Value}
    {nm_0 q_0:Str} {N_0:Addr} {bs_0 bm_0:List Value} {sn_0:List Str} {sub_0:List Value} {ab_0:Bool} {col_0:Option Bool} {dd_0:Option Addr} {k0_0 k1_0 k2_0 k3_0 k5_0:Option Value}
    {nm_1 q_1:Str} {N_1:Addr} {bs_1 bm_1:List Value} {sn_1:List Str} {sub_1:List Value} {ab_1:Bool} {col_1:Option Bool} {dd_1:Option Addr} {k0_1 k1_1 k2_1 k3_1 k5_1:Option Value}
    {u_GROUND:Tok}
    {u_MOST_CELLS:Tok}
    {u_MOST_CELLS_OF_ROOM:Tok}
    {u_MOST_FRAMES:Tok}
    {u_MOST_OF_RING:Tok}
    (c_0:nsIn K mainGlobals "RoomError"=some (some (.ref C_0)))
    (c_1:nsIn K mainGlobals "Gone"=some (some (.ref C_1)))
    (c_2:nsIn K mainGlobals "Ring"=some (some (.ref C_2)))
    (c_3:nsIn K mainGlobals "Frames"=some (some (.ref C_3)))
    (c_4:nsIn K mainGlobals "House"=some (some (.ref C_4)))
    (a0:findIn K (.ref C_0) "__init__"=some (some (.ref f0)))
    (i0:isFn K (.ref f0)=true)
    (l0:K.lookup f0=some ⟨oc0,od0,.func (fS "__init__" "RoomError.__init__" s_RoomError___init__ kV0 dc0 pm0 an0 cd0 ct0),sl0⟩) (c0:codeIn K cd0 "RoomError.__init__"=true) (k0:keepIn K (.ref f0)=true)
    (a1:findIn K (.ref C_1) "__init__"=some (some (.ref f1)))
    (i1:isFn K (.ref f1)=true)
    (l1:K.lookup f1=some ⟨oc1,od1,.func (fS "__init__" "Gone.__init__" s_Gone___init__ kV1 dc1 pm1 an1 cd1 ct1),sl1⟩) (c1:codeIn K cd1 "Gone.__init__"=true) (k1:keepIn K (.ref f1)=true)
    (a2:nsIn K mainGlobals "is_number"=some (some (.ref f2)))
    (l2:K.lookup f2=some ⟨oc2,od2,.func (fS "is_number" "is_number" s_is_number kV2 dc2 pm2 an2 cd2 ct2),sl2⟩) (c2:codeIn K cd2 "is_number"=true) (k2:keepIn K (.ref f2)=true)
    (a3:nsIn K mainGlobals "is_whole"=some (some (.ref f3)))
    (l3:K.lookup f3=some ⟨oc3,od3,.func (fS "is_whole" "is_whole" s_is_whole kV3 dc3 pm3 an3 cd3 ct3),sl3⟩) (c3:codeIn K cd3 "is_whole"=true) (k3:keepIn K (.ref f3)=true)
    (a4:nsIn K mainGlobals "is_count"=some (some (.ref f4)))
    (l4:K.lookup f4=some ⟨oc4,od4,.func (fS "is_count" "is_count" s_is_count kV4 dc4 pm4 an4 cd4 ct4),sl4⟩) (c4:codeIn K cd4 "is_count"=true) (k4:keepIn K (.ref f4)=true)
    (a5:nsIn K mainGlobals "is_pair"=some (some (.ref f5)))
    (l5:K.lookup f5=some ⟨oc5,od5,.func (fS "is_pair" "is_pair" s_is_pair kV5 dc5 pm5 an5 cd5 ct5),sl5⟩) (c5:codeIn K cd5 "is_pair"=true) (k5:keepIn K (.ref f5)=true)
    (a6:findIn K (.ref C_2) "__init__"=some (some (.ref f6)))
    (i6:isFn K (.ref f6)=true)
    (l6:K.lookup f6=some ⟨oc6,od6,.func (fS "__init__" "Ring.__init__" s_Ring___init__ kV6 dc6 pm6 an6 cd6 ct6),sl6⟩) (c6:codeIn K cd6 "Ring.__init__"=true) (k6:keepIn K (.ref f6)=true)
    (a7:findIn K (.ref C_2) "turn"=some (some (.ref f7)))
    (i7:isFn K (.ref f7)=true)
    (l7:K.lookup f7=some ⟨oc7,od7,.func (fS "turn" "Ring.turn" s_Ring_turn kV7 dc7 pm7 an7 cd7 ct7),sl7⟩) (c7:codeIn K cd7 "Ring.turn"=true) (k7:keepIn K (.ref f7)=true)
    (a8:findIn K (.ref C_2) "frames"=some (some (.ref f8)))
    (i8:isFn K (.ref f8)=true)
    (l8:K.lookup f8=some ⟨oc8,od8,.func (fS "frames" "Ring.frames" s_Ring_frames kV8 dc8 pm8 an8 cd8 ct8),sl8⟩) (c8:codeIn K cd8 "Ring.frames"=true) (k8:keepIn K (.ref f8)=true)
    (a9:findIn K (.ref C_2) "last"=some (some (.ref f9)))
    (i9:isFn K (.ref f9)=true)
    (l9:K.lookup f9=some ⟨oc9,od9,.func (fS "last" "Ring.last" s_Ring_last kV9 dc9 pm9 an9 cd9 ct9),sl9⟩) (c9:codeIn K cd9 "Ring.last"=true) (k9:keepIn K (.ref f9)=true)
    (a10:findIn K (.ref C_3) "__init__"=some (some (.ref f10)))
    (i10:isFn K (.ref f10)=true)
    (l10:K.lookup f10=some ⟨oc10,od10,.func (fS "__init__" "Frames.__init__" s_Frames___init__ kV10 dc10 pm10 an10 cd10 ct10),sl10⟩) (c10:codeIn K cd10 "Frames.__init__"=true) (k10:keepIn K (.ref f10)=true)
    (a11:findIn K (.ref C_4) "begin"=some (some (.ref f11)))
    (i11:isFn K (.ref f11)=true)
    (l11:K.lookup f11=some ⟨oc11,od11,.func (fS "begin" "Frames.begin" s_Frames_begin kV11 dc11 pm11 an11 cd11 ct11),sl11⟩) (c11:codeIn K cd11 "Frames.begin"=true) (k11:keepIn K (.ref f11)=true)
    (a12:findIn K (.ref C_4) "finish"=some (some (.ref f12)))
    (i12:isFn K (.ref f12)=true)
    (l12:K.lookup f12=some ⟨oc12,od12,.func (fS "finish" "Frames.finish" s_Frames_finish kV12 dc12 pm12 an12 cd12 ct12),sl12⟩) (c12:codeIn K cd12 "Frames.finish"=true) (k12:keepIn K (.ref f12)=true)
    (a13:findIn K (.ref C_4) "part"=some (some (.ref f13)))
    (i13:isFn K (.ref f13)=true)
    (l13:K.lookup f13=some ⟨oc13,od13,.func (fS "part" "Frames.part" s_Frames_part kV13 dc13 pm13 an13 cd13 ct13),sl13⟩) (c13:codeIn K cd13 "Frames.part"=true) (k13:keepIn K (.ref f13)=true)
    (a14:findIn K (.ref C_4) "row"=some (some (.ref f14)))
    (i14:isFn K (.ref f14)=true)
    (l14:K.lookup f14=some ⟨oc14,od14,.func (fS "row" "Frames.row" s_Frames_row kV14 dc14 pm14 an14 cd14 ct14),sl14⟩) (c14:codeIn K cd14 "Frames.row"=true) (k14:keepIn K (.ref f14)=true)
    (a15:findIn K (.ref C_4) "ended_by"=some (some (.ref f15)))
    (i15:isFn K (.ref f15)=true)
    (l15:K.lookup f15=some ⟨oc15,od15,.func (fS "ended_by" "Frames.ended_by" s_Frames_ended_by kV15 dc15 pm15 an15 cd15 ct15),sl15⟩) (c15:codeIn K cd15 "Frames.ended_by"=true) (k15:keepIn K (.ref f15)=true)
    (a16:findIn K (.ref C_4) "stands"=some (some (.ref f16)))
    (i16:isFn K (.ref f16)=true)
    (l16:K.lookup f16=some ⟨oc16,od16,.func (fS "stands" "Frames.stands" s_Frames_stands kV16 dc16 pm16 an16 cd16 ct16),sl16⟩) (c16:codeIn K cd16 "Frames.stands"=true) (k16:keepIn K (.ref f16)=true)
    (a17:findIn K (.ref C_4) "standing"=some (some (.ref f17)))
    (i17:isFn K (.ref f17)=true)
    (l17:K.lookup f17=some ⟨oc17,od17,.func (fS "standing" "Frames.standing" s_Frames_standing kV17 dc17 pm17 an17 cd17 ct17),sl17⟩) (c17:codeIn K cd17 "Frames.standing"=true) (k17:keepIn K (.ref f17)=true)
    (a18:findIn K (.ref C_4) "begun"=some (some (.ref f18)))
    (i18:isFn K (.ref f18)=true)
    (l18:K.lookup f18=some ⟨oc18,od18,.func (fS "begun" "Frames.begun" s_Frames_begun kV18 dc18 pm18 an18 cd18 ct18),sl18⟩) (c18:codeIn K cd18 "Frames.begun"=true) (k18:keepIn K (.ref f18)=true)
    (a19:findIn K (.ref C_4) "was_begun"=some (some (.ref f19)))
    (i19:isFn K (.ref f19)=true)
    (l19:K.lookup f19=some ⟨oc19,od19,.func (fS "was_begun" "Frames.was_begun" s_Frames_was_begun kV19 dc19 pm19 an19 cd19 ct19),sl19⟩) (c19:codeIn K cd19 "Frames.was_begun"=true) (k19:keepIn K (.ref f19)=true)
    (a20:findIn K (.ref C_4) "want_begun"=some (some (.ref f20)))
    (i20:isFn K (.ref f20)=true)
    (l20:K.lookup f20=some ⟨oc20,od20,.func (fS "want_begun" "Frames.want_begun" s_Frames_want_begun kV20 dc20 pm20 an20 cd20 ct20),sl20⟩) (c20:codeIn K cd20 "Frames.want_begun"=true) (k20:keepIn K (.ref f20)=true)
    (a21:findIn K (.ref C_4) "want_standing"=some (some (.ref f21)))
    (i21:isFn K (.ref f21)=true)
    (l21:K.lookup f21=some ⟨oc21,od21,.func (fS "want_standing" "Frames.want_standing" s_Frames_want_standing kV21 dc21 pm21 an21 cd21 ct21),sl21⟩) (c21:codeIn K cd21 "Frames.want_standing"=true) (k21:keepIn K (.ref f21)=true)
    (a22:findIn K (.ref C_4) "want_beginning"=some (some (.ref f22)))
    (i22:isFn K (.ref f22)=true)
    (l22:K.lookup f22=some ⟨oc22,od22,.func (fS "want_beginning" "Frames.want_beginning" s_Frames_want_beginning kV22 dc22 pm22 an22 cd22 ct22),sl22⟩) (c22:codeIn K cd22 "Frames.want_beginning"=true) (k22:keepIn K (.ref f22)=true)
    (a23:findIn K (.ref C_4) "want_finishing"=some (some (.ref f23)))
    (i23:isFn K (.ref f23)=true)
    (l23:K.lookup f23=some ⟨oc23,od23,.func (fS "want_finishing" "Frames.want_finishing" s_Frames_want_finishing kV23 dc23 pm23 an23 cd23 ct23),sl23⟩) (c23:codeIn K cd23 "Frames.want_finishing"=true) (k23:keepIn K (.ref f23)=true)
    (a24:findIn K (.ref C_4) "__init__"=some (some (.ref f24)))
    (i24:isFn K (.ref f24)=true)
    (l24:K.lookup f24=some ⟨oc24,od24,.func (fS "__init__" "House.__init__" s_House___init__ kV24 dc24 pm24 an24 cd24 ct24),sl24⟩) (c24:codeIn K cd24 "House.__init__"=true) (k24:keepIn K (.ref f24)=true)
    (a25:findIn K (.ref C_4) "make"=some (some (.ref f25)))
    (i25:isFn K (.ref f25)=true)
    (l25:K.lookup f25=some ⟨oc25,od25,.func (fS "make" "House.make" s_House_make kV25 dc25 pm25 an25 cd25 ct25),sl25⟩) (c25:codeIn K cd25 "House.make"=true) (k25:keepIn K (.ref f25)=true)
    (a26:findIn K (.ref C_4) "size"=some (some (.ref f26)))
    (i26:isFn K (.ref f26)=true)
    (l26:K.lookup f26=some ⟨oc26,od26,.func (fS "size" "House.size" s_House_size kV26 dc26 pm26 an26 cd26 ct26),sl26⟩) (c26:codeIn K cd26 "House.size"=true) (k26:keepIn K (.ref f26)=true)
    (a27:findIn K (.ref C_4) "used"=some (some (.ref f27)))
    (i27:isFn K (.ref f27)=true)
    (l27:K.lookup f27=some ⟨oc27,od27,.func (fS "used" "House.used" s_House_used kV27 dc27 pm27 an27 cd27 ct27),sl27⟩) (c27:codeIn K cd27 "House.used"=true) (k27:keepIn K (.ref f27)=true)
    (a28:findIn K (.ref C_4) "left"=some (some (.ref f28)))
    (i28:isFn K (.ref f28)=true)
    (l28:K.lookup f28=some ⟨oc28,od28,.func (fS "left" "House.left" s_House_left kV28 dc28 pm28 an28 cd28 ct28),sl28⟩) (c28:codeIn K cd28 "House.left"=true) (k28:keepIn K (.ref f28)=true)
    (a29:findIn K (.ref C_4) "greatest"=some (some (.ref f29)))
    (i29:isFn K (.ref f29)=true)
    (l29:K.lookup f29=some ⟨oc29,od29,.func (fS "greatest" "House.greatest" s_House_greatest kV29 dc29 pm29 an29 cd29 ct29),sl29⟩) (c29:codeIn K cd29 "House.greatest"=true) (k29:keepIn K (.ref f29)=true)
    (a30:findIn K (.ref C_4) "twin"=some (some (.ref f30)))
    (i30:isFn K (.ref f30)=true)
    (l30:K.lookup f30=some ⟨oc30,od30,.func (fS "twin" "House.twin" s_House_twin kV30 dc30 pm30 an30 cd30 ct30),sl30⟩) (c30:codeIn K cd30 "House.twin"=true) (k30:keepIn K (.ref f30)=true)
    (a31:findIn K (.ref C_4) "is_way"=some (some (.ref f31)))
    (i31:isFn K (.ref f31)=true)
    (l31:K.lookup f31=some ⟨oc31,od31,.func (fS "is_way" "House.is_way" s_House_is_way kV31 dc31 pm31 an31 cd31 ct31),sl31⟩) (c31:codeIn K cd31 "House.is_way"=true) (k31:keepIn K (.ref f31)=true)
    (a32:findIn K (.ref C_4) "want_room"=some (some (.ref f32)))
    (i32:isFn K (.ref f32)=true)
    (l32:K.lookup f32=some ⟨oc32,od32,.func (fS "want_room" "House.want_room" s_House_want_room kV32 dc32 pm32 an32 cd32 ct32),sl32⟩) (c32:codeIn K cd32 "House.want_room"=true) (k32:keepIn K (.ref f32)=true)
    (a33:nsIn K mainGlobals "_law_cell"=some (some (.ref f33)))
    (l33:K.lookup f33=some ⟨oc33,od33,.func (fS "_law_cell" "_law_cell" s__law_cell kV33 dc33 pm33 an33 cd33 ct33),sl33⟩) (c33:codeIn K cd33 "_law_cell"=true) (k33:keepIn K (.ref f33)=true)
    (a34:nsIn K mainGlobals "_law_box"=some (some (.ref f34)))
    (l34:K.lookup f34=some ⟨oc34,od34,.func (fS "_law_box" "_law_box" s__law_box kV34 dc34 pm34 an34 cd34 ct34),sl34⟩) (c34:codeIn K cd34 "_law_box"=true) (k34:keepIn K (.ref f34)=true)
    (a35:nsIn K mainGlobals "_law_take"=some (some (.ref f35)))
    (l35:K.lookup f35=some ⟨oc35,od35,.func (fS "_law_take" "_law_take" s__law_take kV35 dc35 pm35 an35 cd35 ct35),sl35⟩) (c35:codeIn K cd35 "_law_take"=true) (k35:keepIn K (.ref f35)=true)
    (a36:nsIn K mainGlobals "_law_house"=some (some (.ref f36)))
    (l36:K.lookup f36=some ⟨oc36,od36,.func (fS "_law_house" "_law_house" s__law_house kV36 dc36 pm36 an36 cd36 ct36),sl36⟩) (c36:codeIn K cd36 "_law_house"=true) (k36:keepIn K (.ref f36)=true)
    (a37:nsIn K mainGlobals "_law_standing"=some (some (.ref f37)))
    (l37:K.lookup f37=some ⟨oc37,od37,.func (fS "_law_standing" "_law_standing" s__law_standing kV37 dc37 pm37 an37 cd37 ct37),sl37⟩) (c37:codeIn K cd37 "_law_standing"=true) (k37:keepIn K (.ref f37)=true)
    (a38:nsIn K mainGlobals "_law_row"=some (some (.ref f38)))
    (l38:K.lookup f38=some ⟨oc38,od38,.func (fS "_law_row" "_law_row" s__law_row kV38 dc38 pm38 an38 cd38 ct38),sl38⟩) (c38:codeIn K cd38 "_law_row"=true) (k38:keepIn K (.ref f38)=true)
    (a39:nsIn K mainGlobals "_law_begin"=some (some (.ref f39)))
    (l39:K.lookup f39=some ⟨oc39,od39,.func (fS "_law_begin" "_law_begin" s__law_begin kV39 dc39 pm39 an39 cd39 ct39),sl39⟩) (c39:codeIn K cd39 "_law_begin"=true) (k39:keepIn K (.ref f39)=true)
    (a40:nsIn K mainGlobals "_law_finish"=some (some (.ref f40)))
    (l40:K.lookup f40=some ⟨oc40,od40,.func (fS "_law_finish" "_law_finish" s__law_finish kV40 dc40 pm40 an40 cd40 ct40),sl40⟩) (c40:codeIn K cd40 "_law_finish"=true) (k40:keepIn K (.ref f40)=true)
    (a41:nsIn K mainGlobals "_law_given"=some (some (.ref f41)))
    (l41:K.lookup f41=some ⟨oc41,od41,.func (fS "_law_given" "_law_given" s__law_given kV41 dc41 pm41 an41 cd41 ct41),sl41⟩) (c41:codeIn K cd41 "_law_given"=true) (k41:keepIn K (.ref f41)=true)
    (a42:nsIn K mainGlobals "_law_used"=some (some (.ref f42)))
    (l42:K.lookup f42=some ⟨oc42,od42,.func (fS "_law_used" "_law_used" s__law_used kV42 dc42 pm42 an42 cd42 ct42),sl42⟩) (c42:codeIn K cd42 "_law_used"=true) (k42:keepIn K (.ref f42)=true)
    (a43:nsIn K mainGlobals "_law_make"=some (some (.ref f43)))
    (l43:K.lookup f43=some ⟨oc43,od43,.func (fS "_law_make" "_law_make" s__law_make kV43 dc43 pm43 an43 cd43 ct43),sl43⟩) (c43:codeIn K cd43 "_law_make"=true) (k43:keepIn K (.ref f43)=true)
    (a44:nsIn K mainGlobals "_law_one"=some (some (.ref f44)))
    (l44:K.lookup f44=some ⟨oc44,od44,.func (fS "_law_one" "_law_one" s__law_one kV44 dc44 pm44 an44 cd44 ct44),sl44⟩) (c44:codeIn K cd44 "_law_one"=true) (k44:keepIn K (.ref f44)=true)
    (a45:nsIn K mainGlobals "_law_frames"=some (some (.ref f45)))
    (l45:K.lookup f45=some ⟨oc45,od45,.func (fS "_law_frames" "_law_frames" s__law_frames kV45 dc45 pm45 an45 cd45 ct45),sl45⟩) (c45:codeIn K cd45 "_law_frames"=true) (k45:keepIn K (.ref f45)=true)
    (a46:nsIn K mainGlobals "_law_turned"=some (some (.ref f46)))
    (l46:K.lookup f46=some ⟨oc46,od46,.func (fS "_law_turned" "_law_turned" s__law_turned kV46 dc46 pm46 an46 cd46 ct46),sl46⟩) (c46:codeIn K cd46 "_law_turned"=true) (k46:keepIn K (.ref f46)=true)
    (a47:nsIn K mainGlobals "_law_deed"=some (some (.ref f47)))
    (l47:K.lookup f47=some ⟨oc47,od47,.func (fS "_law_deed" "_law_deed" s__law_deed kV47 dc47 pm47 an47 cd47 ct47),sl47⟩) (c47:codeIn K cd47 "_law_deed"=true) (k47:keepIn K (.ref f47)=true)
    (a48:nsIn K mainGlobals "_law_touched"=some (some (.ref f48)))
    (l48:K.lookup f48=some ⟨oc48,od48,.func (fS "_law_touched" "_law_touched" s__law_touched kV48 dc48 pm48 an48 cd48 ct48),sl48⟩) (c48:codeIn K cd48 "_law_touched"=true) (k48:keepIn K (.ref f48)=true)
    (a49:nsIn K mainGlobals "_law_right"=some (some (.ref f49)))
    (l49:K.lookup f49=some ⟨oc49,od49,.func (fS "_law_right" "_law_right" s__law_right kV49 dc49 pm49 an49 cd49 ct49),sl49⟩) (c49:codeIn K cd49 "_law_right"=true) (k49:keepIn K (.ref f49)=true)
    (a50:nsIn K mainGlobals "_law_begun"=some (some (.ref f50)))
    (l50:K.lookup f50=some ⟨oc50,od50,.func (fS "_law_begun" "_law_begun" s__law_begun kV50 dc50 pm50 an50 cd50 ct50),sl50⟩) (c50:codeIn K cd50 "_law_begun"=true) (k50:keepIn K (.ref f50)=true)
    (a51:nsIn K mainGlobals "_law_twinned"=some (some (.ref f51)))
    (l51:K.lookup f51=some ⟨oc51,od51,.func (fS "_law_twinned" "_law_twinned" s__law_twinned kV51 dc51 pm51 an51 cd51 ct51),sl51⟩) (c51:codeIn K cd51 "_law_twinned"=true) (k51:keepIn K (.ref f51)=true)
    (a52:nsIn K mainGlobals "law"=some (some (.ref f52)))
    (l52:K.lookup f52=some ⟨oc52,od52,.func (fS "law" "law" s_law kV52 dc52 pm52 an52 cd52 ct52),sl52⟩) (c52:codeIn K cd52 "law"=true) (k52:keepIn K (.ref f52)=true)
    (x_0:K.lookup C_0=some (excClassObj nm_0 q_0 C_0 N_0 bs_0 bm_0 true sn_0 sub_0 ab_0 col_0 dd_0 k0_0 k1_0 k2_0 k3_0 k5_0 "ValueError.__new__"))
    (t_0:TailHas bm_0)
    (ty_0:typeIn K (.ref f0)=some (.type "function")) (kc_0:keepIn K (.ref C_0)=true) (sp_0:specialIn K (.ref C_0) "__getattribute__"=some (some (.builtin "type.__getattribute__"))) (rd_0:readsIn K C_0 (.type "type")=true) (fc_0:findCls K (.ref C_0) (.type "type") "__init__"=some (.val (.ref f0)))
    (rf_0:∀self,refuseLoop self "__setattr__" bm_0=pure ())
    (ob_0:bm_0.contains (.type "object")=true)
    (sa_0:findIn K (.ref C_0) "__setattr__"=some (some (.builtin "object.__setattr__"))) (ga_0:findIn K (.ref C_0) "__getattribute__"=some (some (.builtin "BaseException.__getattribute__"))) (hk_0:findIn K (.ref C_0) "__getattr__"=some none) (mr_0:mroIn K C_0 (.type "BaseException")=some true) (hd_0:hasDictIn K C_0=true)
    (u_0_0:(Value.ref C_0::bm_0).contains (.ref C_0)=true)
    (x_1:K.lookup C_1=some (excClassObj nm_1 q_1 C_1 N_1 bs_1 bm_1 true sn_1 sub_1 ab_1 col_1 dd_1 k0_1 k1_1 k2_1 k3_1 k5_1 "ValueError.__new__"))
    (t_1:TailHas bm_1)
    (ty_1:typeIn K (.ref f1)=some (.type "function")) (kc_1:keepIn K (.ref C_1)=true) (sp_1:specialIn K (.ref C_1) "__getattribute__"=some (some (.builtin "type.__getattribute__"))) (rd_1:readsIn K C_1 (.type "type")=true) (fc_1:findCls K (.ref C_1) (.type "type") "__init__"=some (.val (.ref f1)))
    (rf_1:∀self,refuseLoop self "__setattr__" bm_1=pure ())
    (ob_1:bm_1.contains (.type "object")=true)
    (sa_1:findIn K (.ref C_1) "__setattr__"=some (some (.builtin "object.__setattr__"))) (ga_1:findIn K (.ref C_1) "__getattribute__"=some (some (.builtin "BaseException.__getattribute__"))) (hk_1:findIn K (.ref C_1) "__getattr__"=some none) (mr_1:mroIn K C_1 (.type "BaseException")=some true) (hd_1:hasDictIn K C_1=true)
    (u_1_1:(Value.ref C_1::bm_1).contains (.ref C_1)=true)
    (u_1_RoomError:(Value.ref C_1::bm_1).contains (.ref C_0)=true)
    (n_1_by:findIn K (.ref C_1) "by"=some none)
    (n_1_found:findIn K (.ref C_1) "found"=some none)
    (pg_2:plainGet K C_2 Str.empty=true) (hd_2:hasDictIn K C_2=true) (po_2:plainOver K C_2=true) (sa_2:findIn K (.ref C_2) "__setattr__"=some (some (.builtin "object.__setattr__"))) (mk_2:makesIn K C_2=true) (kc_2:keepIn K (.ref C_2)=true)
    (n_2_frame:findIn K (.ref C_2) "frame"=some none)
    (n_2_house:findIn K (.ref C_2) "house"=some none)
    (n_2_many:findIn K (.ref C_2) "many"=some none)
    (n_2_turned:findIn K (.ref C_2) "turned"=some none)
    (pg_3:plainGet K C_3 Str.empty=true) (hd_3:hasDictIn K C_3=true) (po_3:plainOver K C_3=true) (sa_3:findIn K (.ref C_3) "__setattr__"=some (some (.builtin "object.__setattr__"))) (mk_3:makesIn K C_3=true) (kc_3:keepIn K (.ref C_3)=true)
    (sp_3:specialIn K (.ref C_3) "__getattribute__"=some (some (.builtin "type.__getattribute__"))) (rd_3:readsIn K C_3 (.type "type")=true) (fc_3:findCls K (.ref C_3) (.type "type") "__init__"=some (.val (.ref f10)))
    (n_3_parents:findIn K (.ref C_3) "parents"=some none)
    (n_3_takers:findIn K (.ref C_3) "takers"=some none)
    (pg_4:plainGet K C_4 Str.empty=true) (hd_4:hasDictIn K C_4=true) (po_4:plainOver K C_4=true) (sa_4:findIn K (.ref C_4) "__setattr__"=some (some (.builtin "object.__setattr__"))) (mk_4:makesIn K C_4=true) (kc_4:keepIn K (.ref C_4)=true)
    (n_4_bound:findIn K (.ref C_4) "bound"=some none)
    (n_4_floors:findIn K (.ref C_4) "floors"=some none)
    (n_4_lengths:findIn K (.ref C_4) "lengths"=some none)
    (n_4_parents:findIn K (.ref C_4) "parents"=some none)
    (n_4_peak:findIn K (.ref C_4) "peak"=some none)
    (n_4_takers:findIn K (.ref C_4) "takers"=some none)
    (z_ValueError:nsIn K mainGlobals "ValueError"=some none)
    (z_bool:nsIn K mainGlobals "bool"=some none)
    (z_dict:nsIn K mainGlobals "dict"=some none)
    (z_enumerate:nsIn K mainGlobals "enumerate"=some none)
    (z_int:nsIn K mainGlobals "int"=some none)
    (z_isinstance:nsIn K mainGlobals "isinstance"=some none)
    (z_len:nsIn K mainGlobals "len"=some none)
    (z_list:nsIn K mainGlobals "list"=some none)
    (z_max:nsIn K mainGlobals "max"=some none)
    (z_min:nsIn K mainGlobals "min"=some none)
    (z_range:nsIn K mainGlobals "range"=some none)
    (z_repr:nsIn K mainGlobals "repr"=some none)
    (z_reversed:nsIn K mainGlobals "reversed"=some none)
    (z_sum:nsIn K mainGlobals "sum"=some none)
    (z_tuple:nsIn K mainGlobals "tuple"=some none)
    (z_zip:nsIn K mainGlobals "zip"=some none)
    (g_GROUND:nsIn K mainGlobals "GROUND"=some (some (.int 0 u_GROUND)))
    (g_MOST_CELLS:nsIn K mainGlobals "MOST_CELLS"=some (some (.int 1000 u_MOST_CELLS)))
    (g_MOST_CELLS_OF_ROOM:nsIn K mainGlobals "MOST_CELLS_OF_ROOM"=some (some (.int 6 u_MOST_CELLS_OF_ROOM)))
    (g_MOST_FRAMES:nsIn K mainGlobals "MOST_FRAMES"=some (some (.int 100 u_MOST_FRAMES)))
    (g_MOST_OF_RING:nsIn K mainGlobals "MOST_OF_RING"=some (some (.int 4 u_MOST_OF_RING))):
    ∃A:Adr,Txt K mg A:=
  ⟨⟨f0,fS "__init__" "RoomError.__init__" s_RoomError___init__ kV0 dc0 pm0 an0 cd0 ct0,f1,fS "__init__" "Gone.__init__" s_Gone___init__ kV1 dc1 pm1 an1 cd1 ct1,f2,fS "is_number" "is_number" s_is_number kV2 dc2 pm2 an2 cd2 ct2,f3,fS "is_whole" "is_whole" s_is_whole kV3 dc3 pm3 an3 cd3 ct3,f4,fS "is_count" "is_count" s_is_count kV4 dc4 pm4 an4 cd4 ct4,f5,fS "is_pair" "is_pair" s_is_pair kV5 dc5 pm5 an5 cd5 ct5,f6,fS "__init__" "Ring.__init__" s_Ring___init__ kV6 dc6 pm6 an6 cd6 ct6,f7,fS "turn" "Ring.turn" s_Ring_turn kV7 dc7 pm7 an7 cd7 ct7,f8,fS "frames" "Ring.frames" s_Ring_frames kV8 dc8 pm8 an8 cd8 ct8,f9,fS "last" "Ring.last" s_Ring_last kV9 dc9 pm9 an9 cd9 ct9,f10,fS "__init__" "Frames.__init__" s_Frames___init__ kV10 dc10 pm10 an10 cd10 ct10,f11,fS "begin" "Frames.begin" s_Frames_begin kV11 dc11 pm11 an11 cd11 ct11,f12,fS "finish" "Frames.finish" s_Frames_finish kV12 dc12 pm12 an12 cd12 ct12,f13,fS "part" "Frames.part" s_Frames_part kV13 dc13 pm13 an13 cd13 ct13,f14,fS "row" "Frames.row" s_Frames_row kV14 dc14 pm14 an14 cd14 ct14,f15,fS "ended_by" "Frames.ended_by" s_Frames_ended_by kV15 dc15 pm15 an15 cd15 ct15,f16,fS "stands" "Frames.stands" s_Frames_stands kV16 dc16 pm16 an16 cd16 ct16,f17,fS "standing" "Frames.standing" s_Frames_standing kV17 dc17 pm17 an17 cd17 ct17,f18,fS "begun" "Frames.begun" s_Frames_begun kV18 dc18 pm18 an18 cd18 ct18,f19,fS "was_begun" "Frames.was_begun" s_Frames_was_begun kV19 dc19 pm19 an19 cd19 ct19,f20,fS "want_begun" "Frames.want_begun" s_Frames_want_begun kV20 dc20 pm20 an20 cd20 ct20,f21,fS "want_standing" "Frames.want_standing" s_Frames_want_standing kV21 dc21 pm21 an21 cd21 ct21,f22,fS "want_beginning" "Frames.want_beginning" s_Frames_want_beginning kV22 dc22 pm22 an22 cd22 ct22,f23,fS "want_finishing" "Frames.want_finishing" s_Frames_want_finishing kV23 dc23 pm23 an23 cd23 ct23,f24,fS "__init__" "House.__init__" s_House___init__ kV24 dc24 pm24 an24 cd24 ct24,f25,fS "make" "House.make" s_House_make kV25 dc25 pm25 an25 cd25 ct25,f26,fS "size" "House.size" s_House_size kV26 dc26 pm26 an26 cd26 ct26,f27,fS "used" "House.used" s_House_used kV27 dc27 pm27 an27 cd27 ct27,f28,fS "left" "House.left" s_House_left kV28 dc28 pm28 an28 cd28 ct28,f29,fS "greatest" "House.greatest" s_House_greatest kV29 dc29 pm29 an29 cd29 ct29,f30,fS "twin" "House.twin" s_House_twin kV30 dc30 pm30 an30 cd30 ct30,f31,fS "is_way" "House.is_way" s_House_is_way kV31 dc31 pm31 an31 cd31 ct31,f32,fS "want_room" "House.want_room" s_House_want_room kV32 dc32 pm32 an32 cd32 ct32,f33,fS "_law_cell" "_law_cell" s__law_cell kV33 dc33 pm33 an33 cd33 ct33,f34,fS "_law_box" "_law_box" s__law_box kV34 dc34 pm34 an34 cd34 ct34,f35,fS "_law_take" "_law_take" s__law_take kV35 dc35 pm35 an35 cd35 ct35,f36,fS "_law_house" "_law_house" s__law_house kV36 dc36 pm36 an36 cd36 ct36,f37,fS "_law_standing" "_law_standing" s__law_standing kV37 dc37 pm37 an37 cd37 ct37,f38,fS "_law_row" "_law_row" s__law_row kV38 dc38 pm38 an38 cd38 ct38,f39,fS "_law_begin" "_law_begin" s__law_begin kV39 dc39 pm39 an39 cd39 ct39,f40,fS "_law_finish" "_law_finish" s__law_finish kV40 dc40 pm40 an40 cd40 ct40,f41,fS "_law_given" "_law_given" s__law_given kV41 dc41 pm41 an41 cd41 ct41,f42,fS "_law_used" "_law_used" s__law_used kV42 dc42 pm42 an42 cd42 ct42,f43,fS "_law_make" "_law_make" s__law_make kV43 dc43 pm43 an43 cd43 ct43,f44,fS "_law_one" "_law_one" s__law_one kV44 dc44 pm44 an44 cd44 ct44,f45,fS "_law_frames" "_law_frames" s__law_frames kV45 dc45 pm45 an45 cd45 ct45,f46,fS "_law_turned" "_law_turned" s__law_turned kV46 dc46 pm46 an46 cd46 ct46,f47,fS "_law_deed" "_law_deed" s__law_deed kV47 dc47 pm47 an47 cd47 ct47,f48,fS "_law_touched" "_law_touched" s__law_touched kV48 dc48 pm48 an48 cd48 ct48,f49,fS "_law_right" "_law_right" s__law_right kV49 dc49 pm49 an49 cd49 ct49,f50,fS "_law_begun" "_law_begun" s__law_begun kV50 dc50 pm50 an50 cd50 ct50,f51,fS "_law_twinned" "_law_twinned" s__law_twinned kV51 dc51 pm51 an51 cd51 ct51,f52,fS "law" "law" s_law kV52 dc52 pm52 an52 cd52 ct52,C_0,C_1,C_2,C_3,C_4⟩,
    ⟨fun_mk (st:=s_RoomError___init__) l0 c0 k0,
    ((fun_mk (st:=s_RoomError___init__) l0 c0 k0).binds (ps:=["self","text"]) fun _ _ _ _ _ _ us hl=>match us,hl with|[_,_],_=>rfl),
    fun_mk (st:=s_Gone___init__) l1 c1 k1,
    ((fun_mk (st:=s_Gone___init__) l1 c1 k1).binds (ps:=["self","found","by"]) fun _ _ _ _ _ _ us hl=>match us,hl with|[_,_,_],_=>rfl),
    mg_of X G a2,
    fun_mk (st:=s_is_number) l2 c2 k2,
    ((fun_mk (st:=s_is_number) l2 c2 k2).binds (ps:=["thing"]) fun _ _ _ _ _ _ us hl=>match us,hl with|[_],_=>rfl),
    mg_of X G a3,
    fun_mk (st:=s_is_whole) l3 c3 k3,
    ((fun_mk (st:=s_is_whole) l3 c3 k3).binds (ps:=["thing","low","high"]) fun _ _ _ _ _ _ us hl=>match us,hl with|[_,_,_],_=>rfl),
    mg_of X G a4,
    fun_mk (st:=s_is_count) l4 c4 k4,
    ((fun_mk (st:=s_is_count) l4 c4 k4).binds (ps:=["thing"]) fun _ _ _ _ _ _ us hl=>match us,hl with|[_],_=>rfl),
    mg_of X G a5,
    fun_mk (st:=s_is_pair) l5 c5 k5,
    ((fun_mk (st:=s_is_pair) l5 c5 k5).binds (ps:=["thing"]) fun _ _ _ _ _ _ us hl=>match us,hl with|[_],_=>rfl),
    fun_mk (st:=s_Ring___init__) l6 c6 k6,
    ((fun_mk (st:=s_Ring___init__) l6 c6 k6).binds (ps:=["self","house","frame","many"]) fun _ _ _ _ _ _ us hl=>match us,hl with|[_,_,_,_],_=>rfl),
    fun_mk (st:=s_Ring_turn) l7 c7 k7,
    ((fun_mk (st:=s_Ring_turn) l7 c7 k7).binds (ps:=["self"]) fun _ _ _ _ _ _ us hl=>match us,hl with|[_],_=>rfl),
    ⟨a7,i7,k7⟩,
    fun_mk (st:=s_Ring_frames) l8 c8 k8,
    ((fun_mk (st:=s_Ring_frames) l8 c8 k8).binds (ps:=["self"]) fun _ _ _ _ _ _ us hl=>match us,hl with|[_],_=>rfl),
    ⟨a8,i8,k8⟩,
    fun_mk (st:=s_Ring_last) l9 c9 k9,
    ((fun_mk (st:=s_Ring_last) l9 c9 k9).binds (ps:=["self"]) fun _ _ _ _ _ _ us hl=>match us,hl with|[_],_=>rfl),
    ⟨a9,i9,k9⟩,
    fun_mk (st:=s_Frames___init__) l10 c10 k10,
    ((fun_mk (st:=s_Frames___init__) l10 c10 k10).binds (ps:=["self"]) fun _ _ _ _ _ _ us hl=>match us,hl with|[_],_=>rfl),
    fun_mk (st:=s_Frames_begin) l11 c11 k11,
    ((fun_mk (st:=s_Frames_begin) l11 c11 k11).binds (ps:=["self","frame"]) fun _ _ _ _ _ _ us hl=>match us,hl with|[_,_],_=>rfl),
    ⟨a11,i11,k11⟩,
    fun_mk (st:=s_Frames_finish) l12 c12 k12,
    ((fun_mk (st:=s_Frames_finish) l12 c12 k12).binds (ps:=["self","frame"]) fun _ _ _ _ _ _ us hl=>match us,hl with|[_,_],_=>rfl),
    ⟨a12,i12,k12⟩,
    fun_mk (st:=s_Frames_part) l13 c13 k13,
    ((fun_mk (st:=s_Frames_part) l13 c13 k13).binds (ps:=["self","frame"]) fun _ _ _ _ _ _ us hl=>match us,hl with|[_,_],_=>rfl),
    ⟨a13,i13,k13⟩,
    fun_mk (st:=s_Frames_row) l14 c14 k14,
    ((fun_mk (st:=s_Frames_row) l14 c14 k14).binds (ps:=["self","frame"]) fun _ _ _ _ _ _ us hl=>match us,hl with|[_,_],_=>rfl),
    ⟨a14,i14,k14⟩,
    fun_mk (st:=s_Frames_ended_by) l15 c15 k15,
    ((fun_mk (st:=s_Frames_ended_by) l15 c15 k15).binds (ps:=["self","frame"]) fun _ _ _ _ _ _ us hl=>match us,hl with|[_,_],_=>rfl),
    ⟨a15,i15,k15⟩,
    fun_mk (st:=s_Frames_stands) l16 c16 k16,
    ((fun_mk (st:=s_Frames_stands) l16 c16 k16).binds (ps:=["self","thing"]) fun _ _ _ _ _ _ us hl=>match us,hl with|[_,_],_=>rfl),
    ⟨a16,i16,k16⟩,
    fun_mk (st:=s_Frames_standing) l17 c17 k17,
    ((fun_mk (st:=s_Frames_standing) l17 c17 k17).binds (ps:=["self"]) fun _ _ _ _ _ _ us hl=>match us,hl with|[_],_=>rfl),
    ⟨a17,i17,k17⟩,
    fun_mk (st:=s_Frames_begun) l18 c18 k18,
    ((fun_mk (st:=s_Frames_begun) l18 c18 k18).binds (ps:=["self"]) fun _ _ _ _ _ _ us hl=>match us,hl with|[_],_=>rfl),
    ⟨a18,i18,k18⟩,
    fun_mk (st:=s_Frames_was_begun) l19 c19 k19,
    ((fun_mk (st:=s_Frames_was_begun) l19 c19 k19).binds (ps:=["self","thing"]) fun _ _ _ _ _ _ us hl=>match us,hl with|[_,_],_=>rfl),
    ⟨a19,i19,k19⟩,
    fun_mk (st:=s_Frames_want_begun) l20 c20 k20,
    ((fun_mk (st:=s_Frames_want_begun) l20 c20 k20).binds (ps:=["self","thing"]) fun _ _ _ _ _ _ us hl=>match us,hl with|[_,_],_=>rfl),
    ⟨a20,i20,k20⟩,
    fun_mk (st:=s_Frames_want_standing) l21 c21 k21,
    ((fun_mk (st:=s_Frames_want_standing) l21 c21 k21).binds (ps:=["self","thing"]) fun _ _ _ _ _ _ us hl=>match us,hl with|[_,_],_=>rfl),
    ⟨a21,i21,k21⟩,
    fun_mk (st:=s_Frames_want_beginning) l22 c22 k22,
    ((fun_mk (st:=s_Frames_want_beginning) l22 c22 k22).binds (ps:=["self","thing"]) fun _ _ _ _ _ _ us hl=>match us,hl with|[_,_],_=>rfl),
    ⟨a22,i22,k22⟩,
    fun_mk (st:=s_Frames_want_finishing) l23 c23 k23,
    ((fun_mk (st:=s_Frames_want_finishing) l23 c23 k23).binds (ps:=["self","thing"]) fun _ _ _ _ _ _ us hl=>match us,hl with|[_,_],_=>rfl),
    ⟨a23,i23,k23⟩,
    fun_mk (st:=s_House___init__) l24 c24 k24,
    ((fun_mk (st:=s_House___init__) l24 c24 k24).binds (ps:=["self","limit"]) fun _ _ _ _ _ _ us hl=>match us,hl with|[_,_],_=>rfl),
    fun_mk (st:=s_House_make) l25 c25 k25,
    ((fun_mk (st:=s_House_make) l25 c25 k25).binds (ps:=["self","frame","size"]) fun _ _ _ _ _ _ us hl=>match us,hl with|[_,_,_],_=>rfl),
    ⟨a25,i25,k25⟩,
    fun_mk (st:=s_House_size) l26 c26 k26,
    ((fun_mk (st:=s_House_size) l26 c26 k26).binds (ps:=["self","way"]) fun _ _ _ _ _ _ us hl=>match us,hl with|[_,_],_=>rfl),
    ⟨a26,i26,k26⟩,
    fun_mk (st:=s_House_used) l27 c27 k27,
    ((fun_mk (st:=s_House_used) l27 c27 k27).binds (ps:=["self"]) fun _ _ _ _ _ _ us hl=>match us,hl with|[_],_=>rfl),
    ⟨a27,i27,k27⟩,
    fun_mk (st:=s_House_left) l28 c28 k28,
    ((fun_mk (st:=s_House_left) l28 c28 k28).binds (ps:=["self"]) fun _ _ _ _ _ _ us hl=>match us,hl with|[_],_=>rfl),
    ⟨a28,i28,k28⟩,
    fun_mk (st:=s_House_greatest) l29 c29 k29,
    ((fun_mk (st:=s_House_greatest) l29 c29 k29).binds (ps:=["self"]) fun _ _ _ _ _ _ us hl=>match us,hl with|[_],_=>rfl),
    ⟨a29,i29,k29⟩,
    fun_mk (st:=s_House_twin) l30 c30 k30,
    ((fun_mk (st:=s_House_twin) l30 c30 k30).binds (ps:=["self"]) fun _ _ _ _ _ _ us hl=>match us,hl with|[_],_=>rfl),
    ⟨a30,i30,k30⟩,
    fun_mk (st:=s_House_is_way) l31 c31 k31,
    ((fun_mk (st:=s_House_is_way) l31 c31 k31).binds (ps:=["self","thing"]) fun _ _ _ _ _ _ us hl=>match us,hl with|[_,_],_=>rfl),
    ⟨a31,i31,k31⟩,
    fun_mk (st:=s_House_want_room) l32 c32 k32,
    ((fun_mk (st:=s_House_want_room) l32 c32 k32).binds (ps:=["self","thing"]) fun _ _ _ _ _ _ us hl=>match us,hl with|[_,_],_=>rfl),
    ⟨a32,i32,k32⟩,
    mg_of X G a33,
    fun_mk (st:=s__law_cell) l33 c33 k33,
    ((fun_mk (st:=s__law_cell) l33 c33 k33).binds (ps:=["_law_script","_law_k"]) fun _ _ _ _ _ _ us hl=>match us,hl with|[_,_],_=>rfl),
    mg_of X G a34,
    fun_mk (st:=s__law_box) l34 c34 k34,
    ((fun_mk (st:=s__law_box) l34 c34 k34).binds (ps:=["_law_cell_here"]) fun _ _ _ _ _ _ us hl=>match us,hl with|[_],_=>rfl),
    mg_of X G a35,
    fun_mk (st:=s__law_take) l35 c35 k35,
    ((fun_mk (st:=s__law_take) l35 c35 k35).binds (ps:=["_law_box_here","_law_many"]) fun _ _ _ _ _ _ us hl=>match us,hl with|[_,_],_=>rfl),
    mg_of X G a36,
    fun_mk (st:=s__law_house) l36 c36 k36,
    ((fun_mk (st:=s__law_house) l36 c36 k36).binds (ps:=["_law_limit"]) fun _ _ _ _ _ _ us hl=>match us,hl with|[_],_=>rfl),
    mg_of X G a37,
    fun_mk (st:=s__law_standing) l37 c37 k37,
    ((fun_mk (st:=s__law_standing) l37 c37 k37).binds (ps:=["_law_model"]) fun _ _ _ _ _ _ us hl=>match us,hl with|[_],_=>rfl),
    mg_of X G a38,
    fun_mk (st:=s__law_row) l38 c38 k38,
    ((fun_mk (st:=s__law_row) l38 c38 k38).binds (ps:=["_law_model","_law_frame"]) fun _ _ _ _ _ _ us hl=>match us,hl with|[_,_],_=>rfl),
    mg_of X G a39,
    fun_mk (st:=s__law_begin) l39 c39 k39,
    ((fun_mk (st:=s__law_begin) l39 c39 k39).binds (ps:=["_law_model","_law_frame"]) fun _ _ _ _ _ _ us hl=>match us,hl with|[_,_],_=>rfl),
    mg_of X G a40,
    fun_mk (st:=s__law_finish) l40 c40 k40,
    ((fun_mk (st:=s__law_finish) l40 c40 k40).binds (ps:=["_law_model","_law_frame"]) fun _ _ _ _ _ _ us hl=>match us,hl with|[_,_],_=>rfl),
    mg_of X G a41,
    fun_mk (st:=s__law_given) l41 c41 k41,
    ((fun_mk (st:=s__law_given) l41 c41 k41).binds (ps:=["_law_model","_law_frame"]) fun _ _ _ _ _ _ us hl=>match us,hl with|[_,_],_=>rfl),
    mg_of X G a42,
    fun_mk (st:=s__law_used) l42 c42 k42,
    ((fun_mk (st:=s__law_used) l42 c42 k42).binds (ps:=["_law_model"]) fun _ _ _ _ _ _ us hl=>match us,hl with|[_],_=>rfl),
    mg_of X G a43,
    fun_mk (st:=s__law_make) l43 c43 k43,
    ((fun_mk (st:=s__law_make) l43 c43 k43).binds (ps:=["_law_model","_law_frame","_law_size"]) fun _ _ _ _ _ _ us hl=>match us,hl with|[_,_,_],_=>rfl),
    mg_of X G a44,
    fun_mk (st:=s__law_one) l44 c44 k44,
    ((fun_mk (st:=s__law_one) l44 c44 k44).binds (ps:=["_law_box_here","_law_some"]) fun _ _ _ _ _ _ us hl=>match us,hl with|[_,_],_=>rfl),
    mg_of X G a45,
    fun_mk (st:=s__law_frames) l45 c45 k45,
    ((fun_mk (st:=s__law_frames) l45 c45 k45).binds (ps:=["_law_model","_law_ring"]) fun _ _ _ _ _ _ us hl=>match us,hl with|[_,_],_=>rfl),
    mg_of X G a46,
    fun_mk (st:=s__law_turned) l46 c46 k46,
    ((fun_mk (st:=s__law_turned) l46 c46 k46).binds (ps:=["_law_model","_law_ring"]) fun _ _ _ _ _ _ us hl=>match us,hl with|[_,_],_=>rfl),
    mg_of X G a47,
    fun_mk (st:=s__law_deed) l47 c47 k47,
    ((fun_mk (st:=s__law_deed) l47 c47 k47).binds (ps:=["_law_box_here","_law_house_here","_law_model","_law_rings","_law_rows"]) fun _ _ _ _ _ _ us hl=>match us,hl with|[_,_,_,_,_],_=>rfl),
    mg_of X G a48,
    fun_mk (st:=s__law_touched) l48 c48 k48,
    ((fun_mk (st:=s__law_touched) l48 c48 k48).binds (ps:=["_law_house_here","_law_way"]) fun _ _ _ _ _ _ us hl=>match us,hl with|[_,_],_=>rfl),
    mg_of X G a49,
    fun_mk (st:=s__law_right) l49 c49 k49,
    ((fun_mk (st:=s__law_right) l49 c49 k49).binds (ps:=["_law_house_here","_law_model","_law_rings","_law_rows"]) fun _ _ _ _ _ _ us hl=>match us,hl with|[_,_,_,_],_=>rfl),
    mg_of X G a50,
    fun_mk (st:=s__law_begun) l50 c50 k50,
    ((fun_mk (st:=s__law_begun) l50 c50 k50).binds (ps:=["_law_box_here"]) fun _ _ _ _ _ _ us hl=>match us,hl with|[_],_=>rfl),
    mg_of X G a51,
    fun_mk (st:=s__law_twinned) l51 c51 k51,
    ((fun_mk (st:=s__law_twinned) l51 c51 k51).binds (ps:=["_law_house_here"]) fun _ _ _ _ _ _ us hl=>match us,hl with|[_],_=>rfl),
    mg_of X G a52,
    fun_mk (st:=s_law) l52 c52 k52,
    ((fun_mk (st:=s_law) l52 c52 k52).binds (ps:=["_law_script"]) fun _ _ _ _ _ _ us hl=>match us,hl with|[_],_=>rfl),
    mg_of X G c_0,
    ⟨⟨⟨nm_0,q_0,N_0,bs_0,bm_0,true,sn_0,sub_0,ab_0,col_0,dd_0,k0_0,k1_0,k2_0,k3_0,k5_0,x_0,t_0⟩⟩,a0,ty_0,kc_0⟩,
    ⟨sp_0,rd_0,fc_0,k0⟩,
    ⟨⟨nm_0,q_0,N_0,bs_0,bm_0,sn_0,sub_0,ab_0,col_0,dd_0,k0_0,k1_0,k2_0,k3_0,k5_0,x_0,rf_0,ob_0⟩,sa_0⟩,
    ⟨ga_0,hk_0,mr_0,hd_0⟩,
    ⟨⟨nm_0,q_0,N_0,bs_0,bm_0,true,sn_0,sub_0,ab_0,col_0,dd_0,k0_0,k1_0,k2_0,k3_0,k5_0,"ValueError.__new__",x_0,u_0_0⟩⟩,
    mg_of X G c_1,
    ⟨⟨⟨nm_1,q_1,N_1,bs_1,bm_1,true,sn_1,sub_1,ab_1,col_1,dd_1,k0_1,k1_1,k2_1,k3_1,k5_1,x_1,t_1⟩⟩,a1,ty_1,kc_1⟩,
    ⟨sp_1,rd_1,fc_1,k1⟩,
    ⟨⟨nm_1,q_1,N_1,bs_1,bm_1,sn_1,sub_1,ab_1,col_1,dd_1,k0_1,k1_1,k2_1,k3_1,k5_1,x_1,rf_1,ob_1⟩,sa_1⟩,
    ⟨ga_1,hk_1,mr_1,hd_1⟩,
    ⟨⟨nm_1,q_1,N_1,bs_1,bm_1,true,sn_1,sub_1,ab_1,col_1,dd_1,k0_1,k1_1,k2_1,k3_1,k5_1,"ValueError.__new__",x_1,u_1_1⟩⟩,
    ⟨⟨nm_1,q_1,N_1,bs_1,bm_1,true,sn_1,sub_1,ab_1,col_1,dd_1,k0_1,k1_1,k2_1,k3_1,k5_1,"ValueError.__new__",x_1,u_1_RoomError⟩⟩,
    n_1_by,
    n_1_found,
    mg_of X G c_2,
    ⟨pg_2,hd_2,po_2,sa_2⟩,
    ⟨mk_2,a6,i6,kc_2⟩,
    n_2_frame,
    n_2_house,
    n_2_many,
    n_2_turned,
    mg_of X G c_3,
    ⟨pg_3,hd_3,po_3,sa_3⟩,
    ⟨mk_3,a10,i10,kc_3⟩,
    ⟨sp_3,rd_3,fc_3,k10⟩,
    n_3_parents,
    n_3_takers,
    mg_of X G c_4,
    ⟨pg_4,hd_4,po_4,sa_4⟩,
    ⟨mk_4,a24,i24,kc_4⟩,
    n_4_bound,
    n_4_floors,
    n_4_lengths,
    n_4_parents,
    n_4_peak,
    n_4_takers,
    fun s v=> .of_eq rfl,
    mg_none_of X G z_ValueError,
    mg_none_of X G z_bool,
    mg_none_of X G z_dict,
    mg_none_of X G z_enumerate,
    mg_none_of X G z_int,
    mg_none_of X G z_isinstance,
    mg_none_of X G z_len,
    mg_none_of X G z_list,
    mg_none_of X G z_max,
    mg_none_of X G z_min,
    mg_none_of X G z_range,
    mg_none_of X G z_repr,
    mg_none_of X G z_reversed,
    mg_none_of X G z_sum,
    mg_none_of X G z_tuple,
    mg_none_of X G z_zip,
    ⟨_,⟨_,rfl⟩,mg_of X G g_GROUND⟩,
    ⟨_,⟨_,rfl⟩,mg_of X G g_MOST_CELLS⟩,
    ⟨_,⟨_,rfl⟩,mg_of X G g_MOST_CELLS_OF_ROOM⟩,
    ⟨_,⟨_,rfl⟩,mg_of X G g_MOST_FRAMES⟩,
    ⟨_,⟨_,rfl⟩,mg_of X G g_MOST_OF_RING⟩⟩⟩
end My
open PySem PySem.W PyProof.Rows
set_option maxRecDepth 100000 in
set_option maxHeartbeats 0 in
theorem PySem.Challenge.cw_framerooms_k21_the_eldest_goes_holds : PySem.Challenge.rw_framerooms_k21_the_eldest_goes.Holds := by
  w_on
  refine holds_law (by decide+kernel) fun said=> ?_;refine holds_open (q:=My.hdView) (loose:=[]) (Xt:=fun s=>xlAt My.hdView [] s&&recOk (RowW.records PySem.Challenge.rw_framerooms_k21_the_eldest_goes.row.toRowW) s) (XP:=XL My.hdView []) (Yf:=My.hdHook.obs) (Ya:=My.hdHook.val) (YP:=Hook.says (kHook My.hdHeap My.hdAs My.hdAs_ok)) My.hdLeft My.hdHook.of My.hdHook.keeps (fun s e=>xl_of s (Bool.and_eq_true_iff.mp e).1) XL.keeps (by rfl) (by rfl) (by rfl) (fun s e=>recFacts_of (Bool.and_eq_true_iff.mp e).2) (by rfl) said (by decide+kernel) ⟨rfl,rfl,rfl,rfl,rfl,by decide+kernel⟩ ?hw ?hc
  case hw=>w_witness2
  k_fill
  refine My.walk (l:=PySem.Challenge.rw_framerooms_k21_the_eldest_goes) rfl rfl (fun w h Y=>PySem.W.kIn_of Y) ?F
  case F=>
    intro w mg fa h KX G hmg;refine' My.law_mk KX G hmg ?T
    refine' My.txt_mk KX G _ _ _ _ _ _ _ _ _ _ _ _ _ _ _ _ _ _ _ _ _ _ _ _ _ _ _ _ _ _ _ _ _ _ _ _ _ _ _ _ _ _ _ _ _ _ _ _ _ _ _ _ _ _ _ _ _ _ _ _ _ _ _ _ _ _ _ _ _ _ _ _ _ _ _ _ _ _ _ _ _ _ _ _ _ _ _ _ _ _ _ _ _ _ _ _ _ _ _ _ _ _ _ _ _ _ _ _ _ _ _ _ _ _ _ _ _ _ _ _ _ _ _ _ _ _ _ _ _ _ _ _ _ _ _ _ _ _ _ _ _ _ _ _ _ _ _ _ _ _ _ _ _ _ _ _ _ _ _ _ _ _ _ _ _ _ _ _ _ _ _ _ _ _ _ _ _ _ _ _ _ _ _ _ _ _ _ _ _ _ _ _ _ _ _ _ _ _ _ _ _ _ _ _ _ _ _ _ _ _ _ _ _ _ _ _ _ _ _ _ _ _ _ _ _ _ _ _ _ _ _ _ _ _ _ _ _ _ _ _ _ _ _ _ _ _ _ _ _ _ _ _ _ _ _ _ _ _ _ _ _ _ _ _ _ _ _ _ _ _ _ _ _ _ _ _ _ _ _ _ _ _ _ _ _ _ _ _ _ _ _ _ _ _ _ _ _ _ _ _ _ _ _ _ _ _ _ _ _ _ _ _ _ _ _ _ _ _ _ _ _ _ _ _ _ _ _ _ _ _ _ _ _
    any_goals first|k_is|exact⟨rfl,rfl,rfl,rfl⟩|rfl|decide+kernel|(intro self;(repeat rw[refuseLoop_ref]);exact L2.refuse_value self)
