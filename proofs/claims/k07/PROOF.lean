import PyProof.Rows.All
import Wide.All
import OpenK.AllK
import Wide.FinOn
import Lean
import PyProof.EqAt
import PyProof.EqKinds
import PyProof.TupleCall
import PySem.Challenge.RW_framerooms_k07_frames_refused
set_option Elab.async false
set_option linter.all false
set_option maxRecDepth 100000
set_option maxHeartbeats 4000000
/-! THE HAND LAYER, for ints, bools, texts, own classes, LISTS and tuples (index, slices, in, append, pop ..), calls, loops. Paste it whole ahead of your own text; what your proof does not reach may be deleted. -/
namespace L2
open PySem PySem.Spec PyProof.Rows
def inClass (s : Stmt) (j : Nat) : Stmt := match s with
  | .ClassDef _ _ _ body _ _ _ _ _ _ _ => body.getD j (.Pass ⟨0, 0, 0, 0⟩)
  | _ => .Pass ⟨0, 0, 0, 0⟩
def defArgs (s : Stmt) : Arguments := match s with
  | .FunctionDef _ a _ _ _ _ _ _ _ _ => a
  | _ => { posonlyargs := [], args := [], vararg := none, kwonlyargs := [], kw_defaults := [], kwarg := none, defaults := [] }
def defBody (s : Stmt) : List Stmt := match s with
  | .FunctionDef _ _ b _ _ _ _ _ _ _ => b
  | _ => []
def defScope (s : Stmt) : Scope := match s with
  | .FunctionDef _ _ _ _ _ _ sc _ _ _ => sc
  | _ => { kind := .function, names := [], isGenerator := false, isCoroutine := false }
end L2
namespace My
open PySem L2 PyProof.Rows
def top (i : Nat) : Stmt := PySem.Challenge.pw_framerooms_k07_frames_refused.main.body.getD i (.Pass ⟨0, 0, 0, 0⟩)
abbrev s_RoomError___init__ : Stmt := (inClass (top 1) 0)
abbrev s_NoFrame___init__ : Stmt := (inClass (top 2) 0)
abbrev s_Gone___init__ : Stmt := (inClass (top 3) 0)
abbrev s_Ground___init__ : Stmt := (inClass (top 4) 0)
abbrev s_TooMany___init__ : Stmt := (inClass (top 5) 0)
abbrev s_is_number : Stmt := (top 7)
abbrev s_is_whole : Stmt := (top 8)
abbrev s_Frames___init__ : Stmt := (inClass (top 12) 0)
abbrev s_Frames_begin : Stmt := (inClass (top 12) 1)
abbrev s_Frames_finish : Stmt := (inClass (top 12) 2)
abbrev s_Frames_part : Stmt := (inClass (top 12) 3)
abbrev s_Frames_inside : Stmt := (inClass (top 12) 4)
abbrev s_Frames_row : Stmt := (inClass (top 12) 5)
abbrev s_Frames_within : Stmt := (inClass (top 12) 6)
abbrev s_Frames_ended_by : Stmt := (inClass (top 12) 7)
abbrev s_Frames_stands : Stmt := (inClass (top 12) 8)
abbrev s_Frames_standing : Stmt := (inClass (top 12) 9)
abbrev s_Frames_begun : Stmt := (inClass (top 12) 10)
abbrev s_Frames_was_begun : Stmt := (inClass (top 12) 11)
abbrev s_Frames_want_begun : Stmt := (inClass (top 12) 12)
abbrev s_Frames_want_standing : Stmt := (inClass (top 12) 13)
abbrev s_Frames_want_beginning : Stmt := (inClass (top 12) 14)
abbrev s_Frames_want_finishing : Stmt := (inClass (top 12) 15)
abbrev s__law_cell : Stmt := (top 14)
abbrev s__law_box : Stmt := (top 15)
abbrev s__law_take : Stmt := (top 16)
abbrev s__law_model : Stmt := (top 17)
abbrev s__law_standing : Stmt := (top 18)
abbrev s__law_row : Stmt := (top 19)
abbrev s__law_begin : Stmt := (top 20)
abbrev s__law_finish : Stmt := (top 21)
abbrev s__law_one : Stmt := (top 22)
abbrev s__law_deeds : Stmt := (top 23)
abbrev s__law_filled : Stmt := (top 24)
abbrev s__law_kinds : Stmt := (top 25)
abbrev s__law_caught : Stmt := (top 26)
abbrev s__law_due : Stmt := (top 27)
abbrev s__law_state : Stmt := (top 28)
abbrev s__law_goes_on : Stmt := (top 29)
abbrev s__law_things : Stmt := (top 30)
abbrev s_law : Stmt := (top 31)
/-! what the top has written: 41 defs by name -/
noncomputable def hdHeap : PySem.Params → PySem.W.Frag := fun P => ((nat_lit 2, { cls := Value.none, data := Data.dict #[] }) ::
    (nat_lit 3, { cls := Value.type "dict", data := Data.dict #[{ hash := PyData.keyHash P (Str.ofString "__name__"), key := Value.str (Str.ofString "__name__") 165, val := Value.str (Str.ofString "law_framerooms_k07_frames_refused") 485 }, { hash := PyData.keyHash P (Str.ofString "__doc__"), key := Value.str (Str.ofString "__doc__") 166, val := Value.none }, { hash := PyData.keyHash P (Str.ofString "__package__"), key := Value.str (Str.ofString "__package__") 167, val := Value.none }, { hash := PyData.keyHash P (Str.ofString "__loader__"), key := Value.str (Str.ofString "__loader__") 168, val := Value.builtin ("__main__.__loader__#opa" ++ "que") }, { hash := PyData.keyHash P (Str.ofString "__spec__"), key := Value.str (Str.ofString "__spec__") 169, val := Value.none }, { hash := PyData.keyHash P (Str.ofString "__annotations__"), key := Value.str (Str.ofString "__annotations__") 170, val := Value.ref 6 }, { hash := PyData.keyHash P (Str.ofString "__builtins__"), key := Value.str (Str.ofString "__builtins__") 171, val := Value.ref 4 }, { hash := PyData.keyHash P (Str.ofString "__file__"), key := Value.str (Str.ofString "__file__") 173, val := Value.str (Str.ofString "/claim/cut.py") 172 }, { hash := PyData.keyHash P (Str.ofString "__cached__"), key := Value.str (Str.ofString "__cached__") 174, val := Value.none }, { hash := PyData.keyHash P (Str.ofString "RoomError"), key := Value.str (Str.ofString "RoomError") 214, val := Value.ref 31 }, { hash := PyData.keyHash P (Str.ofString "NoFrame"), key := Value.str (Str.ofString "NoFrame") 239, val := Value.ref 51 }, { hash := PyData.keyHash P (Str.ofString "Gone"), key := Value.str (Str.ofString "Gone") 266, val := Value.ref 70 }, { hash := PyData.keyHash P (Str.ofString "Ground"), key := Value.str (Str.ofString "Ground") 289, val := Value.ref 89 }, { hash := PyData.keyHash P (Str.ofString "TooMany"), key := Value.str (Str.ofString "TooMany") 314, val := Value.ref 108 }, { hash := PyData.keyHash P (Str.ofString "is_number"), key := Value.str (Str.ofString "is_number") 323, val := Value.ref 117 }, { hash := PyData.keyHash P (Str.ofString "is_whole"), key := Value.str (Str.ofString "is_whole") 332, val := Value.ref 124 }, { hash := PyData.keyHash P (Str.ofString "GROUND"), key := Value.str (Str.ofString "GROUND") 336, val := Value.int 0 335 }, { hash := PyData.keyHash P (Str.ofString "MOST_FRAMES"), key := Value.str (Str.ofString "MOST_FRAMES") 338, val := Value.int 100 337 }, { hash := PyData.keyHash P (Str.ofString "Frames"), key := Value.str (Str.ofString "Frames") 484, val := Value.ref 240 }, { hash := PyData.keyHash P (Str.ofString "_law_cell"), key := Value.str (Str.ofString "_law_cell") 494, val := Value.ref 251 }, { hash := PyData.keyHash P (Str.ofString "_law_box"), key := Value.str (Str.ofString "_law_box") 501, val := Value.ref 258 }, { hash := PyData.keyHash P (Str.ofString "_law_take"), key := Value.str (Str.ofString "_law_take") 512, val := Value.ref 265 }, { hash := PyData.keyHash P (Str.ofString "_law_model"), key := Value.str (Str.ofString "_law_model") 518, val := Value.ref 272 }, { hash := PyData.keyHash P (Str.ofString "_law_standing"), key := Value.str (Str.ofString "_law_standing") 524, val := Value.ref 277 }, { hash := PyData.keyHash P (Str.ofString "_law_row"), key := Value.str (Str.ofString "_law_row") 533, val := Value.ref 284 }, { hash := PyData.keyHash P (Str.ofString "_law_begin"), key := Value.str (Str.ofString "_law_begin") 541, val := Value.ref 291 }, { hash := PyData.keyHash P (Str.ofString "_law_finish"), key := Value.str (Str.ofString "_law_finish") 547, val := Value.ref 296 }, { hash := PyData.keyHash P (Str.ofString "_law_one"), key := Value.str (Str.ofString "_law_one") 557, val := Value.ref 303 }, { hash := PyData.keyHash P (Str.ofString "_law_deeds"), key := Value.str (Str.ofString "_law_deeds") 570, val := Value.ref 310 }, { hash := PyData.keyHash P (Str.ofString "_law_filled"), key := Value.str (Str.ofString "_law_filled") 578, val := Value.ref 317 }, { hash := PyData.keyHash P (Str.ofString "_law_kinds"), key := Value.str (Str.ofString "_law_kinds") 585, val := Value.ref 324 }, { hash := PyData.keyHash P (Str.ofString "_law_caught"), key := Value.str (Str.ofString "_law_caught") 596, val := Value.ref 331 }, { hash := PyData.keyHash P (Str.ofString "_law_due"), key := Value.str (Str.ofString "_law_due") 606, val := Value.ref 338 }, { hash := PyData.keyHash P (Str.ofString "_law_state"), key := Value.str (Str.ofString "_law_state") 612, val := Value.ref 343 }, { hash := PyData.keyHash P (Str.ofString "_law_goes_on"), key := Value.str (Str.ofString "_law_goes_on") 624, val := Value.ref 350 }, { hash := PyData.keyHash P (Str.ofString "_law_things"), key := Value.str (Str.ofString "_law_things") 630, val := Value.ref 355 }, { hash := PyData.keyHash P (Str.ofString "law"), key := Value.str (Str.ofString "law") 647, val := Value.ref 362 }] 37 }) ::
    (nat_lit 15, { cls := Value.type "tuple", data := Data.seq #[Value.type "ValueError"] }) ::
    (nat_lit 22, { cls := Value.type "tuple", data := Data.seq #[] }) ::
    (nat_lit 24, { cls := Value.type "tuple", data := Data.seq #[Value.str (Str.ofString "self") 204, Value.str (Str.ofString "text") 205] }) ::
    (nat_lit 25, { cls := Value.type "tuple", data := Data.seq #[] }) ::
    (nat_lit 27, { cls := Value.type "code", data := Data.fields #[Value.str (Str.ofString "__init__") 201, Value.str (Str.ofString "RoomError.__init__") 202, Value.str (Str.ofString "/claim/cut.py") 203, Value.int 4 0, Value.int 2 0, Value.int 0 0, Value.int 0 0, Value.int 3 0, Value.ref 22, Value.bool true, Value.int 181 0, Value.ref 23, Value.none, Value.ref 24, Value.ref 25, Value.ref 26, Value.int 206 0, Value.int 4 0, Value.str (Str.ofString "/claim/cut.py") 207] }) ::
    (nat_lit 28, { cls := Value.type "function", data := Data.func { name := Str.ofString "__init__", qualname := Str.ofString "RoomError.__init__", params := L2.defArgs (inClass (top 1) 0), body := PySem.FuncBody.stmts (L2.defBody (inClass (top 1) 0)), scope := L2.defScope (inClass (top 1) 0), globals := 3, closure := [], defaults := Value.none, kwdefaults := Value.none, pyModule := Value.str (Str.ofString "framerooms.errors") 187, code := Value.ref 27 } }) ::
    (nat_lit 29, { cls := Value.type "tuple", data := Data.seq #[] }) ::
    (nat_lit 30, { cls := Value.type "dict", data := Data.dict #[{ hash := PyData.keyHash P (Str.ofString "__module__"), key := Value.str (Str.ofString "__module__") 196, val := Value.str (Str.ofString "framerooms.errors") 187 }, { hash := PyData.keyHash P (Str.ofString "__firstlineno__"), key := Value.str (Str.ofString "__firstlineno__") 200, val := Value.int 2 199 }, { hash := PyData.keyHash P (Str.ofString "__init__"), key := Value.str (Str.ofString "__init__") 208, val := Value.ref 28 }, { hash := PyData.keyHash P (Str.ofString "__static_attributes__"), key := Value.str (Str.ofString "__static_attributes__") 209, val := Value.ref 29 }, { hash := PyData.keyHash P (Str.ofString "__weakref__"), key := Value.str (Str.ofString "__weakref__") 211, val := Value.ref 32 }, { hash := PyData.keyHash P (Str.ofString "__doc__"), key := Value.str (Str.ofString "__doc__") 212, val := Value.none }] 3 }) ::
    (nat_lit 31, { cls := Value.type "type", data := Data.cls { name := Str.ofString "RoomError", bases := [Value.type "ValueError"], mro := [Value.ref 31, Value.type "ValueError", Value.type "Exception", Value.type "BaseException", Value.type "object"], ns := 30, qualname := Str.ofString "RoomError", subclasses := [Value.ref 51, Value.ref 70, Value.ref 89, Value.ref 108] }, slots := #[some (Value.ref 15), none, some (Value.str (Str.ofString "RoomError") 189), some (Value.str (Str.ofString "RoomError") 197), some (Value.builtin "ValueError.__new__"), some (Value.bool true)] }) ::
    (nat_lit 32, { cls := Value.type "getset_descriptor", data := Data.fields #[Value.str (Str.ofString "__weakref__") 210, Value.ref 31, Value.builtin "ExceptionGroup.__weakref__", Value.none] }) ::
    (nat_lit 35, { cls := Value.type "tuple", data := Data.seq #[Value.ref 31] }) ::
    (nat_lit 42, { cls := Value.type "tuple", data := Data.seq #[] }) ::
    (nat_lit 44, { cls := Value.type "tuple", data := Data.seq #[Value.str (Str.ofString "self") 230, Value.str (Str.ofString "found") 231] }) ::
    (nat_lit 45, { cls := Value.type "tuple", data := Data.seq #[] }) ::
    (nat_lit 47, { cls := Value.type "code", data := Data.fields #[Value.str (Str.ofString "__init__") 227, Value.str (Str.ofString "NoFrame.__init__") 228, Value.str (Str.ofString "/claim/cut.py") 229, Value.int 8 0, Value.int 2 0, Value.int 0 0, Value.int 0 0, Value.int 3 0, Value.ref 42, Value.bool true, Value.int 181 0, Value.ref 43, Value.none, Value.ref 44, Value.ref 45, Value.ref 46, Value.int 232 0, Value.int 8 0, Value.str (Str.ofString "/claim/cut.py") 233] }) ::
    (nat_lit 48, { cls := Value.type "function", data := Data.func { name := Str.ofString "__init__", qualname := Str.ofString "NoFrame.__init__", params := L2.defArgs (inClass (top 2) 0), body := PySem.FuncBody.stmts (L2.defBody (inClass (top 2) 0)), scope := L2.defScope (inClass (top 2) 0), globals := 3, closure := [], defaults := Value.none, kwdefaults := Value.none, pyModule := Value.str (Str.ofString "framerooms.errors") 187, code := Value.ref 47 } }) ::
    (nat_lit 49, { cls := Value.type "tuple", data := Data.seq #[Value.str (Str.ofString "found") 235] }) ::
    (nat_lit 50, { cls := Value.type "dict", data := Data.dict #[{ hash := PyData.keyHash P (Str.ofString "__module__"), key := Value.str (Str.ofString "__module__") 222, val := Value.str (Str.ofString "framerooms.errors") 187 }, { hash := PyData.keyHash P (Str.ofString "__firstlineno__"), key := Value.str (Str.ofString "__firstlineno__") 226, val := Value.int 6 225 }, { hash := PyData.keyHash P (Str.ofString "__init__"), key := Value.str (Str.ofString "__init__") 234, val := Value.ref 48 }, { hash := PyData.keyHash P (Str.ofString "__static_attributes__"), key := Value.str (Str.ofString "__static_attributes__") 236, val := Value.ref 49 }, { hash := PyData.keyHash P (Str.ofString "__doc__"), key := Value.str (Str.ofString "__doc__") 237, val := Value.none }] 2 }) ::
    (nat_lit 51, { cls := Value.type "type", data := Data.cls { name := Str.ofString "NoFrame", bases := [Value.ref 31], mro := [Value.ref 51, Value.ref 31, Value.type "ValueError", Value.type "Exception", Value.type "BaseException", Value.type "object"], ns := 50, qualname := Str.ofString "NoFrame" }, slots := #[some (Value.ref 35), none, some (Value.str (Str.ofString "NoFrame") 215), some (Value.str (Str.ofString "NoFrame") 223), some (Value.builtin "ValueError.__new__"), some (Value.bool true)] }) ::
    (nat_lit 54, { cls := Value.type "tuple", data := Data.seq #[Value.ref 31] }) ::
    (nat_lit 61, { cls := Value.type "tuple", data := Data.seq #[] }) ::
    (nat_lit 63, { cls := Value.type "tuple", data := Data.seq #[Value.str (Str.ofString "self") 255, Value.str (Str.ofString "found") 256, Value.str (Str.ofString "by") 257] }) ::
    (nat_lit 64, { cls := Value.type "tuple", data := Data.seq #[] }) ::
    (nat_lit 66, { cls := Value.type "code", data := Data.fields #[Value.str (Str.ofString "__init__") 252, Value.str (Str.ofString "Gone.__init__") 253, Value.str (Str.ofString "/claim/cut.py") 254, Value.int 13 0, Value.int 3 0, Value.int 0 0, Value.int 0 0, Value.int 3 0, Value.ref 61, Value.bool true, Value.int 181 0, Value.ref 62, Value.none, Value.ref 63, Value.ref 64, Value.ref 65, Value.int 258 0, Value.int 13 0, Value.str (Str.ofString "/claim/cut.py") 259] }) ::
    (nat_lit 67, { cls := Value.type "function", data := Data.func { name := Str.ofString "__init__", qualname := Str.ofString "Gone.__init__", params := L2.defArgs (inClass (top 3) 0), body := PySem.FuncBody.stmts (L2.defBody (inClass (top 3) 0)), scope := L2.defScope (inClass (top 3) 0), globals := 3, closure := [], defaults := Value.none, kwdefaults := Value.none, pyModule := Value.str (Str.ofString "framerooms.errors") 187, code := Value.ref 66 } }) ::
    (nat_lit 68, { cls := Value.type "tuple", data := Data.seq #[Value.str (Str.ofString "by") 261, Value.str (Str.ofString "found") 262] }) ::
    (nat_lit 69, { cls := Value.type "dict", data := Data.dict #[{ hash := PyData.keyHash P (Str.ofString "__module__"), key := Value.str (Str.ofString "__module__") 247, val := Value.str (Str.ofString "framerooms.errors") 187 }, { hash := PyData.keyHash P (Str.ofString "__firstlineno__"), key := Value.str (Str.ofString "__firstlineno__") 251, val := Value.int 11 250 }, { hash := PyData.keyHash P (Str.ofString "__init__"), key := Value.str (Str.ofString "__init__") 260, val := Value.ref 67 }, { hash := PyData.keyHash P (Str.ofString "__static_attributes__"), key := Value.str (Str.ofString "__static_attributes__") 263, val := Value.ref 68 }, { hash := PyData.keyHash P (Str.ofString "__doc__"), key := Value.str (Str.ofString "__doc__") 264, val := Value.none }] 2 }) ::
    (nat_lit 70, { cls := Value.type "type", data := Data.cls { name := Str.ofString "Gone", bases := [Value.ref 31], mro := [Value.ref 70, Value.ref 31, Value.type "ValueError", Value.type "Exception", Value.type "BaseException", Value.type "object"], ns := 69, qualname := Str.ofString "Gone" }, slots := #[some (Value.ref 54), none, some (Value.str (Str.ofString "Gone") 240), some (Value.str (Str.ofString "Gone") 248), some (Value.builtin "ValueError.__new__"), some (Value.bool true)] }) ::
    (nat_lit 73, { cls := Value.type "tuple", data := Data.seq #[Value.ref 31] }) ::
    (nat_lit 80, { cls := Value.type "tuple", data := Data.seq #[] }) ::
    (nat_lit 82, { cls := Value.type "tuple", data := Data.seq #[Value.str (Str.ofString "self") 282] }) ::
    (nat_lit 83, { cls := Value.type "tuple", data := Data.seq #[] }) ::
    (nat_lit 85, { cls := Value.type "code", data := Data.fields #[Value.str (Str.ofString "__init__") 279, Value.str (Str.ofString "Ground.__init__") 280, Value.str (Str.ofString "/claim/cut.py") 281, Value.int 19 0, Value.int 1 0, Value.int 0 0, Value.int 0 0, Value.int 3 0, Value.ref 80, Value.bool true, Value.int 181 0, Value.ref 81, Value.none, Value.ref 82, Value.ref 83, Value.ref 84, Value.int 283 0, Value.int 19 0, Value.str (Str.ofString "/claim/cut.py") 284] }) ::
    (nat_lit 86, { cls := Value.type "function", data := Data.func { name := Str.ofString "__init__", qualname := Str.ofString "Ground.__init__", params := L2.defArgs (inClass (top 4) 0), body := PySem.FuncBody.stmts (L2.defBody (inClass (top 4) 0)), scope := L2.defScope (inClass (top 4) 0), globals := 3, closure := [], defaults := Value.none, kwdefaults := Value.none, pyModule := Value.str (Str.ofString "framerooms.errors") 187, code := Value.ref 85 } }) ::
    (nat_lit 87, { cls := Value.type "tuple", data := Data.seq #[] }) ::
    (nat_lit 88, { cls := Value.type "dict", data := Data.dict #[{ hash := PyData.keyHash P (Str.ofString "__module__"), key := Value.str (Str.ofString "__module__") 274, val := Value.str (Str.ofString "framerooms.errors") 187 }, { hash := PyData.keyHash P (Str.ofString "__firstlineno__"), key := Value.str (Str.ofString "__firstlineno__") 278, val := Value.int 17 277 }, { hash := PyData.keyHash P (Str.ofString "__init__"), key := Value.str (Str.ofString "__init__") 285, val := Value.ref 86 }, { hash := PyData.keyHash P (Str.ofString "__static_attributes__"), key := Value.str (Str.ofString "__static_attributes__") 286, val := Value.ref 87 }, { hash := PyData.keyHash P (Str.ofString "__doc__"), key := Value.str (Str.ofString "__doc__") 287, val := Value.none }] 2 }) ::
    (nat_lit 89, { cls := Value.type "type", data := Data.cls { name := Str.ofString "Ground", bases := [Value.ref 31], mro := [Value.ref 89, Value.ref 31, Value.type "ValueError", Value.type "Exception", Value.type "BaseException", Value.type "object"], ns := 88, qualname := Str.ofString "Ground" }, slots := #[some (Value.ref 73), none, some (Value.str (Str.ofString "Ground") 267), some (Value.str (Str.ofString "Ground") 275), some (Value.builtin "ValueError.__new__"), some (Value.bool true)] }) ::
    (nat_lit 92, { cls := Value.type "tuple", data := Data.seq #[Value.ref 31] }) ::
    (nat_lit 99, { cls := Value.type "tuple", data := Data.seq #[] }) ::
    (nat_lit 101, { cls := Value.type "tuple", data := Data.seq #[Value.str (Str.ofString "self") 305, Value.str (Str.ofString "many") 306] }) ::
    (nat_lit 102, { cls := Value.type "tuple", data := Data.seq #[] }) ::
    (nat_lit 104, { cls := Value.type "code", data := Data.fields #[Value.str (Str.ofString "__init__") 302, Value.str (Str.ofString "TooMany.__init__") 303, Value.str (Str.ofString "/claim/cut.py") 304, Value.int 23 0, Value.int 2 0, Value.int 0 0, Value.int 0 0, Value.int 3 0, Value.ref 99, Value.bool true, Value.int 181 0, Value.ref 100, Value.none, Value.ref 101, Value.ref 102, Value.ref 103, Value.int 307 0, Value.int 23 0, Value.str (Str.ofString "/claim/cut.py") 308] }) ::
    (nat_lit 105, { cls := Value.type "function", data := Data.func { name := Str.ofString "__init__", qualname := Str.ofString "TooMany.__init__", params := L2.defArgs (inClass (top 5) 0), body := PySem.FuncBody.stmts (L2.defBody (inClass (top 5) 0)), scope := L2.defScope (inClass (top 5) 0), globals := 3, closure := [], defaults := Value.none, kwdefaults := Value.none, pyModule := Value.str (Str.ofString "framerooms.errors") 187, code := Value.ref 104 } }) ::
    (nat_lit 106, { cls := Value.type "tuple", data := Data.seq #[Value.str (Str.ofString "many") 310] }) ::
    (nat_lit 107, { cls := Value.type "dict", data := Data.dict #[{ hash := PyData.keyHash P (Str.ofString "__module__"), key := Value.str (Str.ofString "__module__") 297, val := Value.str (Str.ofString "framerooms.errors") 187 }, { hash := PyData.keyHash P (Str.ofString "__firstlineno__"), key := Value.str (Str.ofString "__firstlineno__") 301, val := Value.int 21 300 }, { hash := PyData.keyHash P (Str.ofString "__init__"), key := Value.str (Str.ofString "__init__") 309, val := Value.ref 105 }, { hash := PyData.keyHash P (Str.ofString "__static_attributes__"), key := Value.str (Str.ofString "__static_attributes__") 311, val := Value.ref 106 }, { hash := PyData.keyHash P (Str.ofString "__doc__"), key := Value.str (Str.ofString "__doc__") 312, val := Value.none }] 2 }) ::
    (nat_lit 108, { cls := Value.type "type", data := Data.cls { name := Str.ofString "TooMany", bases := [Value.ref 31], mro := [Value.ref 108, Value.ref 31, Value.type "ValueError", Value.type "Exception", Value.type "BaseException", Value.type "object"], ns := 107, qualname := Str.ofString "TooMany" }, slots := #[some (Value.ref 92), none, some (Value.str (Str.ofString "TooMany") 290), some (Value.str (Str.ofString "TooMany") 298), some (Value.builtin "ValueError.__new__"), some (Value.bool true)] }) ::
    (nat_lit 111, { cls := Value.type "tuple", data := Data.seq #[] }) ::
    (nat_lit 113, { cls := Value.type "tuple", data := Data.seq #[Value.str (Str.ofString "thing") 320] }) ::
    (nat_lit 114, { cls := Value.type "tuple", data := Data.seq #[] }) ::
    (nat_lit 116, { cls := Value.type "code", data := Data.fields #[Value.str (Str.ofString "is_number") 317, Value.str (Str.ofString "is_number") 318, Value.str (Str.ofString "/claim/cut.py") 319, Value.int 27 0, Value.int 1 0, Value.int 0 0, Value.int 0 0, Value.int 3 0, Value.ref 111, Value.bool true, Value.int 181 0, Value.ref 112, Value.none, Value.ref 113, Value.ref 114, Value.ref 115, Value.int 321 0, Value.int 27 0, Value.str (Str.ofString "/claim/cut.py") 322] }) ::
    (nat_lit 117, { cls := Value.type "function", data := Data.func { name := Str.ofString "is_number", qualname := Str.ofString "is_number", params := L2.defArgs (top 7), body := PySem.FuncBody.stmts (L2.defBody (top 7)), scope := L2.defScope (top 7), globals := 3, closure := [], defaults := Value.none, kwdefaults := Value.none, pyModule := Value.str (Str.ofString "framerooms.words") 315, code := Value.ref 116 } }) ::
    (nat_lit 118, { cls := Value.type "tuple", data := Data.seq #[] }) ::
    (nat_lit 120, { cls := Value.type "tuple", data := Data.seq #[Value.str (Str.ofString "thing") 327, Value.str (Str.ofString "low") 328, Value.str (Str.ofString "high") 329] }) ::
    (nat_lit 121, { cls := Value.type "tuple", data := Data.seq #[] }) ::
    (nat_lit 123, { cls := Value.type "code", data := Data.fields #[Value.str (Str.ofString "is_whole") 324, Value.str (Str.ofString "is_whole") 325, Value.str (Str.ofString "/claim/cut.py") 326, Value.int 29 0, Value.int 3 0, Value.int 0 0, Value.int 0 0, Value.int 3 0, Value.ref 118, Value.bool true, Value.int 181 0, Value.ref 119, Value.none, Value.ref 120, Value.ref 121, Value.ref 122, Value.int 330 0, Value.int 29 0, Value.str (Str.ofString "/claim/cut.py") 331] }) ::
    (nat_lit 124, { cls := Value.type "function", data := Data.func { name := Str.ofString "is_whole", qualname := Str.ofString "is_whole", params := L2.defArgs (top 8), body := PySem.FuncBody.stmts (L2.defBody (top 8)), scope := L2.defScope (top 8), globals := 3, closure := [], defaults := Value.none, kwdefaults := Value.none, pyModule := Value.str (Str.ofString "framerooms.words") 315, code := Value.ref 123 } }) ::
    (nat_lit 132, { cls := Value.type "tuple", data := Data.seq #[] }) ::
    (nat_lit 134, { cls := Value.type "tuple", data := Data.seq #[Value.str (Str.ofString "self") 354] }) ::
    (nat_lit 135, { cls := Value.type "tuple", data := Data.seq #[] }) ::
    (nat_lit 137, { cls := Value.type "code", data := Data.fields #[Value.str (Str.ofString "__init__") 351, Value.str (Str.ofString "Frames.__init__") 352, Value.str (Str.ofString "/claim/cut.py") 353, Value.int 36 0, Value.int 1 0, Value.int 0 0, Value.int 0 0, Value.int 3 0, Value.ref 132, Value.bool true, Value.int 181 0, Value.ref 133, Value.none, Value.ref 134, Value.ref 135, Value.ref 136, Value.int 355 0, Value.int 36 0, Value.str (Str.ofString "/claim/cut.py") 356] }) ::
    (nat_lit 138, { cls := Value.type "function", data := Data.func { name := Str.ofString "__init__", qualname := Str.ofString "Frames.__init__", params := L2.defArgs (inClass (top 12) 0), body := PySem.FuncBody.stmts (L2.defBody (inClass (top 12) 0)), scope := L2.defScope (inClass (top 12) 0), globals := 3, closure := [], defaults := Value.none, kwdefaults := Value.none, pyModule := Value.str (Str.ofString "framerooms.frames") 333, code := Value.ref 137 } }) ::
    (nat_lit 139, { cls := Value.type "tuple", data := Data.seq #[] }) ::
    (nat_lit 141, { cls := Value.type "tuple", data := Data.seq #[Value.str (Str.ofString "self") 361, Value.str (Str.ofString "frame") 362] }) ::
    (nat_lit 142, { cls := Value.type "tuple", data := Data.seq #[] }) ::
    (nat_lit 144, { cls := Value.type "code", data := Data.fields #[Value.str (Str.ofString "begin") 358, Value.str (Str.ofString "Frames.begin") 359, Value.str (Str.ofString "/claim/cut.py") 360, Value.int 40 0, Value.int 2 0, Value.int 0 0, Value.int 0 0, Value.int 3 0, Value.ref 139, Value.bool true, Value.int 181 0, Value.ref 140, Value.none, Value.ref 141, Value.ref 142, Value.ref 143, Value.int 363 0, Value.int 40 0, Value.str (Str.ofString "/claim/cut.py") 364] }) ::
    (nat_lit 145, { cls := Value.type "function", data := Data.func { name := Str.ofString "begin", qualname := Str.ofString "Frames.begin", params := L2.defArgs (inClass (top 12) 1), body := PySem.FuncBody.stmts (L2.defBody (inClass (top 12) 1)), scope := L2.defScope (inClass (top 12) 1), globals := 3, closure := [], defaults := Value.none, kwdefaults := Value.none, pyModule := Value.str (Str.ofString "framerooms.frames") 333, code := Value.ref 144 } }) ::
    (nat_lit 146, { cls := Value.type "tuple", data := Data.seq #[] }) ::
    (nat_lit 148, { cls := Value.type "tuple", data := Data.seq #[Value.str (Str.ofString "self") 369, Value.str (Str.ofString "frame") 370, Value.str (Str.ofString "ended") 371, Value.str (Str.ofString "number") 372] }) ::
    (nat_lit 149, { cls := Value.type "tuple", data := Data.seq #[] }) ::
    (nat_lit 151, { cls := Value.type "code", data := Data.fields #[Value.str (Str.ofString "finish") 366, Value.str (Str.ofString "Frames.finish") 367, Value.str (Str.ofString "/claim/cut.py") 368, Value.int 46 0, Value.int 2 0, Value.int 0 0, Value.int 0 0, Value.int 3 0, Value.ref 146, Value.bool true, Value.int 181 0, Value.ref 147, Value.none, Value.ref 148, Value.ref 149, Value.ref 150, Value.int 373 0, Value.int 46 0, Value.str (Str.ofString "/claim/cut.py") 374] }) ::
    (nat_lit 152, { cls := Value.type "function", data := Data.func { name := Str.ofString "finish", qualname := Str.ofString "Frames.finish", params := L2.defArgs (inClass (top 12) 2), body := PySem.FuncBody.stmts (L2.defBody (inClass (top 12) 2)), scope := L2.defScope (inClass (top 12) 2), globals := 3, closure := [], defaults := Value.none, kwdefaults := Value.none, pyModule := Value.str (Str.ofString "framerooms.frames") 333, code := Value.ref 151 } }) ::
    (nat_lit 153, { cls := Value.type "tuple", data := Data.seq #[] }) ::
    (nat_lit 156, { cls := Value.type "code", data := Data.fields #[Value.str (Str.ofString "part") 376, Value.str (Str.ofString "Frames.part") 377, Value.str (Str.ofString "/claim/cut.py") 378, Value.int 53 0, Value.int 2 0, Value.int 0 0, Value.int 0 0, Value.int 3 0, Value.ref 153, Value.bool true, Value.int 181 0, Value.ref 154, Value.none, Value.none, Value.none, Value.ref 155, Value.int 379 0, Value.int 53 0, Value.str (Str.ofString "/claim/cut.py") 380] }) ::
    (nat_lit 157, { cls := Value.type "function", data := Data.func { name := Str.ofString "part", qualname := Str.ofString "Frames.part", params := L2.defArgs (inClass (top 12) 3), body := PySem.FuncBody.stmts (L2.defBody (inClass (top 12) 3)), scope := L2.defScope (inClass (top 12) 3), globals := 3, closure := [], defaults := Value.none, kwdefaults := Value.none, pyModule := Value.str (Str.ofString "framerooms.frames") 333, code := Value.ref 156 } }) ::
    (nat_lit 158, { cls := Value.type "tuple", data := Data.seq #[] }) ::
    (nat_lit 160, { cls := Value.type "tuple", data := Data.seq #[Value.str (Str.ofString "self") 385, Value.str (Str.ofString "frame") 386] }) ::
    (nat_lit 161, { cls := Value.type "tuple", data := Data.seq #[] }) ::
    (nat_lit 163, { cls := Value.type "code", data := Data.fields #[Value.str (Str.ofString "inside") 382, Value.str (Str.ofString "Frames.inside") 383, Value.str (Str.ofString "/claim/cut.py") 384, Value.int 56 0, Value.int 2 0, Value.int 0 0, Value.int 0 0, Value.int 3 0, Value.ref 158, Value.bool true, Value.int 181 0, Value.ref 159, Value.none, Value.ref 160, Value.ref 161, Value.ref 162, Value.int 387 0, Value.int 56 0, Value.str (Str.ofString "/claim/cut.py") 388] }) ::
    (nat_lit 164, { cls := Value.type "function", data := Data.func { name := Str.ofString "inside", qualname := Str.ofString "Frames.inside", params := L2.defArgs (inClass (top 12) 4), body := PySem.FuncBody.stmts (L2.defBody (inClass (top 12) 4)), scope := L2.defScope (inClass (top 12) 4), globals := 3, closure := [], defaults := Value.none, kwdefaults := Value.none, pyModule := Value.str (Str.ofString "framerooms.frames") 333, code := Value.ref 163 } }) ::
    (nat_lit 165, { cls := Value.type "tuple", data := Data.seq #[] }) ::
    (nat_lit 167, { cls := Value.type "tuple", data := Data.seq #[Value.str (Str.ofString "self") 393, Value.str (Str.ofString "frame") 394, Value.str (Str.ofString "outward") 395, Value.str (Str.ofString "step") 396] }) ::
    (nat_lit 168, { cls := Value.type "tuple", data := Data.seq #[] }) ::
    (nat_lit 170, { cls := Value.type "code", data := Data.fields #[Value.str (Str.ofString "row") 390, Value.str (Str.ofString "Frames.row") 391, Value.str (Str.ofString "/claim/cut.py") 392, Value.int 60 0, Value.int 2 0, Value.int 0 0, Value.int 0 0, Value.int 3 0, Value.ref 165, Value.bool true, Value.int 181 0, Value.ref 166, Value.none, Value.ref 167, Value.ref 168, Value.ref 169, Value.int 397 0, Value.int 60 0, Value.str (Str.ofString "/claim/cut.py") 398] }) ::
    (nat_lit 171, { cls := Value.type "function", data := Data.func { name := Str.ofString "row", qualname := Str.ofString "Frames.row", params := L2.defArgs (inClass (top 12) 5), body := PySem.FuncBody.stmts (L2.defBody (inClass (top 12) 5)), scope := L2.defScope (inClass (top 12) 5), globals := 3, closure := [], defaults := Value.none, kwdefaults := Value.none, pyModule := Value.str (Str.ofString "framerooms.frames") 333, code := Value.ref 170 } }) ::
    (nat_lit 172, { cls := Value.type "tuple", data := Data.seq #[] }) ::
    (nat_lit 175, { cls := Value.type "code", data := Data.fields #[Value.str (Str.ofString "within") 400, Value.str (Str.ofString "Frames.within") 401, Value.str (Str.ofString "/claim/cut.py") 402, Value.int 69 0, Value.int 2 0, Value.int 0 0, Value.int 0 0, Value.int 3 0, Value.ref 172, Value.bool true, Value.int 181 0, Value.ref 173, Value.none, Value.none, Value.none, Value.ref 174, Value.int 403 0, Value.int 69 0, Value.str (Str.ofString "/claim/cut.py") 404] }) ::
    (nat_lit 176, { cls := Value.type "function", data := Data.func { name := Str.ofString "within", qualname := Str.ofString "Frames.within", params := L2.defArgs (inClass (top 12) 6), body := PySem.FuncBody.stmts (L2.defBody (inClass (top 12) 6)), scope := L2.defScope (inClass (top 12) 6), globals := 3, closure := [], defaults := Value.none, kwdefaults := Value.none, pyModule := Value.str (Str.ofString "framerooms.frames") 333, code := Value.ref 175 } }) ::
    (nat_lit 177, { cls := Value.type "tuple", data := Data.seq #[] }) ::
    (nat_lit 179, { cls := Value.type "tuple", data := Data.seq #[Value.str (Str.ofString "self") 409, Value.str (Str.ofString "frame") 410] }) ::
    (nat_lit 180, { cls := Value.type "tuple", data := Data.seq #[] }) ::
    (nat_lit 182, { cls := Value.type "code", data := Data.fields #[Value.str (Str.ofString "ended_by") 406, Value.str (Str.ofString "Frames.ended_by") 407, Value.str (Str.ofString "/claim/cut.py") 408, Value.int 73 0, Value.int 2 0, Value.int 0 0, Value.int 0 0, Value.int 3 0, Value.ref 177, Value.bool true, Value.int 181 0, Value.ref 178, Value.none, Value.ref 179, Value.ref 180, Value.ref 181, Value.int 411 0, Value.int 73 0, Value.str (Str.ofString "/claim/cut.py") 412] }) ::
    (nat_lit 183, { cls := Value.type "function", data := Data.func { name := Str.ofString "ended_by", qualname := Str.ofString "Frames.ended_by", params := L2.defArgs (inClass (top 12) 7), body := PySem.FuncBody.stmts (L2.defBody (inClass (top 12) 7)), scope := L2.defScope (inClass (top 12) 7), globals := 3, closure := [], defaults := Value.none, kwdefaults := Value.none, pyModule := Value.str (Str.ofString "framerooms.frames") 333, code := Value.ref 182 } }) ::
    (nat_lit 184, { cls := Value.type "tuple", data := Data.seq #[] }) ::
    (nat_lit 186, { cls := Value.type "tuple", data := Data.seq #[Value.str (Str.ofString "self") 417, Value.str (Str.ofString "thing") 418] }) ::
    (nat_lit 187, { cls := Value.type "tuple", data := Data.seq #[] }) ::
    (nat_lit 189, { cls := Value.type "code", data := Data.fields #[Value.str (Str.ofString "stands") 414, Value.str (Str.ofString "Frames.stands") 415, Value.str (Str.ofString "/claim/cut.py") 416, Value.int 77 0, Value.int 2 0, Value.int 0 0, Value.int 0 0, Value.int 3 0, Value.ref 184, Value.bool true, Value.int 181 0, Value.ref 185, Value.none, Value.ref 186, Value.ref 187, Value.ref 188, Value.int 419 0, Value.int 77 0, Value.str (Str.ofString "/claim/cut.py") 420] }) ::
    (nat_lit 190, { cls := Value.type "function", data := Data.func { name := Str.ofString "stands", qualname := Str.ofString "Frames.stands", params := L2.defArgs (inClass (top 12) 8), body := PySem.FuncBody.stmts (L2.defBody (inClass (top 12) 8)), scope := L2.defScope (inClass (top 12) 8), globals := 3, closure := [], defaults := Value.none, kwdefaults := Value.none, pyModule := Value.str (Str.ofString "framerooms.frames") 333, code := Value.ref 189 } }) ::
    (nat_lit 191, { cls := Value.type "tuple", data := Data.seq #[] }) ::
    (nat_lit 194, { cls := Value.type "code", data := Data.fields #[Value.str (Str.ofString "standing") 422, Value.str (Str.ofString "Frames.standing") 423, Value.str (Str.ofString "/claim/cut.py") 424, Value.int 80 0, Value.int 1 0, Value.int 0 0, Value.int 0 0, Value.int 3 0, Value.ref 191, Value.bool true, Value.int 181 0, Value.ref 192, Value.none, Value.none, Value.none, Value.ref 193, Value.int 425 0, Value.int 80 0, Value.str (Str.ofString "/claim/cut.py") 426] }) ::
    (nat_lit 195, { cls := Value.type "function", data := Data.func { name := Str.ofString "standing", qualname := Str.ofString "Frames.standing", params := L2.defArgs (inClass (top 12) 9), body := PySem.FuncBody.stmts (L2.defBody (inClass (top 12) 9)), scope := L2.defScope (inClass (top 12) 9), globals := 3, closure := [], defaults := Value.none, kwdefaults := Value.none, pyModule := Value.str (Str.ofString "framerooms.frames") 333, code := Value.ref 194 } }) ::
    (nat_lit 196, { cls := Value.type "tuple", data := Data.seq #[] }) ::
    (nat_lit 198, { cls := Value.type "tuple", data := Data.seq #[Value.str (Str.ofString "self") 431] }) ::
    (nat_lit 199, { cls := Value.type "tuple", data := Data.seq #[] }) ::
    (nat_lit 201, { cls := Value.type "code", data := Data.fields #[Value.str (Str.ofString "begun") 428, Value.str (Str.ofString "Frames.begun") 429, Value.str (Str.ofString "/claim/cut.py") 430, Value.int 83 0, Value.int 1 0, Value.int 0 0, Value.int 0 0, Value.int 3 0, Value.ref 196, Value.bool true, Value.int 181 0, Value.ref 197, Value.none, Value.ref 198, Value.ref 199, Value.ref 200, Value.int 432 0, Value.int 83 0, Value.str (Str.ofString "/claim/cut.py") 433] }) ::
    (nat_lit 202, { cls := Value.type "function", data := Data.func { name := Str.ofString "begun", qualname := Str.ofString "Frames.begun", params := L2.defArgs (inClass (top 12) 10), body := PySem.FuncBody.stmts (L2.defBody (inClass (top 12) 10)), scope := L2.defScope (inClass (top 12) 10), globals := 3, closure := [], defaults := Value.none, kwdefaults := Value.none, pyModule := Value.str (Str.ofString "framerooms.frames") 333, code := Value.ref 201 } }) ::
    (nat_lit 203, { cls := Value.type "tuple", data := Data.seq #[] }) ::
    (nat_lit 205, { cls := Value.type "tuple", data := Data.seq #[Value.str (Str.ofString "self") 438, Value.str (Str.ofString "thing") 439] }) ::
    (nat_lit 206, { cls := Value.type "tuple", data := Data.seq #[] }) ::
    (nat_lit 208, { cls := Value.type "code", data := Data.fields #[Value.str (Str.ofString "was_begun") 435, Value.str (Str.ofString "Frames.was_begun") 436, Value.str (Str.ofString "/claim/cut.py") 437, Value.int 86 0, Value.int 2 0, Value.int 0 0, Value.int 0 0, Value.int 3 0, Value.ref 203, Value.bool true, Value.int 181 0, Value.ref 204, Value.none, Value.ref 205, Value.ref 206, Value.ref 207, Value.int 440 0, Value.int 86 0, Value.str (Str.ofString "/claim/cut.py") 441] }) ::
    (nat_lit 209, { cls := Value.type "function", data := Data.func { name := Str.ofString "was_begun", qualname := Str.ofString "Frames.was_begun", params := L2.defArgs (inClass (top 12) 11), body := PySem.FuncBody.stmts (L2.defBody (inClass (top 12) 11)), scope := L2.defScope (inClass (top 12) 11), globals := 3, closure := [], defaults := Value.none, kwdefaults := Value.none, pyModule := Value.str (Str.ofString "framerooms.frames") 333, code := Value.ref 208 } }) ::
    (nat_lit 210, { cls := Value.type "tuple", data := Data.seq #[] }) ::
    (nat_lit 212, { cls := Value.type "tuple", data := Data.seq #[Value.str (Str.ofString "self") 446, Value.str (Str.ofString "thing") 447] }) ::
    (nat_lit 213, { cls := Value.type "tuple", data := Data.seq #[] }) ::
    (nat_lit 215, { cls := Value.type "code", data := Data.fields #[Value.str (Str.ofString "want_begun") 443, Value.str (Str.ofString "Frames.want_begun") 444, Value.str (Str.ofString "/claim/cut.py") 445, Value.int 89 0, Value.int 2 0, Value.int 0 0, Value.int 0 0, Value.int 3 0, Value.ref 210, Value.bool true, Value.int 181 0, Value.ref 211, Value.none, Value.ref 212, Value.ref 213, Value.ref 214, Value.int 448 0, Value.int 89 0, Value.str (Str.ofString "/claim/cut.py") 449] }) ::
    (nat_lit 216, { cls := Value.type "function", data := Data.func { name := Str.ofString "want_begun", qualname := Str.ofString "Frames.want_begun", params := L2.defArgs (inClass (top 12) 12), body := PySem.FuncBody.stmts (L2.defBody (inClass (top 12) 12)), scope := L2.defScope (inClass (top 12) 12), globals := 3, closure := [], defaults := Value.none, kwdefaults := Value.none, pyModule := Value.str (Str.ofString "framerooms.frames") 333, code := Value.ref 215 } }) ::
    (nat_lit 217, { cls := Value.type "tuple", data := Data.seq #[] }) ::
    (nat_lit 219, { cls := Value.type "tuple", data := Data.seq #[Value.str (Str.ofString "self") 454, Value.str (Str.ofString "thing") 455] }) ::
    (nat_lit 220, { cls := Value.type "tuple", data := Data.seq #[] }) ::
    (nat_lit 222, { cls := Value.type "code", data := Data.fields #[Value.str (Str.ofString "want_standing") 451, Value.str (Str.ofString "Frames.want_standing") 452, Value.str (Str.ofString "/claim/cut.py") 453, Value.int 93 0, Value.int 2 0, Value.int 0 0, Value.int 0 0, Value.int 3 0, Value.ref 217, Value.bool true, Value.int 181 0, Value.ref 218, Value.none, Value.ref 219, Value.ref 220, Value.ref 221, Value.int 456 0, Value.int 93 0, Value.str (Str.ofString "/claim/cut.py") 457] }) ::
    (nat_lit 223, { cls := Value.type "function", data := Data.func { name := Str.ofString "want_standing", qualname := Str.ofString "Frames.want_standing", params := L2.defArgs (inClass (top 12) 13), body := PySem.FuncBody.stmts (L2.defBody (inClass (top 12) 13)), scope := L2.defScope (inClass (top 12) 13), globals := 3, closure := [], defaults := Value.none, kwdefaults := Value.none, pyModule := Value.str (Str.ofString "framerooms.frames") 333, code := Value.ref 222 } }) ::
    (nat_lit 224, { cls := Value.type "tuple", data := Data.seq #[] }) ::
    (nat_lit 226, { cls := Value.type "tuple", data := Data.seq #[Value.str (Str.ofString "self") 462, Value.str (Str.ofString "thing") 463] }) ::
    (nat_lit 227, { cls := Value.type "tuple", data := Data.seq #[] }) ::
    (nat_lit 229, { cls := Value.type "code", data := Data.fields #[Value.str (Str.ofString "want_beginning") 459, Value.str (Str.ofString "Frames.want_beginning") 460, Value.str (Str.ofString "/claim/cut.py") 461, Value.int 98 0, Value.int 2 0, Value.int 0 0, Value.int 0 0, Value.int 3 0, Value.ref 224, Value.bool true, Value.int 181 0, Value.ref 225, Value.none, Value.ref 226, Value.ref 227, Value.ref 228, Value.int 464 0, Value.int 98 0, Value.str (Str.ofString "/claim/cut.py") 465] }) ::
    (nat_lit 230, { cls := Value.type "function", data := Data.func { name := Str.ofString "want_beginning", qualname := Str.ofString "Frames.want_beginning", params := L2.defArgs (inClass (top 12) 14), body := PySem.FuncBody.stmts (L2.defBody (inClass (top 12) 14)), scope := L2.defScope (inClass (top 12) 14), globals := 3, closure := [], defaults := Value.none, kwdefaults := Value.none, pyModule := Value.str (Str.ofString "framerooms.frames") 333, code := Value.ref 229 } }) ::
    (nat_lit 231, { cls := Value.type "tuple", data := Data.seq #[] }) ::
    (nat_lit 233, { cls := Value.type "tuple", data := Data.seq #[Value.str (Str.ofString "self") 470, Value.str (Str.ofString "thing") 471] }) ::
    (nat_lit 234, { cls := Value.type "tuple", data := Data.seq #[] }) ::
    (nat_lit 236, { cls := Value.type "code", data := Data.fields #[Value.str (Str.ofString "want_finishing") 467, Value.str (Str.ofString "Frames.want_finishing") 468, Value.str (Str.ofString "/claim/cut.py") 469, Value.int 103 0, Value.int 2 0, Value.int 0 0, Value.int 0 0, Value.int 3 0, Value.ref 231, Value.bool true, Value.int 181 0, Value.ref 232, Value.none, Value.ref 233, Value.ref 234, Value.ref 235, Value.int 472 0, Value.int 103 0, Value.str (Str.ofString "/claim/cut.py") 473] }) ::
    (nat_lit 237, { cls := Value.type "function", data := Data.func { name := Str.ofString "want_finishing", qualname := Str.ofString "Frames.want_finishing", params := L2.defArgs (inClass (top 12) 15), body := PySem.FuncBody.stmts (L2.defBody (inClass (top 12) 15)), scope := L2.defScope (inClass (top 12) 15), globals := 3, closure := [], defaults := Value.none, kwdefaults := Value.none, pyModule := Value.str (Str.ofString "framerooms.frames") 333, code := Value.ref 236 } }) ::
    (nat_lit 238, { cls := Value.type "tuple", data := Data.seq #[Value.str (Str.ofString "parents") 475, Value.str (Str.ofString "takers") 476] }) ::
    (nat_lit 239, { cls := Value.type "dict", data := Data.dict #[{ hash := PyData.keyHash P (Str.ofString "__module__"), key := Value.str (Str.ofString "__module__") 346, val := Value.str (Str.ofString "framerooms.frames") 333 }, { hash := PyData.keyHash P (Str.ofString "__firstlineno__"), key := Value.str (Str.ofString "__firstlineno__") 350, val := Value.int 34 349 }, { hash := PyData.keyHash P (Str.ofString "__init__"), key := Value.str (Str.ofString "__init__") 357, val := Value.ref 138 }, { hash := PyData.keyHash P (Str.ofString "begin"), key := Value.str (Str.ofString "begin") 365, val := Value.ref 145 }, { hash := PyData.keyHash P (Str.ofString "finish"), key := Value.str (Str.ofString "finish") 375, val := Value.ref 152 }, { hash := PyData.keyHash P (Str.ofString "part"), key := Value.str (Str.ofString "part") 381, val := Value.ref 157 }, { hash := PyData.keyHash P (Str.ofString "inside"), key := Value.str (Str.ofString "inside") 389, val := Value.ref 164 }, { hash := PyData.keyHash P (Str.ofString "row"), key := Value.str (Str.ofString "row") 399, val := Value.ref 171 }, { hash := PyData.keyHash P (Str.ofString "within"), key := Value.str (Str.ofString "within") 405, val := Value.ref 176 }, { hash := PyData.keyHash P (Str.ofString "ended_by"), key := Value.str (Str.ofString "ended_by") 413, val := Value.ref 183 }, { hash := PyData.keyHash P (Str.ofString "stands"), key := Value.str (Str.ofString "stands") 421, val := Value.ref 190 }, { hash := PyData.keyHash P (Str.ofString "standing"), key := Value.str (Str.ofString "standing") 427, val := Value.ref 195 }, { hash := PyData.keyHash P (Str.ofString "begun"), key := Value.str (Str.ofString "begun") 434, val := Value.ref 202 }, { hash := PyData.keyHash P (Str.ofString "was_begun"), key := Value.str (Str.ofString "was_begun") 442, val := Value.ref 209 }, { hash := PyData.keyHash P (Str.ofString "want_begun"), key := Value.str (Str.ofString "want_begun") 450, val := Value.ref 216 }, { hash := PyData.keyHash P (Str.ofString "want_standing"), key := Value.str (Str.ofString "want_standing") 458, val := Value.ref 223 }, { hash := PyData.keyHash P (Str.ofString "want_beginning"), key := Value.str (Str.ofString "want_beginning") 466, val := Value.ref 230 }, { hash := PyData.keyHash P (Str.ofString "want_finishing"), key := Value.str (Str.ofString "want_finishing") 474, val := Value.ref 237 }, { hash := PyData.keyHash P (Str.ofString "__static_attributes__"), key := Value.str (Str.ofString "__static_attributes__") 477, val := Value.ref 238 }, { hash := PyData.keyHash P (Str.ofString "__dict__"), key := Value.str (Str.ofString "__dict__") 479, val := Value.ref 241 }, { hash := PyData.keyHash P (Str.ofString "__weakref__"), key := Value.str (Str.ofString "__weakref__") 481, val := Value.ref 242 }, { hash := PyData.keyHash P (Str.ofString "__doc__"), key := Value.str (Str.ofString "__doc__") 482, val := Value.none }] 4 }) ::
    (nat_lit 240, { cls := Value.type "type", data := Data.cls { name := Str.ofString "Frames", bases := [Value.type "object"], mro := [Value.ref 240, Value.type "object"], ns := 239, qualname := Str.ofString "Frames" }, slots := #[none, none, some (Value.str (Str.ofString "Frames") 339), some (Value.str (Str.ofString "Frames") 347), some (Value.builtin "object.__new__"), some (Value.bool true)] }) ::
    (nat_lit 241, { cls := Value.type "getset_descriptor", data := Data.fields #[Value.str (Str.ofString "__dict__") 478, Value.ref 240, Value.builtin "function.__dict__", Value.builtin "function.__dict__#set"] }) ::
    (nat_lit 242, { cls := Value.type "getset_descriptor", data := Data.fields #[Value.str (Str.ofString "__weakref__") 480, Value.ref 240, Value.builtin "ExceptionGroup.__weakref__", Value.none] }) ::
    (nat_lit 245, { cls := Value.type "tuple", data := Data.seq #[] }) ::
    (nat_lit 247, { cls := Value.type "tuple", data := Data.seq #[Value.str (Str.ofString "_law_script") 490, Value.str (Str.ofString "_law_k") 491] }) ::
    (nat_lit 248, { cls := Value.type "tuple", data := Data.seq #[] }) ::
    (nat_lit 250, { cls := Value.type "code", data := Data.fields #[Value.str (Str.ofString "_law_cell") 487, Value.str (Str.ofString "_law_cell") 488, Value.str (Str.ofString "/claim/cut.py") 489, Value.int 108 0, Value.int 2 0, Value.int 0 0, Value.int 0 0, Value.int 3 0, Value.ref 245, Value.bool true, Value.int 181 0, Value.ref 246, Value.none, Value.ref 247, Value.ref 248, Value.ref 249, Value.int 492 0, Value.int 108 0, Value.str (Str.ofString "/claim/cut.py") 493] }) ::
    (nat_lit 251, { cls := Value.type "function", data := Data.func { name := Str.ofString "_law_cell", qualname := Str.ofString "_law_cell", params := L2.defArgs (top 14), body := PySem.FuncBody.stmts (L2.defBody (top 14)), scope := L2.defScope (top 14), globals := 3, closure := [], defaults := Value.none, kwdefaults := Value.none, pyModule := Value.str (Str.ofString "law_framerooms_k07_frames_refused") 485, code := Value.ref 250 } }) ::
    (nat_lit 252, { cls := Value.type "tuple", data := Data.seq #[] }) ::
    (nat_lit 254, { cls := Value.type "tuple", data := Data.seq #[Value.str (Str.ofString "_law_cell_here") 498] }) ::
    (nat_lit 255, { cls := Value.type "tuple", data := Data.seq #[] }) ::
    (nat_lit 257, { cls := Value.type "code", data := Data.fields #[Value.str (Str.ofString "_law_box") 495, Value.str (Str.ofString "_law_box") 496, Value.str (Str.ofString "/claim/cut.py") 497, Value.int 112 0, Value.int 1 0, Value.int 0 0, Value.int 0 0, Value.int 3 0, Value.ref 252, Value.bool true, Value.int 181 0, Value.ref 253, Value.none, Value.ref 254, Value.ref 255, Value.ref 256, Value.int 499 0, Value.int 112 0, Value.str (Str.ofString "/claim/cut.py") 500] }) ::
    (nat_lit 258, { cls := Value.type "function", data := Data.func { name := Str.ofString "_law_box", qualname := Str.ofString "_law_box", params := L2.defArgs (top 15), body := PySem.FuncBody.stmts (L2.defBody (top 15)), scope := L2.defScope (top 15), globals := 3, closure := [], defaults := Value.none, kwdefaults := Value.none, pyModule := Value.str (Str.ofString "law_framerooms_k07_frames_refused") 485, code := Value.ref 257 } }) ::
    (nat_lit 259, { cls := Value.type "tuple", data := Data.seq #[] }) ::
    (nat_lit 261, { cls := Value.type "tuple", data := Data.seq #[Value.str (Str.ofString "_law_box_here") 505, Value.str (Str.ofString "_law_many") 506, Value.str (Str.ofString "_law_digit") 507, Value.str (Str.ofString "_law_one_here") 508, Value.str (Str.ofString "_law_other") 509] }) ::
    (nat_lit 262, { cls := Value.type "tuple", data := Data.seq #[] }) ::
    (nat_lit 264, { cls := Value.type "code", data := Data.fields #[Value.str (Str.ofString "_law_take") 502, Value.str (Str.ofString "_law_take") 503, Value.str (Str.ofString "/claim/cut.py") 504, Value.int 114 0, Value.int 2 0, Value.int 0 0, Value.int 0 0, Value.int 3 0, Value.ref 259, Value.bool true, Value.int 181 0, Value.ref 260, Value.none, Value.ref 261, Value.ref 262, Value.ref 263, Value.int 510 0, Value.int 114 0, Value.str (Str.ofString "/claim/cut.py") 511] }) ::
    (nat_lit 265, { cls := Value.type "function", data := Data.func { name := Str.ofString "_law_take", qualname := Str.ofString "_law_take", params := L2.defArgs (top 16), body := PySem.FuncBody.stmts (L2.defBody (top 16)), scope := L2.defScope (top 16), globals := 3, closure := [], defaults := Value.none, kwdefaults := Value.none, pyModule := Value.str (Str.ofString "law_framerooms_k07_frames_refused") 485, code := Value.ref 264 } }) ::
    (nat_lit 266, { cls := Value.type "tuple", data := Data.seq #[] }) ::
    (nat_lit 268, { cls := Value.type "tuple", data := Data.seq #[] }) ::
    (nat_lit 269, { cls := Value.type "tuple", data := Data.seq #[] }) ::
    (nat_lit 271, { cls := Value.type "code", data := Data.fields #[Value.str (Str.ofString "_law_model") 513, Value.str (Str.ofString "_law_model") 514, Value.str (Str.ofString "/claim/cut.py") 515, Value.int 123 0, Value.int 0 0, Value.int 0 0, Value.int 0 0, Value.int 3 0, Value.ref 266, Value.bool true, Value.int 181 0, Value.ref 267, Value.none, Value.ref 268, Value.ref 269, Value.ref 270, Value.int 516 0, Value.int 123 0, Value.str (Str.ofString "/claim/cut.py") 517] }) ::
    (nat_lit 272, { cls := Value.type "function", data := Data.func { name := Str.ofString "_law_model", qualname := Str.ofString "_law_model", params := L2.defArgs (top 17), body := PySem.FuncBody.stmts (L2.defBody (top 17)), scope := L2.defScope (top 17), globals := 3, closure := [], defaults := Value.none, kwdefaults := Value.none, pyModule := Value.str (Str.ofString "law_framerooms_k07_frames_refused") 485, code := Value.ref 271 } }) ::
    (nat_lit 273, { cls := Value.type "tuple", data := Data.seq #[] }) ::
    (nat_lit 276, { cls := Value.type "code", data := Data.fields #[Value.str (Str.ofString "_law_standing") 519, Value.str (Str.ofString "_law_standing") 520, Value.str (Str.ofString "/claim/cut.py") 521, Value.int 125 0, Value.int 1 0, Value.int 0 0, Value.int 0 0, Value.int 3 0, Value.ref 273, Value.bool true, Value.int 181 0, Value.ref 274, Value.none, Value.none, Value.none, Value.ref 275, Value.int 522 0, Value.int 125 0, Value.str (Str.ofString "/claim/cut.py") 523] }) ::
    (nat_lit 277, { cls := Value.type "function", data := Data.func { name := Str.ofString "_law_standing", qualname := Str.ofString "_law_standing", params := L2.defArgs (top 18), body := PySem.FuncBody.stmts (L2.defBody (top 18)), scope := L2.defScope (top 18), globals := 3, closure := [], defaults := Value.none, kwdefaults := Value.none, pyModule := Value.str (Str.ofString "law_framerooms_k07_frames_refused") 485, code := Value.ref 276 } }) ::
    (nat_lit 278, { cls := Value.type "tuple", data := Data.seq #[] }) ::
    (nat_lit 280, { cls := Value.type "tuple", data := Data.seq #[Value.str (Str.ofString "_law_model_here") 528, Value.str (Str.ofString "_law_frame") 529, Value.str (Str.ofString "_law_found") 530] }) ::
    (nat_lit 281, { cls := Value.type "tuple", data := Data.seq #[] }) ::
    (nat_lit 283, { cls := Value.type "code", data := Data.fields #[Value.str (Str.ofString "_law_row") 525, Value.str (Str.ofString "_law_row") 526, Value.str (Str.ofString "/claim/cut.py") 527, Value.int 127 0, Value.int 2 0, Value.int 0 0, Value.int 0 0, Value.int 3 0, Value.ref 278, Value.bool true, Value.int 181 0, Value.ref 279, Value.none, Value.ref 280, Value.ref 281, Value.ref 282, Value.int 531 0, Value.int 127 0, Value.str (Str.ofString "/claim/cut.py") 532] }) ::
    (nat_lit 284, { cls := Value.type "function", data := Data.func { name := Str.ofString "_law_row", qualname := Str.ofString "_law_row", params := L2.defArgs (top 19), body := PySem.FuncBody.stmts (L2.defBody (top 19)), scope := L2.defScope (top 19), globals := 3, closure := [], defaults := Value.none, kwdefaults := Value.none, pyModule := Value.str (Str.ofString "law_framerooms_k07_frames_refused") 485, code := Value.ref 283 } }) ::
    (nat_lit 285, { cls := Value.type "tuple", data := Data.seq #[] }) ::
    (nat_lit 287, { cls := Value.type "tuple", data := Data.seq #[Value.str (Str.ofString "_law_model_here") 537, Value.str (Str.ofString "_law_frame") 538] }) ::
    (nat_lit 288, { cls := Value.type "tuple", data := Data.seq #[] }) ::
    (nat_lit 290, { cls := Value.type "code", data := Data.fields #[Value.str (Str.ofString "_law_begin") 534, Value.str (Str.ofString "_law_begin") 535, Value.str (Str.ofString "/claim/cut.py") 536, Value.int 132 0, Value.int 2 0, Value.int 0 0, Value.int 0 0, Value.int 3 0, Value.ref 285, Value.bool true, Value.int 181 0, Value.ref 286, Value.none, Value.ref 287, Value.ref 288, Value.ref 289, Value.int 539 0, Value.int 132 0, Value.str (Str.ofString "/claim/cut.py") 540] }) ::
    (nat_lit 291, { cls := Value.type "function", data := Data.func { name := Str.ofString "_law_begin", qualname := Str.ofString "_law_begin", params := L2.defArgs (top 20), body := PySem.FuncBody.stmts (L2.defBody (top 20)), scope := L2.defScope (top 20), globals := 3, closure := [], defaults := Value.none, kwdefaults := Value.none, pyModule := Value.str (Str.ofString "law_framerooms_k07_frames_refused") 485, code := Value.ref 290 } }) ::
    (nat_lit 292, { cls := Value.type "tuple", data := Data.seq #[] }) ::
    (nat_lit 295, { cls := Value.type "code", data := Data.fields #[Value.str (Str.ofString "_law_finish") 542, Value.str (Str.ofString "_law_finish") 543, Value.str (Str.ofString "/claim/cut.py") 544, Value.int 136 0, Value.int 2 0, Value.int 0 0, Value.int 0 0, Value.int 3 0, Value.ref 292, Value.bool true, Value.int 181 0, Value.ref 293, Value.none, Value.none, Value.none, Value.ref 294, Value.int 545 0, Value.int 136 0, Value.str (Str.ofString "/claim/cut.py") 546] }) ::
    (nat_lit 296, { cls := Value.type "function", data := Data.func { name := Str.ofString "_law_finish", qualname := Str.ofString "_law_finish", params := L2.defArgs (top 21), body := PySem.FuncBody.stmts (L2.defBody (top 21)), scope := L2.defScope (top 21), globals := 3, closure := [], defaults := Value.none, kwdefaults := Value.none, pyModule := Value.str (Str.ofString "law_framerooms_k07_frames_refused") 485, code := Value.ref 295 } }) ::
    (nat_lit 297, { cls := Value.type "tuple", data := Data.seq #[] }) ::
    (nat_lit 299, { cls := Value.type "tuple", data := Data.seq #[Value.str (Str.ofString "_law_box_here") 551, Value.str (Str.ofString "_law_some") 552, Value.str (Str.ofString "_law_way") 553, Value.str (Str.ofString "_law_at") 554] }) ::
    (nat_lit 300, { cls := Value.type "tuple", data := Data.seq #[] }) ::
    (nat_lit 302, { cls := Value.type "code", data := Data.fields #[Value.str (Str.ofString "_law_one") 548, Value.str (Str.ofString "_law_one") 549, Value.str (Str.ofString "/claim/cut.py") 550, Value.int 141 0, Value.int 2 0, Value.int 0 0, Value.int 0 0, Value.int 3 0, Value.ref 297, Value.bool true, Value.int 181 0, Value.ref 298, Value.none, Value.ref 299, Value.ref 300, Value.ref 301, Value.int 555 0, Value.int 141 0, Value.str (Str.ofString "/claim/cut.py") 556] }) ::
    (nat_lit 303, { cls := Value.type "function", data := Data.func { name := Str.ofString "_law_one", qualname := Str.ofString "_law_one", params := L2.defArgs (top 22), body := PySem.FuncBody.stmts (L2.defBody (top 22)), scope := L2.defScope (top 22), globals := 3, closure := [], defaults := Value.none, kwdefaults := Value.none, pyModule := Value.str (Str.ofString "law_framerooms_k07_frames_refused") 485, code := Value.ref 302 } }) ::
    (nat_lit 304, { cls := Value.type "tuple", data := Data.seq #[] }) ::
    (nat_lit 306, { cls := Value.type "tuple", data := Data.seq #[Value.str (Str.ofString "_law_box_here") 561, Value.str (Str.ofString "_law_frames") 562, Value.str (Str.ofString "_law_model_here") 563, Value.str (Str.ofString "_law_many") 564, Value.str (Str.ofString "_law_turn") 565, Value.str (Str.ofString "_law_ends") 566, Value.str (Str.ofString "_law_frame") 567] }) ::
    (nat_lit 307, { cls := Value.type "tuple", data := Data.seq #[] }) ::
    (nat_lit 309, { cls := Value.type "code", data := Data.fields #[Value.str (Str.ofString "_law_deeds") 558, Value.str (Str.ofString "_law_deeds") 559, Value.str (Str.ofString "/claim/cut.py") 560, Value.int 145 0, Value.int 4 0, Value.int 0 0, Value.int 0 0, Value.int 3 0, Value.ref 304, Value.bool true, Value.int 181 0, Value.ref 305, Value.none, Value.ref 306, Value.ref 307, Value.ref 308, Value.int 568 0, Value.int 145 0, Value.str (Str.ofString "/claim/cut.py") 569] }) ::
    (nat_lit 310, { cls := Value.type "function", data := Data.func { name := Str.ofString "_law_deeds", qualname := Str.ofString "_law_deeds", params := L2.defArgs (top 23), body := PySem.FuncBody.stmts (L2.defBody (top 23)), scope := L2.defScope (top 23), globals := 3, closure := [], defaults := Value.none, kwdefaults := Value.none, pyModule := Value.str (Str.ofString "law_framerooms_k07_frames_refused") 485, code := Value.ref 309 } }) ::
    (nat_lit 311, { cls := Value.type "tuple", data := Data.seq #[] }) ::
    (nat_lit 313, { cls := Value.type "tuple", data := Data.seq #[Value.str (Str.ofString "_law_frames") 574, Value.str (Str.ofString "_law_model_here") 575] }) ::
    (nat_lit 314, { cls := Value.type "tuple", data := Data.seq #[] }) ::
    (nat_lit 316, { cls := Value.type "code", data := Data.fields #[Value.str (Str.ofString "_law_filled") 571, Value.str (Str.ofString "_law_filled") 572, Value.str (Str.ofString "/claim/cut.py") 573, Value.int 155 0, Value.int 2 0, Value.int 0 0, Value.int 0 0, Value.int 3 0, Value.ref 311, Value.bool true, Value.int 181 0, Value.ref 312, Value.none, Value.ref 313, Value.ref 314, Value.ref 315, Value.int 576 0, Value.int 155 0, Value.str (Str.ofString "/claim/cut.py") 577] }) ::
    (nat_lit 317, { cls := Value.type "function", data := Data.func { name := Str.ofString "_law_filled", qualname := Str.ofString "_law_filled", params := L2.defArgs (top 24), body := PySem.FuncBody.stmts (L2.defBody (top 24)), scope := L2.defScope (top 24), globals := 3, closure := [], defaults := Value.none, kwdefaults := Value.none, pyModule := Value.str (Str.ofString "law_framerooms_k07_frames_refused") 485, code := Value.ref 316 } }) ::
    (nat_lit 318, { cls := Value.type "tuple", data := Data.seq #[] }) ::
    (nat_lit 320, { cls := Value.type "tuple", data := Data.seq #[Value.str (Str.ofString "_law_e") 582] }) ::
    (nat_lit 321, { cls := Value.type "tuple", data := Data.seq #[] }) ::
    (nat_lit 323, { cls := Value.type "code", data := Data.fields #[Value.str (Str.ofString "_law_kinds") 579, Value.str (Str.ofString "_law_kinds") 580, Value.str (Str.ofString "/claim/cut.py") 581, Value.int 159 0, Value.int 1 0, Value.int 0 0, Value.int 0 0, Value.int 3 0, Value.ref 318, Value.bool true, Value.int 181 0, Value.ref 319, Value.none, Value.ref 320, Value.ref 321, Value.ref 322, Value.int 583 0, Value.int 159 0, Value.str (Str.ofString "/claim/cut.py") 584] }) ::
    (nat_lit 324, { cls := Value.type "function", data := Data.func { name := Str.ofString "_law_kinds", qualname := Str.ofString "_law_kinds", params := L2.defArgs (top 25), body := PySem.FuncBody.stmts (L2.defBody (top 25)), scope := L2.defScope (top 25), globals := 3, closure := [], defaults := Value.none, kwdefaults := Value.none, pyModule := Value.str (Str.ofString "law_framerooms_k07_frames_refused") 485, code := Value.ref 323 } }) ::
    (nat_lit 325, { cls := Value.type "tuple", data := Data.seq #[] }) ::
    (nat_lit 327, { cls := Value.type "tuple", data := Data.seq #[Value.str (Str.ofString "_law_way") 589, Value.str (Str.ofString "_law_frames") 590, Value.str (Str.ofString "_law_thing") 591, Value.str (Str.ofString "_law_told") 592, Value.str (Str.ofString "_law_e") 593] }) ::
    (nat_lit 328, { cls := Value.type "tuple", data := Data.seq #[] }) ::
    (nat_lit 330, { cls := Value.type "code", data := Data.fields #[Value.str (Str.ofString "_law_caught") 586, Value.str (Str.ofString "_law_caught") 587, Value.str (Str.ofString "/claim/cut.py") 588, Value.int 161 0, Value.int 3 0, Value.int 0 0, Value.int 0 0, Value.int 3 0, Value.ref 325, Value.bool true, Value.int 181 0, Value.ref 326, Value.none, Value.ref 327, Value.ref 328, Value.ref 329, Value.int 594 0, Value.int 161 0, Value.str (Str.ofString "/claim/cut.py") 595] }) ::
    (nat_lit 331, { cls := Value.type "function", data := Data.func { name := Str.ofString "_law_caught", qualname := Str.ofString "_law_caught", params := L2.defArgs (top 26), body := PySem.FuncBody.stmts (L2.defBody (top 26)), scope := L2.defScope (top 26), globals := 3, closure := [], defaults := Value.none, kwdefaults := Value.none, pyModule := Value.str (Str.ofString "law_framerooms_k07_frames_refused") 485, code := Value.ref 330 } }) ::
    (nat_lit 332, { cls := Value.type "tuple", data := Data.seq #[] }) ::
    (nat_lit 334, { cls := Value.type "tuple", data := Data.seq #[Value.str (Str.ofString "_law_way") 600, Value.str (Str.ofString "_law_model_here") 601, Value.str (Str.ofString "_law_thing") 602, Value.str (Str.ofString "_law_number") 603] }) ::
    (nat_lit 335, { cls := Value.type "tuple", data := Data.seq #[] }) ::
    (nat_lit 337, { cls := Value.type "code", data := Data.fields #[Value.str (Str.ofString "_law_due") 597, Value.str (Str.ofString "_law_due") 598, Value.str (Str.ofString "/claim/cut.py") 599, Value.int 187 0, Value.int 3 0, Value.int 0 0, Value.int 0 0, Value.int 3 0, Value.ref 332, Value.bool true, Value.int 181 0, Value.ref 333, Value.none, Value.ref 334, Value.ref 335, Value.ref 336, Value.int 604 0, Value.int 187 0, Value.str (Str.ofString "/claim/cut.py") 605] }) ::
    (nat_lit 338, { cls := Value.type "function", data := Data.func { name := Str.ofString "_law_due", qualname := Str.ofString "_law_due", params := L2.defArgs (top 27), body := PySem.FuncBody.stmts (L2.defBody (top 27)), scope := L2.defScope (top 27), globals := 3, closure := [], defaults := Value.none, kwdefaults := Value.none, pyModule := Value.str (Str.ofString "law_framerooms_k07_frames_refused") 485, code := Value.ref 337 } }) ::
    (nat_lit 339, { cls := Value.type "tuple", data := Data.seq #[] }) ::
    (nat_lit 342, { cls := Value.type "code", data := Data.fields #[Value.str (Str.ofString "_law_state") 607, Value.str (Str.ofString "_law_state") 608, Value.str (Str.ofString "/claim/cut.py") 609, Value.int 200 0, Value.int 1 0, Value.int 0 0, Value.int 0 0, Value.int 3 0, Value.ref 339, Value.bool true, Value.int 181 0, Value.ref 340, Value.none, Value.none, Value.none, Value.ref 341, Value.int 610 0, Value.int 200 0, Value.str (Str.ofString "/claim/cut.py") 611] }) ::
    (nat_lit 343, { cls := Value.type "function", data := Data.func { name := Str.ofString "_law_state", qualname := Str.ofString "_law_state", params := L2.defArgs (top 28), body := PySem.FuncBody.stmts (L2.defBody (top 28)), scope := L2.defScope (top 28), globals := 3, closure := [], defaults := Value.none, kwdefaults := Value.none, pyModule := Value.str (Str.ofString "law_framerooms_k07_frames_refused") 485, code := Value.ref 342 } }) ::
    (nat_lit 344, { cls := Value.type "tuple", data := Data.seq #[] }) ::
    (nat_lit 346, { cls := Value.type "tuple", data := Data.seq #[Value.str (Str.ofString "_law_box_here") 616, Value.str (Str.ofString "_law_frames") 617, Value.str (Str.ofString "_law_model_here") 618, Value.str (Str.ofString "_law_turn") 619, Value.str (Str.ofString "_law_frame") 620, Value.str (Str.ofString "_law_k") 621] }) ::
    (nat_lit 347, { cls := Value.type "tuple", data := Data.seq #[] }) ::
    (nat_lit 349, { cls := Value.type "code", data := Data.fields #[Value.str (Str.ofString "_law_goes_on") 613, Value.str (Str.ofString "_law_goes_on") 614, Value.str (Str.ofString "/claim/cut.py") 615, Value.int 204 0, Value.int 3 0, Value.int 0 0, Value.int 0 0, Value.int 3 0, Value.ref 344, Value.bool true, Value.int 181 0, Value.ref 345, Value.none, Value.ref 346, Value.ref 347, Value.ref 348, Value.int 622 0, Value.int 204 0, Value.str (Str.ofString "/claim/cut.py") 623] }) ::
    (nat_lit 350, { cls := Value.type "function", data := Data.func { name := Str.ofString "_law_goes_on", qualname := Str.ofString "_law_goes_on", params := L2.defArgs (top 29), body := PySem.FuncBody.stmts (L2.defBody (top 29)), scope := L2.defScope (top 29), globals := 3, closure := [], defaults := Value.none, kwdefaults := Value.none, pyModule := Value.str (Str.ofString "law_framerooms_k07_frames_refused") 485, code := Value.ref 349 } }) ::
    (nat_lit 351, { cls := Value.type "tuple", data := Data.seq #[] }) ::
    (nat_lit 354, { cls := Value.type "code", data := Data.fields #[Value.str (Str.ofString "_law_things") 625, Value.str (Str.ofString "_law_things") 626, Value.str (Str.ofString "/claim/cut.py") 627, Value.int 216 0, Value.int 2 0, Value.int 0 0, Value.int 0 0, Value.int 3 0, Value.ref 351, Value.bool true, Value.int 181 0, Value.ref 352, Value.none, Value.none, Value.none, Value.ref 353, Value.int 628 0, Value.int 216 0, Value.str (Str.ofString "/claim/cut.py") 629] }) ::
    (nat_lit 355, { cls := Value.type "function", data := Data.func { name := Str.ofString "_law_things", qualname := Str.ofString "_law_things", params := L2.defArgs (top 30), body := PySem.FuncBody.stmts (L2.defBody (top 30)), scope := L2.defScope (top 30), globals := 3, closure := [], defaults := Value.none, kwdefaults := Value.none, pyModule := Value.str (Str.ofString "law_framerooms_k07_frames_refused") 485, code := Value.ref 354 } }) ::
    (nat_lit 356, { cls := Value.type "tuple", data := Data.seq #[] }) ::
    (nat_lit 358, { cls := Value.type "tuple", data := Data.seq #[Value.str (Str.ofString "_law_script") 634, Value.str (Str.ofString "_law_k") 635, Value.str (Str.ofString "_law_box_here") 636, Value.str (Str.ofString "_law_full") 637, Value.str (Str.ofString "_law_frames") 638, Value.str (Str.ofString "_law_model_here") 639, Value.str (Str.ofString "_law_stood") 640, Value.str (Str.ofString "_law_thing") 641, Value.str (Str.ofString "_law_way") 642, Value.str (Str.ofString "_law_due_here") 643, Value.str (Str.ofString "_law_found") 644] }) ::
    (nat_lit 359, { cls := Value.type "tuple", data := Data.seq #[] }) ::
    (nat_lit 361, { cls := Value.type "code", data := Data.fields #[Value.str (Str.ofString "law") 631, Value.str (Str.ofString "law") 632, Value.str (Str.ofString "/claim/cut.py") 633, Value.int 222 0, Value.int 1 0, Value.int 0 0, Value.int 0 0, Value.int 3 0, Value.ref 356, Value.bool true, Value.int 181 0, Value.ref 357, Value.none, Value.ref 358, Value.ref 359, Value.ref 360, Value.int 645 0, Value.int 222 0, Value.str (Str.ofString "/claim/cut.py") 646] }) ::
    (nat_lit 362, { cls := Value.type "function", data := Data.func { name := Str.ofString "law", qualname := Str.ofString "law", params := L2.defArgs (top 31), body := PySem.FuncBody.stmts (L2.defBody (top 31)), scope := L2.defScope (top 31), globals := 3, closure := [], defaults := Value.none, kwdefaults := Value.none, pyModule := Value.str (Str.ofString "law_framerooms_k07_frames_refused") 485, code := Value.ref 361 } }) :: [])
def hdAs : List Addr := [2, 3, 15, 22, 24, 25, 27, 28, 29, 30, 31, 32, 35, 42, 44, 45, 47, 48, 49, 50, 51, 54, 61, 63, 64, 66, 67, 68, 69, 70, 73, 80, 82, 83, 85, 86, 87, 88, 89, 92, 99, 101, 102, 104, 105, 106, 107, 108, 111, 113, 114, 116, 117, 118, 120, 121, 123, 124, 132, 134, 135, 137, 138, 139, 141, 142, 144, 145, 146, 148, 149, 151, 152, 153, 156, 157, 158, 160, 161, 163, 164, 165, 167, 168, 170, 171, 172, 175, 176, 177, 179, 180, 182, 183, 184, 186, 187, 189, 190, 191, 194, 195, 196, 198, 199, 201, 202, 203, 205, 206, 208, 209, 210, 212, 213, 215, 216, 217, 219, 220, 222, 223, 224, 226, 227, 229, 230, 231, 233, 234, 236, 237, 238, 239, 240, 241, 242, 245, 247, 248, 250, 251, 252, 254, 255, 257, 258, 259, 261, 262, 264, 265, 266, 268, 269, 271, 272, 273, 276, 277, 278, 280, 281, 283, 284, 285, 287, 288, 290, 291, 292, 295, 296, 297, 299, 300, 302, 303, 304, 306, 307, 309, 310, 311, 313, 314, 316, 317, 318, 320, 321, 323, 324, 325, 327, 328, 330, 331, 332, 334, 335, 337, 338, 339, 342, 343, 344, 346, 347, 349, 350, 351, 354, 355, 356, 358, 359, 361, 362]
theorem hdAs_ok : ∀ P, hdAs = (hdHeap P).map (·.1) := fun _ => by kernel_rfl
noncomputable def hdView : PySem.Program := { PySem.Challenge.pw_framerooms_k07_frames_refused with main := { PySem.Challenge.pw_framerooms_k07_frames_refused.main with body := [top 1, top 2, top 3, top 4, top 5, top 7, top 8, top 10, top 11, top 12, top 14, top 15, top 16, top 17, top 18, top 19, top 20, top 21, top 22, top 23, top 24, top 25, top 26, top 27, top 28, top 29, top 30, top 31] } }
noncomputable abbrev hdHook : PySem.W.Hook := PySem.W.kHook hdHeap hdAs hdAs_ok
theorem hdLeft : PySem.W.LeftO PySem.Challenge.rw_framerooms_k07_frames_refused.row.prog hdView [] (fun s => PySem.W.xlAt hdView [] s && PySem.W.recOk (PySem.W.RowW.records PySem.Challenge.rw_framerooms_k07_frames_refused.row.toRowW) s) hdHook.obs hdHook.val 5232 := fun w => by kernel_rfl

end My
namespace L2
open PySem PySem.Spec PyProof.Rows

/-- a key: an int or a str -/
abbrev Key := Sum Int Str
def keyIs : Key → Value → Bool
  | .inl k, v => Value.isInt k v
  | .inr x, v => Value.isStrOf x v
def keyH (w : World) : Key → Int
  | .inl k => hashInt k
  | .inr x => hashStr w x
theorem keyIs_shape : ∀ {k : Key} {v : Value}, keyIs k v = true → (∃ i t, k = Sum.inl i ∧ v = Value.int i t) ∨ (∃ x t, k = Sum.inr x ∧ v = Value.str x t)
  | .inl i, v, h => by
    obtain ⟨t, e⟩ := Value.isInt_shape (k := i) (v := v) h
    exact .inl ⟨i, t, rfl, e⟩
  | .inr x, v, h => by
    obtain ⟨t, e⟩ := Value.isStrOf_shape (x := x) (v := v) h
    exact .inr ⟨x, t, rfl, e⟩
theorem keyIs_int (i : Int) (t : Tok) : keyIs (.inl i) (.int i t) = true := by simp [keyIs, Value.isInt]
theorem keyIs_str (x : Str) (t : Tok) : keyIs (.inr x) (.str x t) = true := by simp [keyIs, Value.isStrOf]
theorem key_ll (a b : Int) : decide ((Sum.inl a : Key) = Sum.inl b) = (a == b) := by
  by_cases e : a = b
  · subst e; simp
  · have h : ¬ (Sum.inl a : Key) = Sum.inl b := fun q => e (Sum.inl.inj q)
    rw [decide_eq_false h]
    exact (beq_eq_false_iff_ne.mpr e).symm
theorem key_rr (a b : Str) : decide ((Sum.inr a : Key) = Sum.inr b) = decide (a = b) := by
  by_cases e : a = b
  · subst e; simp
  · have h : ¬ (Sum.inr a : Key) = Sum.inr b := fun q => e (Sum.inr.inj q)
    rw [decide_eq_false h, decide_eq_false e]
theorem key_lr (a : Int) (b : Str) : decide ((Sum.inl a : Key) = Sum.inr b) = false := decide_eq_false (fun q => nomatch q)
theorem key_rl (a : Str) (b : Int) : decide ((Sum.inr a : Key) = Sum.inl b) = false := decide_eq_false (fun q => nomatch q)

def mixKind (prog : Program) (w : World) : PySem.KeyKind prog w Key where
  is := keyIs
  hash := keyH w
  inj := fun v a b ha hb => by
    rcases keyIs_shape ha with ⟨i, t, rfl, rfl⟩ | ⟨x, t, rfl, rfl⟩
    · rcases keyIs_shape hb with ⟨j, u, rfl, e⟩ | ⟨y, u, rfl, e⟩
      · injection e with e1 _; rw [e1]
      · exact nomatch e
    · rcases keyIs_shape hb with ⟨j, u, rfl, e⟩ | ⟨y, u, rfl, e⟩
      · exact nomatch e
      · injection e with e1 _; rw [e1]
  byValue := fun k v h => by
    rcases keyIs_shape h with ⟨i, t, rfl, rfl⟩ | ⟨x, t, rfl, rfl⟩ <;> rfl
  pyHash := fun hv h => by
    rcases keyIs_shape hv with ⟨i, t, rfl, rfl⟩ | ⟨x, t, rfl, rfl⟩
    · exact wpAny_pyHash_int h
    · exact wpAny_pyHash_str h
  eqBool := fun hu hv h => by
    rcases keyIs_shape hu with ⟨i, t, rfl, rfl⟩ | ⟨x, t, rfl, rfl⟩
    · rcases keyIs_shape hv with ⟨j, u, rfl, rfl⟩ | ⟨y, u, rfl, rfl⟩
      · rw [key_ll] at h; exact wpAny_eqBool_int h
      · rw [key_lr] at h; exact SeqAt.EqAt.int_str i t y u _ _ _ _ h
    · rcases keyIs_shape hv with ⟨j, u, rfl, rfl⟩ | ⟨y, u, rfl, rfl⟩
      · rw [key_rl] at h; exact SeqAt.EqAt.str_int x t j u _ _ _ _ h
      · rw [key_rr] at h; exact wpAny_eqBool_str h
  «strs» := fun k x t v h => by
    rcases keyIs_shape h with ⟨i, u, rfl, e⟩ | ⟨y, u, rfl, e⟩
    · exact nomatch e
    · injection e with e1 _
      subst e1
      cases v <;> rfl

theorem mixKind_int (prog : Program) (w : World) (i : Int) (t : Tok) : (mixKind prog w).is (.inl i) (.int i t) = true := keyIs_int i t
theorem mixKind_str (prog : Program) (w : World) (x : Str) (t : Tok) : (mixKind prog w).is (.inr x) (.str x t) = true := keyIs_str x t
end L2

namespace L2
open PySem PySem.Spec PyProof.Rows

/-- a value, without the heap -/
inductive V where
  | non | bl (b : Bool) | int (i : Int) | str (x : Str) | byt (b : Array UInt8) | flt (b : UInt64) | ref (a : Addr) | ty (n : String)
  deriving DecidableEq

def RelV : V → Value → Prop
  | .non, u => u = Value.none
  | .bl b, u => u = Value.bool b
  | .int i, u => ∃ t, u = Value.int i t
  | .str x, u => ∃ t, u = Value.str x t
  | .byt b, u => ∃ t, u = Value.bytes b t
  | .flt b, u => ∃ t, u = Value.float b t
  | .ref a, u => u = Value.ref a
  | .ty n, u => u = Value.type n

abbrev Vals : List V → List Value → Prop := Paired RelV
theorem Vals.length {xs : List V} {us : List Value} (r : Vals xs us) : xs.length = us.length := Paired.length r
theorem Vals.get : ∀ {xs : List V} {us : List Value} {i : Nat} {x : V}, Vals xs us → xs[i]? = some x → ∃ u, us[i]? = some u ∧ RelV x u
  | _, _, _, _, .nil, e => by simp at e
  | _, _, 0, _, .cons r _, e => by simp at e; subst e; exact ⟨_, rfl, r⟩
  | _, _, i + 1, x, .cons _ t, e => by
    obtain ⟨u, h1, h2⟩ := Vals.get (i := i) (x := x) t (by simpa using e)
    exact ⟨u, by simpa using h1, h2⟩
theorem Vals.set {x : V} {u : Value} (r : RelV x u) : ∀ {xs : List V} {us : List Value} (i : Nat), Vals xs us → Vals (xs.set i x) (us.set i u)
  | _, _, _, .nil => .nil
  | _, _, 0, .cons _ t => .cons r t
  | _, _, i + 1, .cons q t => .cons q (Vals.set r i t)
theorem Vals.append : ∀ {xs ys : List V} {us ws : List Value}, Vals xs us → Vals ys ws → Vals (xs ++ ys) (us ++ ws)
  | _, _, _, _, .nil, s => s
  | _, _, _, _, .cons r t, s => .cons r (Vals.append t s)
theorem Vals.take : ∀ {xs : List V} {us : List Value} (n : Nat), Vals xs us → Vals (xs.take n) (us.take n)
  | _, _, 0, _ => .nil
  | _, _, _ + 1, .nil => .nil
  | _, _, n + 1, .cons r t => .cons r (Vals.take n t)
theorem Vals.drop : ∀ {xs : List V} {us : List Value} (n : Nat), Vals xs us → Vals (xs.drop n) (us.drop n)
  | _, _, 0, r => r
  | _, _, _ + 1, .nil => .nil
  | _, _, n + 1, .cons _ t => Vals.drop n t
theorem Vals.none_of : ∀ {xs : List V} {us : List Value} {i : Nat}, Vals xs us → xs[i]? = none → us[i]? = none := fun {xs us i} r e => by
  have h1 := r.length
  have h2 : xs.length ≤ i := List.getElem?_eq_none_iff.mp e
  exact List.getElem?_eq_none_iff.mpr (by omega)

def RelO : Option V → Option Value → Prop
  | some v, some u => RelV v u
  | none, none => True
  | _, _ => False
def KV {κ : Type} : List (κ × V) → List (κ × Value) → Prop := Paired fun (p : κ × V) (q : κ × Value) => p.1 = q.1 ∧ RelV p.2 q.2

/-- a key of a dict (00_mix): an int or a text -/
def kV : Key → V
  | .inl i => .int i
  | .inr x => .str x

/-- what stands at a tracked address -/
inductive HO where
  /-- a list -/
  | lst (xs : List V)
  /-- a tuple (never changes) -/
  | tup (xs : List V)
  /-- a dict whose keys are ints and texts; one whose keys are tuples of ints and texts (the empty one is both) -/
  | dK (kvs : List (Key × V)) | dT (kvs : List (List Key × V))
  /-- a set of ints: its members, its size -/
  | set (S : Int → Bool) (n : Nat)
  /-- an instance of the class at C, its dict at dx, its attributes -/
  | ins (C dx : Addr) (fs : List (Str × V))
  /-- the dict of the instance at x -/
  | own (x : Addr)
  /-- the dict of an exception -/
  | xd (fs : List (Str × V))
  /-- a bound method, f of x -/
  | met (f x : Addr)
  /-- a range object lo, lo + 1, .. below hi -/
  | rng (lo hi : Int)
  /-- a thing that is known to the object (the script; a dict while a loop walks it): read, never written while it is so -/
  | frz (o : Obj) (u : HO)
  /-- a code object's table -/
  | tbl (ps : Array Value)
  /-- any other thing, by what is true of its one object (a def of one's own: SetO a S n := HO.ext fun h => ..) -/
  | ext (φ : Heap → Prop)

abbrev Hp := Addr → Option HO
def upd (H : Hp) (a : Addr) (o : HO) : Hp := fun b => if b = a then some o else H b
theorem upd_same {H : Hp} {a : Addr} {o : HO} : upd H a o a = some o := by unfold upd; rw [if_pos rfl]
theorem upd_ne {H : Hp} {a b : Addr} {o : HO} (h : b ≠ a) : upd H a o b = H b := by unfold upd; rw [if_neg h]
theorem upd_upd {H : Hp} {a : Addr} {o u : HO} : upd (upd H a o) a u = upd H a u := by
  funext b; unfold upd; split <;> rfl
/-- two objects of different content stand apart -/
theorem ne_of {H : Hp} {a b : Addr} {o u : HO} (h : H a = some o) (h' : H b = some u) (d : o ≠ u) : a ≠ b := by
  intro e; subst e; rw [h] at h'; exact d (Option.some.inj h')
theorem ne_of_none {H : Hp} {a b : Addr} {o : HO} (h : H a = some o) (h' : H b = none) : a ≠ b := by
  intro e; subst e; rw [h] at h'; cases h'

section
variable (P : Program) (w : World)
def ObjOk (H : Hp) (h : Heap) (a : Addr) : HO → Prop
  | .lst xs => xs.length ≤ sizeLine ∧ ∃ (its : List Value) (n : Nat), Vals xs its ∧ h.get? a = some { cls := .type "list", data := .seq its.toArray n }
  | .tup xs => xs.length ≤ sizeLine ∧ ∃ its : List Value, Vals xs its ∧ IsTup h a its.toArray
  | .dK kvs => kvs.length ≤ sizeLine ∧ (a == sysModules) = false ∧ ∃ vs, KV kvs vs ∧ h.DictOf (mixKind P w) a vs
  | .dT kvs => kvs.length ≤ sizeLine ∧ (a == sysModules) = false ∧ ∃ xs : List (List Key × Addr × Value),
      Paired (fun (p : List Key × V) (q : List Key × Addr × Value) => p.1 = q.1 ∧ H q.2.1 = some (.tup (p.1.map kV)) ∧ RelV p.2 q.2.2) kvs xs ∧
      ∃ o es ep, h.get? a = some o ∧ o.ExactDict ∧ o.data = .dict es ep ∧ es.toList = xs.map (entryOfKey (tupleKind (mixKind P w))) ∧ (xs.map (·.1)).Nodup
  | .set S n => h.SetOf (intKind P w) a S n
  | .ins C dx fs => H dx = some (.own a) ∧ fs.length ≤ 1000 ∧ dx ≠ a ∧ h.get? a = some (PySem.W.instObj C dx) ∧
      ∃ mA, h.Ns1 dx mA ∧ (∀ f, RelO (fs.lookup f) (mA f)) ∧ PySem.Within mA (fs.map (·.1))
  | .own _ => ∃ o, h.get? a = some o
  | .xd fs => ∃ mA, h.Ns1 a mA ∧ ∀ f, RelO (fs.lookup f) (mA f)
  | .rng lo hi => ∃ t u v, h.get? a = some { cls := .type "range", data := .fields #[.int lo t, .int hi u, .int 1 v] }
  | .frz o u => h.get? a = some o ∧ ObjOk H h a u
  | .tbl ps => h.get? a = some { cls := .none, data := .fields ps }
  | .met f x => h.get? a = some (PySem.W.methodObj (.ref f) (.ref x))
  | .ext φ => φ h ∧ (∃ o, h.get? a = some o) ∧ ∀ h1 h2 : Heap, φ h1 → (∀ o, h1.get? a = some o → h2.get? a = some o) → φ h2
/-- the abstract heap is held -/
def HOk (H : Hp) (h : Heap) : Prop := ∀ a o, H a = some o → ObjOk P w H h a o
end

section
variable {P : Program} {w : World} {H H' : Hp} {h h' : Heap} {a : Addr} {o : HO}
theorem ObjOk.lt (x : ObjOk P w H h a o) : a < h.objs.size := by
  cases o with
  | lst xs => obtain ⟨_, _, _, _, e⟩ := x; exact Heap.lt_size e
  | tup xs => obtain ⟨_, _, _, p⟩ := x; exact p.lt
  | dK kvs => obtain ⟨_, _, _, _, o, _, _, e, _⟩ := x; exact Heap.lt_size e
  | dT kvs => obtain ⟨_, _, _, _, o, _, _, e, _⟩ := x; exact Heap.lt_size e
  | set S n => obtain ⟨o, _, _, _, e, _⟩ := x; exact Heap.lt_size e
  | ins C dx fs => obtain ⟨_, _, _, e, _⟩ := x; exact Heap.lt_size e
  | own y => obtain ⟨_, e⟩ := x; exact Heap.lt_size e
  | xd fs => obtain ⟨_, ⟨_, _, _, e, _⟩, _⟩ := x; exact Heap.lt_size e
  | rng lo hi => obtain ⟨_, _, _, e⟩ := x; exact Heap.lt_size e
  | frz ob u => obtain ⟨e, _⟩ := x; exact Heap.lt_size e
  | tbl ps => exact Heap.lt_size (show h.get? a = some _ from x)
  | met f y => exact Heap.lt_size (show h.get? a = some _ from x)
  | ext φ => obtain ⟨_, ⟨_, e⟩, _⟩ := x; exact Heap.lt_size e
theorem Paired.mapP {α β : Type} {F G : α → β → Prop} : ∀ {l₁ : List α} {l₂ : List β}, Paired F l₁ l₂ → (∀ a b, F a b → G a b) → Paired G l₁ l₂
  | _, _, .nil, _ => .nil
  | _, _, .cons r t, f => .cons (f _ _ r) (Paired.mapP t f)
/-- what an object's description leans on: its own object, its own dict, the tuples -/
theorem ObjOk.stay (x : ObjOk P w H h a o) (k : ∀ b u, (b = a ∨ H b = some (.own a)) → h.get? b = some u → h'.get? b = some u)
    (ho : ∀ b, H b = some (.own a) → H' b = some (.own a)) (ht : ∀ b xs, H b = some (.tup xs) → H' b = some (.tup xs)) : ObjOk P w H' h' a o := by
  induction o with
  | lst xs => obtain ⟨z, its, n, r, e⟩ := x; exact ⟨z, its, n, r, k _ _ (.inl rfl) e⟩
  | tup xs => obtain ⟨z, its, r, ob, e, c⟩ := x; exact ⟨z, its, r, ob, k _ _ (.inl rfl) e, c⟩
  | dK kvs => obtain ⟨z, y, vs, r, ob, es, ep, e, c⟩ := x; exact ⟨z, y, vs, r, ob, es, ep, k _ _ (.inl rfl) e, c⟩
  | dT kvs =>
    obtain ⟨z, y, xs, r, ob, es, ep, e, c⟩ := x
    exact ⟨z, y, xs, Paired.mapP r fun p q z => ⟨z.1, ht _ _ z.2.1, z.2.2⟩, ob, es, ep, k _ _ (.inl rfl) e, c⟩
  | set S n => obtain ⟨ob, es, ep, t, e, c⟩ := x; exact ⟨ob, es, ep, t, k _ _ (.inl rfl) e, c⟩
  | ins C dx fs =>
    obtain ⟨d, z, ne, e, mA, ⟨od, es, ep, e2, c⟩, r⟩ := x
    exact ⟨ho _ d, z, ne, k _ _ (.inl rfl) e, mA, ⟨od, es, ep, k _ _ (.inr d) e2, c⟩, r⟩
  | own y => obtain ⟨ob, e⟩ := x; exact ⟨ob, k _ _ (.inl rfl) e⟩
  | xd fs => obtain ⟨mA, ⟨od, es, ep, e, c⟩, r⟩ := x; exact ⟨mA, ⟨od, es, ep, k _ _ (.inl rfl) e, c⟩, r⟩
  | rng lo hi => obtain ⟨t, u, v, e⟩ := x; exact ⟨t, u, v, k _ _ (.inl rfl) e⟩
  | frz ob u ih => obtain ⟨e, q⟩ := x; exact ⟨k _ _ (.inl rfl) e, ih q⟩
  | tbl ps =>
    have e : h.get? a = some { cls := .none, data := .fields ps } := x
    show h'.get? a = some { cls := .none, data := .fields ps }
    exact k a _ (.inl rfl) e
  | met f y =>
    have e : h.get? a = some (PySem.W.methodObj (.ref f) (.ref y)) := x
    show h'.get? a = some (PySem.W.methodObj (.ref f) (.ref y))
    exact k a _ (.inl rfl) e
  | ext φ => obtain ⟨p, ⟨o, e⟩, st⟩ := x; exact ⟨st _ _ p fun o q => k _ _ (.inl rfl) q, ⟨o, k _ _ (.inl rfl) e⟩, st⟩
theorem HOk.lt (x : HOk P w H h) (e : H a = some o) : a < h.objs.size := (x a o e).lt
theorem HOk.fresh (x : HOk P w H h) (e : h.objs.size ≤ a) : H a = none := by
  cases q : H a with
  | none => rfl
  | some u => exact absurd (Nat.lt_of_lt_of_le (x.lt q) e) (Nat.lt_irrefl _)
/-- every object of the heap is kept -/
theorem HOk.kept (x : HOk P w H h) (k : ∀ b u, h.get? b = some u → h'.get? b = some u) : HOk P w H h' := fun a o e =>
  (x a o e).stay (fun b u _ q => k b u q) (fun _ q => q) fun _ _ q => q
/-- a new object is laid and tracked -/
theorem HOk.laid (x : HOk P w H h) (k : ∀ b u, h.get? b = some u → h'.get? b = some u) (hp : h.objs.size ≤ a) (new : ObjOk P w (upd H a o) h' a o) : HOk P w (upd H a o) h' := fun b u e => by
  have hn := x.fresh hp
  by_cases hb : b = a
  · subst hb; rw [upd_same] at e; cases e; exact new
  · rw [upd_ne hb] at e
    exact (x b u e).stay (fun c v _ q => k c v q) (fun c q => by rw [upd_ne (ne_of_none q hn)]; exact q) fun c xs q => by rw [upd_ne (ne_of_none q hn)]; exact q
end

/-- what may be read as u: it is u, or a known u -/
def Rd (H : Hp) (a : Addr) (u : HO) : Prop := H a = some u ∨ ∃ o, H a = some (.frz o u)
theorem Rd.of {H : Hp} {a : Addr} {u : HO} (h : H a = some u) : Rd H a u := .inl h
theorem Rd.ok {P : Program} {w : World} {H : Hp} {h : Heap} {a : Addr} {u : HO} (r : Rd H a u) (x : HOk P w H h) : ObjOk P w H h a u := by
  rcases r with r | ⟨o, r⟩
  · exact x a u r
  · obtain ⟨_, q⟩ := x a _ r
    exact q
/-- what may be written -/
def Mut : Option HO → Prop
  | some (.lst _) => True
  | some (.dK _) => True
  | some (.dT _) => True
  | some (.set _ _) => True
  | some (.ins _ _ _) => True
  | some (.ext _) => True
  | _ => False
section
variable {P : Program} {w : World} {H : Hp} {h h' : Heap} {x e : Addr} {o' : HO}
/-- the object at e is changed: x itself, or the dict of the instance x -/
theorem HOk.write (ok : HOk P w H h) (mu : Mut (H x)) (he : e = x ∨ H e = some (.own x)) (k : ∀ b u, b ≠ e → h.get? b = some u → h'.get? b = some u) (heo : ∃ u, h'.get? e = some u)
    (new : ObjOk P w (upd H x o') h' x o') : HOk P w (upd H x o') h' := fun b u q => by
  have nown : ∀ c y, H c = some (.own y) → c ≠ x := fun c y r z => by subst z; rw [r] at mu; exact mu
  have ntup : ∀ c xs, H c = some (.tup xs) → c ≠ x := fun c xs r z => by subst z; rw [r] at mu; exact mu
  by_cases hb : b = x
  · subst hb; rw [upd_same] at q; cases q; exact new
  · rw [upd_ne hb] at q
    by_cases hbe : b = e
    · have q' : H b = some (.own x) := by
        rcases he with z | z
        · exact absurd (hbe.trans z) hb
        · rw [hbe]; exact z
      rw [q] at q'; cases q'
      obtain ⟨v, hv⟩ := heo
      exact ⟨v, by rw [hbe]; exact hv⟩
    · refine (ok b u q).stay (fun c v hc r => k c v ?_ r) (fun c r => by rw [upd_ne (nown c b r)]; exact r) fun c xs r => by rw [upd_ne (ntup c xs r)]; exact r
      rcases hc with rfl | hc
      · exact hbe
      · rintro rfl
        rcases he with z | z
        · exact nown c b hc z
        · rw [hc] at z; cases z; exact hb rfl
end

/-! ### kept unless tracked; of the frames at fs (the callers') the slots may change (an exception that passes writes there); of the records at ex (iterators) nothing is said -/
structure Un (fs ex : List Addr) (H H' : Hp) (h h' : Heap) : Prop where
  keep : ∀ b o, h.get? b = some o → H b = none → b ∉ fs → b ∉ ex → h'.get? b = some o
  slot : ∀ b o, h.get? b = some o → H b = none → b ∈ fs → b ∉ ex → ∃ sl, h'.get? b = some { o with slots := sl }
  free : ∀ b o, h.get? b = some o → H b = none → b ∉ ex → H' b = none
  there : ∀ b o, h.get? b = some o → b ∉ ex → ∃ o', h'.get? b = some o'
  tups : ∀ b xs, H b = some (.tup xs) → H' b = some (.tup xs)
  frzs : ∀ b o u, H b = some (.frz o u) → H' b = some (.frz o u)
  tbls : ∀ b ps, H b = some (.tbl ps) → ∃ more, H' b = some (.tbl (ps ++ more))
section
variable {fs fs' ex ex' : List Addr} {H H1 H2 : Hp} {h h1 h2 h' : Heap} {a x e : Addr} {o : HO}
theorem Un.any (u : Un fs ex H H1 h h1) {b : Addr} {ob : Obj} (q : h.get? b = some ob) (n : H b = none) (hx : b ∉ ex) : ∃ sl, h1.get? b = some { ob with slots := sl } := by
  by_cases hb : b ∈ fs
  · exact u.slot b ob q n hb hx
  · exact ⟨ob.slots, u.keep b ob q n hb hx⟩
theorem Un.trans (a : Un fs ex H H1 h h1) (b : Un fs ex H1 H2 h1 h2) : Un fs ex H H2 h h2 where
  keep := fun c ob q n hc hx => b.keep c ob (a.keep c ob q n hc hx) (a.free c ob q n hx) hc hx
  slot := fun c ob q n hc hx => by
    obtain ⟨sl, e1⟩ := a.slot c ob q n hc hx
    obtain ⟨sl', e2⟩ := b.slot c _ e1 (a.free c ob q n hx) hc hx
    exact ⟨sl', e2⟩
  free := fun c ob q n hx => by
    obtain ⟨o', e1⟩ := a.there c ob q hx
    exact b.free c o' e1 (a.free c ob q n hx) hx
  there := fun c ob q hx => by
    obtain ⟨o', e1⟩ := a.there c ob q hx
    exact b.there c o' e1 hx
  tups := fun c xs q => b.tups c xs (a.tups c xs q)
  frzs := fun c ob xs q => b.frzs c ob xs (a.frzs c ob xs q)
  tbls := fun c ps q => by
    obtain ⟨m1, e1⟩ := a.tbls c ps q
    obtain ⟨m2, e2⟩ := b.tbls c _ e1
    exact ⟨m1 ++ m2, by rw [e2, Array.append_assoc]⟩
theorem Un.kept (k : ∀ b u, h.get? b = some u → h'.get? b = some u) : Un fs ex H H h h' :=
  ⟨fun b ob q _ _ _ => k b ob q, fun b ob q _ _ _ => ⟨ob.slots, k b ob q⟩, fun _ _ _ n _ => n, fun b ob q _ => ⟨ob, k b ob q⟩, fun _ _ q => q, fun _ _ _ q => q, fun _ ps q => ⟨#[], by rw [q]; simp⟩⟩
theorem Un.refl : Un fs ex H H h h := Un.kept fun _ _ q => q
theorem Un.laid (k : ∀ b u, h.get? b = some u → h'.get? b = some u) (hp : h.objs.size ≤ a) (hn : H a = none) : Un fs ex H (upd H a o) h h' where
  keep := fun b u q _ _ _ => k b u q
  slot := fun b u q _ _ _ => ⟨u.slots, k b u q⟩
  free := fun b u q n _ => by rw [upd_ne (Nat.ne_of_lt (Nat.lt_of_lt_of_le (Heap.lt_size q) hp))]; exact n
  there := fun b u q _ => ⟨u, k b u q⟩
  tups := fun b xs q => by rw [upd_ne (ne_of_none q hn)]; exact q
  frzs := fun b u xs q => by rw [upd_ne (ne_of_none q hn)]; exact q
  tbls := fun b ps q => ⟨#[], by rw [upd_ne (ne_of_none q hn), q]; simp⟩
theorem Un.write (mu : Mut (H x)) (he : e = x ∨ H e = some (.own x)) (k : ∀ b u, b ≠ e → h.get? b = some u → h'.get? b = some u) (heo : ∃ u, h'.get? e = some u) : Un fs ex H (upd H x o) h h' := by
  have hx : ∀ b, H b = none → b ≠ x := fun b n z => by subst z; rw [n] at mu; exact mu
  have hb : ∀ b, H b = none → b ≠ e := fun b n z => by
    subst z
    rcases he with r | r
    · exact hx b n r
    · rw [n] at r; cases r
  have hm : ∀ b u, H b = some u → ¬ Mut (some u) → b ≠ x := fun b u q nm z => by subst z; rw [q] at mu; exact nm mu
  refine ⟨fun b u q n _ _ => k b u (hb b n) q, fun b u q n _ _ => ⟨u.slots, k b u (hb b n) q⟩, fun b u q n _ => by rw [upd_ne (hx b n)]; exact n, fun b u q _ => ?_,
    fun b xs q => by rw [upd_ne (hm b _ q fun z => z)]; exact q, fun b u xs q => by rw [upd_ne (hm b _ q fun z => z)]; exact q, fun b ps q => ⟨#[], by rw [upd_ne (hm b _ q fun z => z), q]; simp⟩⟩
  by_cases hbe : b = e
  · subst hbe; exact heo
  · exact ⟨u, k b u hbe q⟩
theorem Un.mono (u : Un fs ex H H1 h h1) (hs : ∀ b ∈ fs, b ∈ fs') (hx : ∀ b ∈ ex, b ∈ ex') : Un fs' ex' H H1 h h1 :=
  ⟨fun b ob q n hb he => u.keep b ob q n (fun z => hb (hs b z)) fun z => he (hx b z), fun _ _ q n _ he => u.any q n fun z => he (hx _ z), fun b ob q n he => u.free b ob q n fun z => he (hx b z), fun b ob q he => u.there b ob q fun z => he (hx b z), u.tups, u.frzs, u.tbls⟩
end

/-! ### the heap without what is tracked -/
def trk (h : Heap) (H : Hp) : List Addr := (List.range h.objs.size).filter fun a => (H a).isSome
def hidT (h : Heap) (H : Hp) : Heap := PySem.W.hideAll h (trk h H)
theorem hidT_size (h : Heap) (H : Hp) : (hidT h H).objs.size = h.objs.size := PySem.W.hideAll_size _ _
theorem hidT_get {h : Heap} {H : Hp} {b : Addr} {o : Obj} (e : h.get? b = some o) (n : H b = none) : (hidT h H).get? b = some o :=
  PySem.W.hideAll_get _ e fun hm => by
    have q : (H b).isSome = true := (List.mem_filter.mp hm).2
    rw [n] at q; simp at q
theorem of_hidT {h : Heap} {H : Hp} {b : Addr} {o : Obj} (e : (hidT h H).get? b = some o) : h.get? b = some o ∧ H b = none := by
  have e' : h.get? b = some o := PySem.W.of_hideAll (trk h H) e
  refine ⟨e', ?_⟩
  cases q : H b with
  | none => rfl
  | some x =>
    have hm : b ∈ trk h H := List.mem_filter.mpr ⟨List.mem_range.mpr (Heap.lt_size e'), by simp [q]⟩
    have z : (hidT h H).get? b = none := PySem.W.hideAll_none (trk h H) hm
    rw [z] at e; cases e

/-! ### OpenK's ledger, filled with every new object but one -/
def allNews (g h : Heap) (L : Addr) : List (Addr × Obj) := (List.range h.objs.size).filterMap fun a => if a = L ∨ (g.get? a).isSome = true then none else (h.get? a).map fun o => (a, o)
def rest (g h : Heap) (L d : Addr) : List (Addr × Obj) := (allNews g h L).filter fun p => decide (p.1 ≠ d)
end L2

namespace L2
open PySem PySem.Spec PyProof.Rows

/-- the module's facts, over the base: the heap at the law's entry without what is tracked there -/
structure Mod (K : PySem.W.Frag) (mg : Str → Option Value) (base : Heap) : Prop where
  kin : K.In base
  glob : base.Ns mainGlobals mg
  blt : ∃ mb, base.Ns builtinsNs mb ∧ ∀ x : Str, x ≠ "__name__" → mb x = bootBuiltins x
  nolimit : base.NoLimit

/-- the context: a def's body (or a comprehension's block) running. base: fixed through the whole law; s₀, H₀: the entry; outer: the frames whose slots others may change (a def's callers); stack: all frames that run;
   ex: iterators that were made ahead of the entry and are walked here (a comprehension's); fn: the names whose cells were made at the entry (a def: all; a comprehension's block: its own); calm: not within an except suite; pn: pins that every state bears; xe: what is wanted of an exception that leaves the code -/
structure Cx where
  prog : Program
  w : World
  K : PySem.W.Frag
  mg : Str → Option Value
  base : Heap
  A : Around
  N : List Str
  s₀ : Shared
  H₀ : Hp
  env : Env
  outer : List Env
  stack : List Env
  ex : List Addr
  fn : Str → Bool
  calm : Bool
  pn : List (Addr × Obj)
  xe : Value → Shared → Prop
/-- the callers' frames -/
def frs (l : List Env) : List Addr := l.filterMap (·.frame)
abbrev Cx.fs (X : Cx) : List Addr := frs X.outer

def Vis (sc : Scope) (x : Str) : Prop := sc.names.lookup x = some .local ∨ sc.names.lookup x = some .cell ∨ sc.names.lookup x = some .free
def Loc (sc : Scope) (x : Str) : Prop := sc.names.lookup x = some .local ∨ sc.names.lookup x = some .cell
def Look (env : Env) (h : Heap) (m : Str → Option Value) (x : Str) (u : Value) : Prop :=
  (env.kindOf x = some .local ∧ m x = some u) ∨ ((env.kindOf x = some .cell ∨ env.kindOf x = some .free) ∧ ∃ c, env.cells.lookup x = some c ∧ h.IsCell c (some u))

structure Cx.Ok (X : Cx) : Prop where
  mod : Mod X.K X.mg X.base
  kind : X.env.scope.kind = .function
  glob : X.env.globals = mainGlobals
  blt : X.env.builtins = builtinsNs
  above : X.s₀.heap.objs.size ≤ X.env.locals
  inj : ∀ x y c, X.env.cells.lookup x = some c → X.env.cells.lookup y = some c → x = y
  has : ∀ x, (X.env.kindOf x = some .cell ∨ X.env.kindOf x = some .free) → ∃ c, X.env.cells.lookup x = some c
  cab : ∀ x c, X.fn x = true → X.env.cells.lookup x = some c → X.s₀.heap.objs.size ≤ c
  hd : X.calm = true → X.A.handled = none
  frames : X.A.frames = some X.stack
  stk : X.stack = X.outer ∨ (X.stack = X.env :: X.outer ∧ X.env.frame = some X.env.locals)
  exf : ∀ b ∈ X.ex, b ≠ X.env.locals ∧ ∀ x c, X.env.cells.lookup x = some c → c ≠ b
  bs : ∀ b o, X.base.get? b = some o → X.s₀.heap.get? b = some o ∧ X.H₀ b = none
  bsz : X.base.objs.size ≤ X.s₀.heap.objs.size
  noex : ∀ b o, X.base.get? b = some o → b ∉ X.ex
  exfs : ∀ b ∈ X.ex, b ∉ X.fs
  funs : X.s₀.heap.FunFrames X.base X.outer
  frf : ∀ b ∈ X.fs, X.H₀ b = none

structure Inv (X : Cx) (pins : List (Addr × Obj)) (σ : List (Option V)) (H : Hp) (s : Shared) : Prop where
  ok : X.Ok
  os : s.os = X.s₀.os
  bare : AllBare s.gens
  base : Un X.fs X.ex X.H₀ H X.s₀.heap s.heap
  loc : ∃ m, s.heap.Ns X.env.locals m ∧ ∀ (i : Nat) (x : Str) (v : V), X.N[i]? = some x → σ[i]? = some (some v) → Vis X.env.scope x → ∃ u, RelV v u ∧ Look X.env s.heap m x u
  cell : ∀ x c, X.env.cells.lookup x = some c → ∃ v, s.heap.IsCell c v
  free : H X.env.locals = none
  freeC : ∀ x c, X.env.cells.lookup x = some c → H c = none
  pin : ∀ p ∈ X.pn ++ pins, s.heap.get? p.1 = some p.2 ∧ H p.1 = none ∧ p.1 ≠ X.env.locals ∧ p.1 ∉ X.fs ∧ ∀ v, p.2.data ≠ .cell v
  hok : HOk X.prog X.w H s.heap
  len : σ.length = X.N.length

section
variable {X : Cx} {pins : List (Addr × Obj)} {σ : List (Option V)} {H H' : Hp} {s : Shared} {h' : Heap}

theorem Cx.Ok.nofr (ok : X.Ok) {b : Addr} {o : Obj} (e : X.base.get? b = some o) : b ∉ X.fs := fun hb => by
  have := (ok.funs.mem hb).1
  rw [e] at this; cases this
theorem Inv.bs (I : Inv X pins σ H s) : ∀ b o, X.base.get? b = some o → s.heap.get? b = some o ∧ H b = none := fun b o e =>
  ⟨I.base.keep b o (I.ok.bs b o e).1 (I.ok.bs b o e).2 (I.ok.nofr e) (I.ok.noex b o e), I.base.free b o (I.ok.bs b o e).1 (I.ok.bs b o e).2 (I.ok.noex b o e)⟩
theorem Inv.bk (I : Inv X pins σ H s) : ∀ b o, X.base.get? b = some o → s.heap.get? b = some o := fun b o e => (I.bs b o e).1
theorem Inv.mod (I : Inv X pins σ H s) : Mod X.K X.mg X.base := I.ok.mod
theorem Inv.kIn (I : Inv X pins σ H s) : X.K.In s.heap := I.ok.mod.kin.keeps I.bk
theorem Inv.nolimit (I : Inv X pins σ H s) : s.heap.NoLimit := I.ok.mod.nolimit.keeps I.bk
/-- the frame over the base: for OpenK's rules (K.In X.base is I.mod.kin) -/
theorem Inv.fr (I : Inv X pins σ H s) : ∃ m, Fr X.base X.env.locals s.heap m :=
  let ⟨m, hn, _⟩ := I.loc
  ⟨m, hn, I.bk, Nat.le_trans I.ok.bsz I.ok.above⟩
theorem Inv.lt (I : Inv X pins σ H s) : X.env.locals < s.heap.objs.size := let ⟨_, hn, _⟩ := I.loc; hn.lt
theorem Inv.sz (I : Inv X pins σ H s) : X.s₀.heap.objs.size ≤ s.heap.objs.size := Nat.le_trans I.ok.above (Nat.le_of_lt I.lt)
theorem Inv.nofs (I : Inv X pins σ H s) {a : Addr} (h : s.heap.objs.size ≤ a) : a ∉ X.fs := fun hb => by
  obtain ⟨_, o, ho, _⟩ := I.ok.funs.mem hb
  exact absurd (Nat.lt_of_lt_of_le (Heap.lt_size ho) (Nat.le_trans I.sz h)) (Nat.lt_irrefl _)
theorem Inv.cne (I : Inv X pins σ H s) : ∀ x c, X.env.cells.lookup x = some c → c ≠ X.env.locals := fun x c e z => by
  obtain ⟨v, o, ho, hd⟩ := I.cell x c e
  obtain ⟨m, ⟨o', es, ep, ho', hd', _⟩, _⟩ := I.loc
  rw [z, ho'] at ho; cases ho; rw [hd'] at hd; cases hd
theorem Inv.funs (I : Inv X pins σ H s) : s.heap.FunFrames X.base X.outer := by
  have all : ∀ (l : List Env), (∀ b ∈ frs l, b ∈ X.fs) → X.s₀.heap.FunFrames X.base l → s.heap.FunFrames X.base l := by
    intro l
    induction l with
    | nil => intro _ _; trivial
    | cons env r ih =>
      intro hs hl
      obtain ⟨hk, ⟨L, o, hf, hn, ho, hd⟩, hr⟩ := hl
      have hL : L ∈ X.fs := hs L (by unfold frs; rw [List.filterMap_cons, hf]; exact List.mem_cons_self)
      obtain ⟨sl, e⟩ := I.base.slot L o ho (I.ok.frf L hL) hL fun z => I.ok.exfs L z hL
      exact ⟨hk, ⟨L, _, hf, hn, e, hd⟩, ih (fun b hb => hs b (by unfold frs; rw [List.filterMap_cons, hf]; exact List.mem_cons_of_mem _ hb)) hr⟩
  exact all X.outer (fun _ hb => hb) I.ok.funs

/-- the frames that run, for a call -/
theorem Inv.stack (I : Inv X pins σ H s) : s.heap.FunFrames X.base X.stack := by
  rcases I.ok.stk with e | ⟨e, hf⟩
  · rw [e]; exact I.funs
  · rw [e]
    obtain ⟨m, hn, _⟩ := I.loc
    refine .cons (by rw [I.ok.kind]; decide) hf hn ?_ I.funs
    exact Heap.get?_none_of_le (Nat.le_trans I.ok.bsz I.ok.above)
theorem Inv.stkSub (I : Inv X pins σ H s) : ∀ b ∈ frs X.stack, b ∈ X.env.locals :: X.fs := fun b hb => by
  rcases I.ok.stk with e | ⟨e, hf⟩
  · rw [e] at hb; exact List.mem_cons_of_mem _ hb
  · rw [e] at hb
    unfold frs at hb
    rw [List.filterMap_cons, hf] at hb
    exact hb
theorem Inv.stkFree (I : Inv X pins σ H s) : ∀ b ∈ frs X.stack, H b = none := fun b hb => by
  rcases List.mem_cons.mp (I.stkSub b hb) with e | hb
  · rw [e]; exact I.free
  · obtain ⟨_, o, ho, _⟩ := I.ok.funs.mem hb
    exact I.base.free b o ho (I.ok.frf b hb) fun z => I.ok.exfs b z hb

/-- THE STEP: the untracked objects but the frame and the records at ch are kept (the callers' frames up to slots), the frame's map is kept, the new abstract heap is held -/
theorem Inv.step {g' : Array GenState} {t' : Nat} {d' : Drawn} {ch : List Addr} (I : Inv X pins σ H s)
    (hch : ∀ b ∈ ch, (b ∈ X.ex ∨ X.s₀.heap.objs.size ≤ b) ∧ b ≠ X.env.locals ∧ (∀ x c, X.env.cells.lookup x = some c → c ≠ b) ∧ ∀ p ∈ X.pn ++ pins, p.1 ≠ b)
    (keep : ∀ b o, b ≠ X.env.locals → b ∉ X.fs → b ∉ ch → s.heap.get? b = some o → H b = none → h'.get? b = some o)
    (slot : ∀ b o, b ≠ X.env.locals → b ∈ X.fs → b ∉ ch → s.heap.get? b = some o → H b = none → ∃ sl, h'.get? b = some { o with slots := sl }) (free : ∀ b o, b ∉ ch → s.heap.get? b = some o → H b = none → H' b = none)
    (there : ∀ b o, b ∉ ch → s.heap.get? b = some o → ∃ o', h'.get? b = some o')
    (tups : ∀ b xs, H b = some (.tup xs) → H' b = some (.tup xs)) (frzs : ∀ b o u, H b = some (.frz o u) → H' b = some (.frz o u)) (tbls : ∀ b ps, H b = some (.tbl ps) → ∃ more, H' b = some (.tbl (ps ++ more)))
    (ns : ∀ m, s.heap.Ns X.env.locals m → h'.Ns X.env.locals m) (hok : HOk X.prog X.w H' h') (hg : AllBare g') :
    Inv X pins σ H' { s with heap := h', gens := g', drawn := d', toks := t' } := by
  have neL : ∀ b o, X.s₀.heap.get? b = some o → b ≠ X.env.locals := fun b o e => Nat.ne_of_lt (Nat.lt_of_lt_of_le (Heap.lt_size e) I.ok.above)
  have neC : ∀ b o, X.s₀.heap.get? b = some o → b ∉ X.ex → b ∉ ch := fun b o e hx hb => by
    rcases (hch b hb).1 with z | z
    · exact hx z
    · exact absurd (Nat.lt_of_lt_of_le (Heap.lt_size e) z) (Nat.lt_irrefl _)
  have cellK : ∀ x c, X.env.cells.lookup x = some c → ∀ v, s.heap.IsCell c v → h'.IsCell c v := fun x c e v ⟨o, ho, hd⟩ => by
    have nch : c ∉ ch := fun z => (hch c z).2.2.1 x c e rfl
    by_cases hc : c ∈ X.fs
    · obtain ⟨sl, q⟩ := slot c o (I.cne x c e) hc nch ho (I.freeC x c e)
      exact ⟨_, q, hd⟩
    · exact ⟨o, keep c o (I.cne x c e) hc nch ho (I.freeC x c e), hd⟩
  refine ⟨I.ok, I.os, hg, ⟨fun b o e n hb hx => ?_, fun b o e n hb hx => ?_, fun b o e n hx => ?_, fun b o e hx => ?_, fun b xs e => tups b xs (I.base.tups b xs e), fun b o xs e => frzs b o xs (I.base.frzs b o xs e), fun b ps e => ?_⟩, ?_, fun x c e => ?_, ?_, fun x c e => ?_, fun p hp => ?_, hok, I.len⟩
  · exact keep b o (neL b o e) hb (neC b o e hx) (I.base.keep b o e n hb hx) (I.base.free b o e n hx)
  · obtain ⟨sl, e1⟩ := I.base.slot b o e n hb hx
    obtain ⟨sl', e2⟩ := slot b _ (neL b o e) hb (neC b o e hx) e1 (I.base.free b o e n hx)
    exact ⟨sl', e2⟩
  · obtain ⟨o', e1⟩ := I.base.there b o e hx
    exact free b o' (neC b o e hx) e1 (I.base.free b o e n hx)
  · obtain ⟨o', e1⟩ := I.base.there b o e hx
    exact there b o' (neC b o e hx) e1
  · obtain ⟨m1, e1⟩ := I.base.tbls b ps e
    obtain ⟨m2, e2⟩ := tbls b _ e1
    exact ⟨m1 ++ m2, by rw [e2, Array.append_assoc]⟩
  · obtain ⟨m, hn, hl⟩ := I.loc
    refine ⟨m, ns m hn, fun i x v e1 e2 e3 => ?_⟩
    obtain ⟨u, r, l⟩ := hl i x v e1 e2 e3
    refine ⟨u, r, ?_⟩
    rcases l with l | ⟨k, c, e, z⟩
    · exact .inl l
    · exact .inr ⟨k, c, e, cellK x c e _ z⟩
  · obtain ⟨v, z⟩ := I.cell x c e
    exact ⟨v, cellK x c e v z⟩
  · obtain ⟨m, ⟨o, _, _, ho, _⟩, _⟩ := I.loc
    exact free _ o (fun z => (hch _ z).2.1 rfl) ho I.free
  · obtain ⟨v, o, ho, hd⟩ := I.cell x c e
    exact free c o (fun z => (hch c z).2.2.1 x c e rfl) ho (I.freeC x c e)
  · obtain ⟨e, n, ne, nf, d⟩ := I.pin p hp
    have nch : p.1 ∉ ch := fun z => (hch p.1 z).2.2.2 p hp rfl
    exact ⟨keep p.1 p.2 ne nf nch e n, free p.1 p.2 nch e n, ne, nf, d⟩
/-- .. where the frame's own object is kept too -/
theorem Inv.un {t' : Nat} (I : Inv X pins σ H s) (u : Un X.fs [] H H' s.heap h') (hok : HOk X.prog X.w H' h') : Inv X pins σ H' { s with heap := h', toks := t' } := by
  obtain ⟨m, ⟨o, es, ep, ho, r⟩, _⟩ := id I.loc
  obtain ⟨sl, hL⟩ := u.any ho I.free (by simp)
  exact I.step (g' := s.gens) (d' := s.drawn) (ch := []) (fun _ z => nomatch z) (fun b o _ hb _ e n => u.keep b o e n hb (by simp)) (fun b o _ hb _ e n => u.slot b o e n hb (by simp)) (fun b o _ e n => u.free b o e n (by simp)) (fun b o _ e => u.there b o e (by simp)) u.tups u.frzs u.tbls (fun m' hm => by
    obtain ⟨o', es', ep', ho', r'⟩ := hm
    rw [ho] at ho'; cases ho'
    exact ⟨_, es', ep', hL, r'⟩) hok I.bare
/-- behind a call (or a comprehension's block): the slots of this frame may have changed too, the records at ch may have turned -/
theorem Inv.call {g' : Array GenState} {t' : Nat} {d' : Drawn} {ch : List Addr} (I : Inv X pins σ H s) (u : Un (frs X.stack) ch H H' s.heap h') (hok : HOk X.prog X.w H' h') (hg : AllBare g')
    (hch : ∀ b ∈ ch, (b ∈ X.ex ∨ X.s₀.heap.objs.size ≤ b) ∧ b ≠ X.env.locals ∧ (∀ x c, X.env.cells.lookup x = some c → c ≠ b) ∧ ∀ p ∈ X.pn ++ pins, p.1 ≠ b) :
    Inv X pins σ H' { s with heap := h', gens := g', drawn := d', toks := t' } := by
  obtain ⟨m, ⟨o, es, ep, ho, r⟩, _⟩ := id I.loc
  obtain ⟨sl, hL⟩ := u.any ho I.free fun z => (hch _ z).2.1 rfl
  exact I.step (ch := ch) hch (fun b o hL hb hc e n => u.keep b o e n (fun z => (List.mem_cons.mp (I.stkSub b z)).elim hL hb) hc) (fun b o _ _ hc e n => u.any e n hc) (fun b o hc e n => u.free b o e n hc) (fun b o hc e => u.there b o e hc) u.tups u.frzs u.tbls (fun m' hm => by
    obtain ⟨o', es', ep', ho', r'⟩ := hm
    rw [ho] at ho'; cases ho'
    exact ⟨_, es', ep', hL, r'⟩) hok hg
/-- an untracked record of ours (an iterator) has turned -/
theorem Inv.turned {t' : Nat} {it : Addr} (I : Inv X pins σ H s) (k : ∀ b o, b ≠ it → s.heap.get? b = some o → h'.get? b = some o) (hn : H it = none) (hL : it ≠ X.env.locals)
    (h1 : it ∈ X.ex ∨ X.s₀.heap.objs.size ≤ it) (h2 : ∀ x c, X.env.cells.lookup x = some c → c ≠ it) (h3 : ∀ p ∈ X.pn ++ pins, p.1 ≠ it) : Inv X pins σ H { s with heap := h', toks := t' } := by
  have nit : ∀ b u, H b = some u → b ≠ it := fun b u e z => by rw [z, hn] at e; cases e
  refine I.step (g' := s.gens) (d' := s.drawn) (ch := [it]) (fun b hb => ?_) (fun b o _ _ hc e _ => k b o (fun z => hc (by simp [z])) e) (fun b o _ _ hc e _ => ⟨o.slots, k b o (fun z => hc (by simp [z])) e⟩) (fun _ _ _ _ n => n)
    (fun b o hc e => ⟨o, k b o (fun z => hc (by simp [z])) e⟩) (fun _ _ e => e) (fun _ _ _ e => e) (fun b ps e => ⟨#[], by rw [e]; simp⟩) (fun m hm => ?_) (fun b u e => ?_) I.bare
  · have e : b = it := by simpa using hb
    subst e
    exact ⟨h1, hL, h2, h3⟩
  · obtain ⟨o, es, ep, ho, r⟩ := hm
    exact ⟨o, es, ep, k _ o (Ne.symm hL) ho, r⟩
  · refine (I.hok b u e).stay (fun c v hc q => k c v ?_ q) (fun _ q => q) fun _ _ q => q
    rcases hc with z | z
    · rw [z]; exact nit b u e
    · exact nit c _ z
theorem Inv.tok (I : Inv X pins σ H s) (t : Nat) : Inv X pins σ H { s with toks := t } := I.un (h' := s.heap) (t' := t) Un.refl I.hok
/-- all objects kept -/
theorem Inv.kept {t' : Nat} (I : Inv X pins σ H s) (k : ∀ b u, s.heap.get? b = some u → h'.get? b = some u) : Inv X pins σ H { s with heap := h', toks := t' } := I.un (Un.kept k) (I.hok.kept k)
/-- a new object laid and tracked -/
theorem Inv.laid {a : Addr} {o : HO} {t' : Nat} (I : Inv X pins σ H s) (k : ∀ b u, s.heap.get? b = some u → h'.get? b = some u) (hp : s.heap.objs.size ≤ a) (new : ObjOk X.prog X.w (upd H a o) h' a o) :
    Inv X pins σ (upd H a o) { s with heap := h', toks := t' } := I.un (Un.laid k hp (I.hok.fresh hp)) (I.hok.laid k hp new)
/-- an object written -/
theorem Inv.write {x e : Addr} {o : HO} {t' : Nat} (I : Inv X pins σ H s) (mu : Mut (H x)) (he : e = x ∨ H e = some (.own x)) (k : ∀ b u, b ≠ e → s.heap.get? b = some u → h'.get? b = some u) (heo : ∃ u, h'.get? e = some u)
    (new : ObjOk X.prog X.w (upd H x o) h' x o) : Inv X pins σ (upd H x o) { s with heap := h', toks := t' } := I.un (Un.write mu he k heo) (I.hok.write mu he k heo new)
/-- forgetting slots, pins -/
theorem Inv.weak {σ' : List (Option V)} (I : Inv X pins σ H s) (hl : σ'.length = σ.length) (w : ∀ (i : Nat) v, σ'[i]? = some (some v) → σ[i]? = some (some v)) : Inv X pins σ' H s :=
  ⟨I.ok, I.os, I.bare, I.base, let ⟨m, hn, hl'⟩ := I.loc; ⟨m, hn, fun i x v e1 e2 e3 => hl' i x v e1 (w i v e2) e3⟩, I.cell, I.free, I.freeC, I.pin, I.hok, hl.trans I.len⟩
theorem Inv.pins_of {pins' : List (Addr × Obj)} (I : Inv X pins σ H s) (h : ∀ p ∈ pins', s.heap.get? p.1 = some p.2 ∧ H p.1 = none ∧ p.1 ≠ X.env.locals ∧ p.1 ∉ X.fs ∧ ∀ v, p.2.data ≠ .cell v) : Inv X pins' σ H s :=
  ⟨I.ok, I.os, I.bare, I.base, I.loc, I.cell, I.free, I.freeC, fun p hp => (List.mem_append.mp hp).elim (fun z => I.pin p (List.mem_append_left _ z)) (h p), I.hok, I.len⟩

theorem nodup_ix {N : List Str} (hN : N.Nodup) {i j : Nat} {x : Str} (a : N[i]? = some x) (b : N[j]? = some x) : i = j := by
  obtain ⟨h1, e1⟩ := List.getElem?_eq_some_iff.mp a
  obtain ⟨h2, e2⟩ := List.getElem?_eq_some_iff.mp b
  exact (List.getElem_inj hN).mp (e1.trans e2.symm)

/-- a name is stored; what changed -/
theorem store_ok2 {M : Model} {A : Around} {E : Value → Shared → Prop} {i : Nat} {x : Str} {v : V} {u : Value} {Q : Unit → Shared → Prop} (I : Inv X pins σ H s) (hN : X.N.Nodup) (hi : X.N[i]? = some x) (hx : Loc X.env.scope x) (r : RelV v u)
    (h : ∀ s', Inv X pins (σ.set i (some v)) H s' → (∃ a, Heap.SameBut a s.heap s'.heap ∧ (a = X.env.locals ∨ X.env.cells.lookup x = some a)) → Q () s') (hf : X.fn x = true ∨ X.env.scope.names.lookup x = some .local := by first | exact .inl rfl | exact .inr rfl | assumption) : wpAny M A (storeName X.env x u) Q E s := by
  obtain ⟨m, hn, hl⟩ := id I.loc
  have hcls : (X.env.scope.kind == .class || (X.env.scope.kind == .module && X.env.locals != X.env.globals)) = false := by rw [I.ok.kind]; rfl
  have hiσ : i < σ.length := by rw [I.len]; exact (List.getElem?_eq_some_iff.mp hi).1
  have cne := I.cne
  have tracked : ∀ {a : Addr} {h' : Heap}, (∃ o, s.heap.get? a = some o ∧ H a = none) → Heap.SameBut a s.heap h' → HOk X.prog X.w H h' := fun {a h'} ha hs b ob e => by
    obtain ⟨_, _, hfree⟩ := ha
    refine (I.hok b ob e).stay (fun c w' hc q => (hs.2 c ?_).trans q) (fun _ q => q) fun _ _ q => q
    rintro rfl
    rcases hc with rfl | hc
    · rw [hfree] at e; cases e
    · rw [hfree] at hc; cases hc
  rcases hx with hk | hk
  · refine wpAny_storeName_local hk hn (fun h' hn' hs => ?_) hcls
    obtain ⟨oL, _, _, hoL, _⟩ := id hn
    refine h _ ⟨I.ok, I.os, I.bare, ⟨fun b o e n hb hx => ?_, fun b o e n hb hx => ?_, I.base.free, fun b o e hx => ?_, I.base.tups, I.base.frzs, I.base.tbls⟩, ⟨_, hn', fun j y v' e1 e2 e3 => ?_⟩, fun y c e => ?_, I.free, I.freeC, fun p hp => ?_, tracked ⟨oL, hoL, I.free⟩ hs, by simpa using I.len⟩ ⟨_, hs, .inl rfl⟩
    · exact (hs.2 b (Nat.ne_of_lt (Nat.lt_of_lt_of_le (Heap.lt_size e) I.ok.above))).trans (I.base.keep b o e n hb hx)
    · obtain ⟨sl, e1⟩ := I.base.slot b o e n hb hx
      exact ⟨sl, (hs.2 b (Nat.ne_of_lt (Nat.lt_of_lt_of_le (Heap.lt_size e) I.ok.above))).trans e1⟩
    · obtain ⟨o', e1⟩ := I.base.there b o e hx
      exact ⟨o', (hs.2 b (Nat.ne_of_lt (Nat.lt_of_lt_of_le (Heap.lt_size e) I.ok.above))).trans e1⟩
    · by_cases hj : j = i
      · subst hj
        rw [hi] at e1; cases e1
        rw [List.getElem?_set_self hiσ] at e2
        cases e2
        exact ⟨u, r, .inl ⟨hk, by simp⟩⟩
      · rw [List.getElem?_set_ne (Ne.symm hj)] at e2
        obtain ⟨u', r', q⟩ := hl j y v' e1 e2 e3
        refine ⟨u', r', ?_⟩
        rcases q with ⟨k, e⟩ | ⟨k, c, e, z⟩
        · refine .inl ⟨k, ?_⟩
          have : y ≠ x := fun e => hj (nodup_ix hN e1 (e ▸ hi))
          simp [this, e]
        · exact .inr ⟨k, c, e, z.sameBut hs (cne y c e)⟩
    · obtain ⟨w', z⟩ := I.cell y c e
      exact ⟨w', z.sameBut hs (cne y c e)⟩
    · obtain ⟨e, n, ne, nf, d⟩ := I.pin p hp
      exact ⟨(hs.2 p.1 ne).trans e, n, ne, nf, d⟩
  · have hfn : X.fn x = true := by
      rcases hf with z | z
      · exact z
      · rw [z] at hk; cases hk
    obtain ⟨c, hc⟩ := I.ok.has x (.inl hk)
    obtain ⟨w', z⟩ := I.cell x c hc
    refine wpAny_storeName_cell I.ok.kind hk hc z (fun h' hc' hs => ?_)
    obtain ⟨oc, hoc, hocd⟩ := id z
    refine h { s with heap := h' } ⟨I.ok, I.os, I.bare, ⟨fun b o e n hb hx => ?_, fun b o e n hb hx => ?_, I.base.free, fun b o e hx => ?_, I.base.tups, I.base.frzs, I.base.tbls⟩, ⟨m, hn.sameBut hs (Ne.symm (cne x c hc)), fun j y v' e1 e2 e3 => ?_⟩, fun y c' e => ?_, I.free, I.freeC, fun p hp => ?_, tracked ⟨oc, hoc, I.freeC x c hc⟩ hs, by simpa using I.len⟩ ⟨c, hs, .inr hc⟩
    · exact (hs.2 b (Nat.ne_of_lt (Nat.lt_of_lt_of_le (Heap.lt_size e) (I.ok.cab x c hfn hc)))).trans (I.base.keep b o e n hb hx)
    · obtain ⟨sl, e1⟩ := I.base.slot b o e n hb hx
      exact ⟨sl, (hs.2 b (Nat.ne_of_lt (Nat.lt_of_lt_of_le (Heap.lt_size e) (I.ok.cab x c hfn hc)))).trans e1⟩
    · obtain ⟨o', e1⟩ := I.base.there b o e hx
      exact ⟨o', (hs.2 b (Nat.ne_of_lt (Nat.lt_of_lt_of_le (Heap.lt_size e) (I.ok.cab x c hfn hc)))).trans e1⟩
    · by_cases hj : j = i
      · subst hj
        rw [hi] at e1; cases e1
        rw [List.getElem?_set_self hiσ] at e2
        cases e2
        exact ⟨u, r, .inr ⟨.inl hk, c, hc, hc'⟩⟩
      · rw [List.getElem?_set_ne (Ne.symm hj)] at e2
        obtain ⟨u', r', q⟩ := hl j y v' e1 e2 e3
        refine ⟨u', r', ?_⟩
        rcases q with q | ⟨k, c', e, z'⟩
        · exact .inl q
        · refine .inr ⟨k, c', e, z'.sameBut hs ?_⟩
          rintro rfl
          exact hj (nodup_ix hN e1 (I.ok.inj _ _ _ e hc ▸ hi))
    · by_cases hcc : c' = c
      · subst hcc; exact ⟨_, hc'⟩
      · obtain ⟨w2, z2⟩ := I.cell y c' e
        exact ⟨w2, z2.sameBut hs hcc⟩
    · obtain ⟨e, n, ne, nf, d⟩ := I.pin p hp
      refine ⟨(hs.2 p.1 ?_).trans e, n, ne, nf, d⟩
      intro q
      rw [q, hoc] at e
      have q' : oc = p.2 := Option.some.inj e
      exact d w' (by rw [← q']; exact hocd)
theorem store_ok {M : Model} {A : Around} {E : Value → Shared → Prop} {i : Nat} {x : Str} {v : V} {u : Value} {Q : Unit → Shared → Prop} (I : Inv X pins σ H s) (hN : X.N.Nodup) (hi : X.N[i]? = some x) (hx : Loc X.env.scope x) (r : RelV v u)
    (h : ∀ s', Inv X pins (σ.set i (some v)) H s' → Q () s') (hf : X.fn x = true ∨ X.env.scope.names.lookup x = some .local := by first | exact .inl rfl | exact .inr rfl | assumption) : wpAny M A (storeName X.env x u) Q E s :=
  store_ok2 I hN hi hx r (fun s' I' _ => h s' I') hf
/-- behind a call or a block, the state as it is -/
theorem Inv.call' {s' : Shared} {ch : List Addr} (I : Inv X pins σ H s) (ho : s'.os = s.os) (u : Un (frs X.stack) ch H H' s.heap s'.heap) (hok : HOk X.prog X.w H' s'.heap) (hg : AllBare s'.gens)
    (hch : ∀ b ∈ ch, (b ∈ X.ex ∨ X.s₀.heap.objs.size ≤ b) ∧ b ≠ X.env.locals ∧ (∀ x c, X.env.cells.lookup x = some c → c ≠ b) ∧ ∀ p ∈ X.pn ++ pins, p.1 ≠ b) : Inv X pins σ H' s' := by
  obtain ⟨h', g', d', t', o'⟩ := s'
  have e : o' = s.os := ho
  subst e
  exact I.call (g' := g') (t' := t') (d' := d') u hok hg hch
end

/-! ### the judgements -/
/-- an exception: its class, its own dict's address (where it has one), the abstract heap behind it -/
abbrev XK := Value → Option Addr → Hp → Prop
abbrev St := List (Option V)
abbrev VK := V → Hp → Prop
/-- an expression's reading; a test's; an argument list's -/
abbrev TE := St → Hp → VK → Prop
abbrev TT := St → Hp → (Bool → Hp → Prop) → Prop
abbrev TA := St → Hp → (List V → Hp → Prop) → Prop
/-- what is wanted behind a statement -/
structure Ends where
  nx : St → Hp → Prop
  rt : VK
  bk : St → Hp → Prop := fun _ _ => False
  ct : St → Hp → Prop := fun _ _ => False
abbrev TS := Ends → St → Hp → Prop

def EP (X : Cx) (pins : List (Addr × Obj)) (σ : St) (Q : VK) (u : Value) (s' : Shared) : Prop := ∃ v H', Inv X pins σ H' s' ∧ RelV v u ∧ Q v H'
def TP (X : Cx) (pins : List (Addr × Obj)) (σ : St) (Q : Bool → Hp → Prop) (b : Bool) (s' : Shared) : Prop := ∃ H', Inv X pins σ H' s' ∧ Q b H'
def AP (X : Cx) (pins : List (Addr × Obj)) (σ : St) (Q : List V → Hp → Prop) (us : List Value) (s' : Shared) : Prop := ∃ vs H', Inv X pins σ H' s' ∧ Vals vs us ∧ Q vs H'
def SP (X : Cx) (pins : List (Addr × Obj)) (D : Ends) (f : Flow) (s' : Shared) : Prop :=
  match f with
  | .next => ∃ σ' H', Inv X pins σ' H' s' ∧ D.nx σ' H'
  | .brk => ∃ σ' H', Inv X pins σ' H' s' ∧ D.bk σ' H'
  | .cont => ∃ σ' H', Inv X pins σ' H' s' ∧ D.ct σ' H'
  | .ret u => ∃ v σ' H', Inv X pins σ' H' s' ∧ RelV v u ∧ D.rt v H'

def PE (X : Cx) (e : Expr) (t : TE) : Prop :=
  ∀ (pins : List (Addr × Obj)) (s : Shared) (σ : St) (H : Hp) (Q : VK), Inv X pins σ H s → t σ H Q → wpAny (model X.prog X.w) X.A (eval e X.env) (EP X pins σ Q) X.xe s
def PT (X : Cx) (e : Expr) (t : TT) : Prop :=
  ∀ (pins : List (Addr × Obj)) (s : Shared) (σ : St) (H : Hp) (Q : Bool → Hp → Prop), Inv X pins σ H s → t σ H Q → wpAny (model X.prog X.w) X.A (isTrue e X.env (eval e X.env)) (TP X pins σ Q) X.xe s
/-- a test whatever its 'whole' is (and, or) -/
def PW (X : Cx) (e : Expr) (t : TT) : Prop :=
  ∀ (whole : Sem Value) (pins : List (Addr × Obj)) (s : Shared) (σ : St) (H : Hp) (Q : Bool → Hp → Prop), Inv X pins σ H s → t σ H Q → wpAny (model X.prog X.w) X.A (isTrue e X.env whole) (TP X pins σ Q) X.xe s
theorem PW.pt {X : Cx} {e : Expr} {t : TT} (h : PW X e t) : PT X e t := h _
/-- an argument list (no star), from the left -/
def PA (X : Cx) (es : List Expr) (t : TA) : Prop :=
  ∀ (pos : Pos) (pins : List (Addr × Obj)) (s : Shared) (σ : St) (H : Hp) (Q : List V → Hp → Prop), Inv X pins σ H s → t σ H Q → wpAny (model X.prog X.w) X.A (spliced (backTo pos (starEach es X.env))) (AP X pins σ Q) X.xe s
def PS (X : Cx) (st : Stmt) (t : TS) : Prop :=
  ∀ (pins : List (Addr × Obj)) (s : Shared) (σ : St) (H : Hp) (D : Ends), Inv X pins σ H s → t D σ H → wpAny (model X.prog X.w) X.A (exec st X.env) (SP X pins D) X.xe s
def PSs (X : Cx) (st : List Stmt) (t : TS) : Prop :=
  ∀ (pins : List (Addr × Obj)) (s : Shared) (σ : St) (H : Hp) (D : Ends), Inv X pins σ H s → t D σ H → wpAny (model X.prog X.w) X.A (execs st X.env) (SP X pins D) X.xe s
/-- weaken the end -/
theorem thn {α : Type} {t : Sem α} {Q Q' : α → Shared → Prop} {M : Model} {A : Around} {E : Value → Shared → Prop} {s : Shared} (h : wpAny M A t Q E s) (hQ : ∀ a s, Q a s → Q' a s) : wpAny M A t Q' E s := wpAny_mono h hQ fun _ _ x => x
end L2

namespace L2
open PySem PySem.Spec PyProof.Rows
section
variable {X : Cx}

/-- two expressions in a row -/
theorem bin {a b : Expr} {ta tb : TE} (ha : PE X a ta) (hb : PE X b tb) {pins : List (Addr × Obj)} {s : Shared} {σ : St} {H : Hp} {R : V → V → Hp → Prop} (I : Inv X pins σ H s) (h : ta σ H fun x H1 => tb σ H1 fun y H2 => R x y H2)
    {α : Type} {Q : α → Shared → Prop} {f : Value → Value → Sem α}
    (hf : ∀ v u s2 x y H2, Inv X pins σ H2 s2 → RelV x v → RelV y u → R x y H2 → wpAny (model X.prog X.w) X.A (f v u) Q X.xe s2) :
    wpAny (model X.prog X.w) X.A (eval a X.env) (fun v s₁ => wpAny (model X.prog X.w) X.A (eval b X.env) (fun u s₂ => wpAny (model X.prog X.w) X.A (f v u) Q X.xe s₂) X.xe s₁) X.xe s := by
  refine thn (ha pins s σ H _ I h) fun v s1 ⟨x, H1, I1, r1, q1⟩ => ?_
  refine thn (hb pins s1 σ H1 _ I1 q1) fun u s2 ⟨y, H2, I2, r2, q2⟩ => ?_
  exact hf v u s2 x y H2 I2 r1 r2 q2

/-! ### names and constants -/
def tVar (i : Nat) : TE := fun σ H Q => ∃ v, σ[i]? = some (some v) ∧ Q v H
def tC (v : V) : TE := fun _ H Q => Q v H
theorem pe_var {i : Nat} {x : Str} {pos : Pos} (hN : X.N[i]? = some x) (hv : Vis X.env.scope x) (hd : (x == ("__debug__" : Str)) = false := by decide) (hcd : (x == ("__classdict__" : Str)) = false := by decide) : PE X (.Name x pos) (tVar i) := by
  intro pins s σ H Q I h
  obtain ⟨v, e, h⟩ := h
  obtain ⟨m, hn, hl⟩ := I.loc
  obtain ⟨u, r, l⟩ := hl i x v hN e hv
  have fin : EP X pins σ Q u s := ⟨v, H, I, r, h⟩
  rcases l with ⟨hk, hm⟩ | ⟨hk, c, hc, hcell⟩
  · exact wpAny_Name (wpAny_loadName_local I.ok.kind hk hn hm fin) hd
  · rcases hk with hk | hk
    · exact wpAny_Name (wpAny_loadName_cell I.ok.kind hk hc hcell fin) hd
    · exact wpAny_Name (wpAny_loadName_free I.ok.kind hk hc hcell fin hcd) hd
theorem pe_int {i j pos} : PE X (.Constant (.int i) j pos) (tC (.int i)) := fun _ _ _ H _ I h => wpAny_Constant_int ⟨.int i, H, I.tok _, ⟨_, rfl⟩, h⟩
theorem pe_bl {b j pos} : PE X (.Constant (.bool b) j pos) (tC (.bl b)) := fun _ _ _ H _ I h => Constant_bool ⟨.bl b, H, I, rfl, h⟩
theorem pe_non {j pos} : PE X (.Constant .none j pos) (tC .non) := fun _ _ _ H _ I h => Constant_none ⟨.non, H, I, rfl, h⟩
theorem pe_str {x j pos} : PE X (.Constant (.str x) j pos) (tC (.str x)) := fun _ _ _ H _ I h => Calls.Constant_str ⟨.str x, H, I.tok _, ⟨_, rfl⟩, h⟩

/-- a global name of the def -/
def Gl (X : Cx) (x : Str) : Prop := X.env.kindOf x = some .globalImplicit
theorem ld_glob {E : Value → Shared → Prop} {pins : List (Addr × Obj)} {s : Shared} {σ : St} {H : Hp} {x : Str} {u : Value} {pos : Pos} {Q : Value → Shared → Prop} (I : Inv X pins σ H s) (hg : Gl X x) (hm : X.mg x = some u) (h : Q u s)
    (hd : (x == ("__debug__" : Str)) = false := by decide) : wpAny (model X.prog X.w) X.A (eval (.Name x pos) X.env) Q E s :=
  Calls.Name_function_global I.ok.kind hg (Calls.loadGlobal_global (by rw [I.ok.glob]; exact I.mod.glob.keeps I.bk) hm h) hd
theorem ld_blt {E : Value → Shared → Prop} {pins : List (Addr × Obj)} {s : Shared} {σ : St} {H : Hp} {x : Str} {u : Value} {pos : Pos} {Q : Value → Shared → Prop} (I : Inv X pins σ H s) (hg : Gl X x) (hm : X.mg x = none) (hv : bootBuiltins x = some u) (h : Q u s)
    (hn : x ≠ "__name__" := by decide) (hd : (x == ("__debug__" : Str)) = false := by decide) : wpAny (model X.prog X.w) X.A (eval (.Name x pos) X.env) Q E s := by
  obtain ⟨mb, h1, h2⟩ := I.mod.blt
  exact Calls.Name_function_global I.ok.kind hg (Calls.loadGlobal_builtin (by rw [I.ok.glob]; exact I.mod.glob.keeps I.bk) hm (by rw [I.ok.blt]; exact h1.keeps I.bk) ((h2 x hn).trans hv) h) hd
/-- a module's constant, a class, a function, as a value -/
theorem pe_glob {x : Str} {v : V} {u : Value} {pos : Pos} (hg : Gl X x) (hm : X.mg x = some u) (r : RelV v u) (hd : (x == ("__debug__" : Str)) = false := by decide) : PE X (.Name x pos) (tC v) :=
  fun _ _ _ H _ I h => ld_glob I hg hm ⟨v, H, I, r, h⟩ hd
theorem pe_bltn {x : Str} {v : V} {u : Value} {pos : Pos} (hg : Gl X x) (hm : X.mg x = none) (hv : bootBuiltins x = some u) (r : RelV v u) (hn : x ≠ "__name__" := by decide) (hd : (x == ("__debug__" : Str)) = false := by decide) : PE X (.Name x pos) (tC v) :=
  fun _ _ _ H _ I h => ld_blt I hg hm hv ⟨v, H, I, r, h⟩ hn hd

/-! ### arithmetic -/
/-- two ints -/
def t2I (ta tb : TE) (k : Int → Int → Hp → Prop) : St → Hp → Prop := fun σ H => ta σ H fun x H1 => tb σ H1 fun y H2 => ∃ i j, x = .int i ∧ y = .int j ∧ k i j H2
def tAdd (ta tb : TE) : TE := fun σ H Q => t2I ta tb (fun i j H2 => Q (.int (i + j)) H2) σ H
def tSub (ta tb : TE) : TE := fun σ H Q => t2I ta tb (fun i j H2 => Q (.int (i - j)) H2) σ H
/-- the left factor below 2^64 -/
def tMul (ta tb : TE) : TE := fun σ H Q => t2I ta tb (fun i j H2 => (-(2 ^ 64) < i ∧ i < 2 ^ 64) ∧ Q (.int (i * j)) H2) σ H
variable {a b : Expr} {ta tb : TE} {pos : Pos}
/-! ### comparisons -/
def PC (X : Cx) (op : CmpOp) (a b : Expr) (t : TE) : Prop :=
  ∀ (pins : List (Addr × Obj)) (s : Shared) (σ : St) (H : Hp) (Q : VK), Inv X pins σ H s → t σ H Q →
    wpAny (model X.prog X.w) X.A (eval a X.env) (fun v s₁ => wpAny (model X.prog X.w) X.A (eval b X.env) (fun u s₂ => wpAny (model X.prog X.w) X.A (compareOp op v u) (EP X pins σ Q) X.xe s₂) X.xe s₁) X.xe s
theorem nobehind (b : Expr) {op : CmpOp} (h : op ≠ .In) (h2 : op ≠ .NotIn) : behindInMarks op b = false := by
  have e1 : (op == CmpOp.In) = false := by cases op <;> first | rfl | exact absurd rfl h
  have e2 : (op == CmpOp.NotIn) = false := by cases op <;> first | rfl | exact absurd rfl h2
  cases b <;> simp [behindInMarks, e1, e2]
def tCmp (p : Int → Int → Bool) (ta tb : TE) : TE := fun σ H Q => t2I ta tb (fun i j H2 => Q (.bl (p i j)) H2) σ H
abbrev tLt : TE → TE → TE := tCmp fun i j => decide (i < j)
abbrev tLe : TE → TE → TE := tCmp fun i j => decide (i ≤ j)
abbrev tGt : TE → TE → TE := tCmp fun i j => decide (j < i)
abbrev tGe : TE → TE → TE := tCmp fun i j => decide (j ≤ i)
abbrev tEqI : TE → TE → TE := tCmp fun i j => decide (i = j)
abbrev tNeI : TE → TE → TE := tCmp fun i j => !decide (i = j)
/-- is None -/
def tIsN (ta : TE) : TE := fun σ H Q => ta σ H fun x H1 => Q (.bl (decide (x = .non))) H1
def tNotN (ta : TE) : TE := fun σ H Q => ta σ H fun x H1 => Q (.bl (!decide (x = .non))) H1
/-- a comparison as a value, as a test -/
def tB (t : TE) : TT := fun σ H Q => t σ H fun x H1 => ∃ c, x = .bl c ∧ Q c H1
theorem pt_cmp {op : CmpOp} {t : TE} (h : PC X op a b t) (h1 : behindInMarks op b = false := by first | exact nobehind _ (by decide) (by decide) | rfl) : PT X (.Compare a [op] [b] pos) (tB t) := by
  intro pins s σ H Q I hw
  refine wpAny_isTrue_Compare1 (thn (h pins s σ H _ I hw) fun v s1 h1 => thn h1 fun u s2 h2 => thn h2 fun c s3 ⟨x, H1, I1, r1, q1⟩ => ?_) h1
  obtain ⟨d, rfl, q⟩ := q1
  cases r1
  exact wpAny_truthy_bool ⟨H1, I1, q⟩
/-- an expression whose value is a bool, as a test -/
theorem pt_val {e : Expr} {t : TE} (h : PE X e t) (he : ∀ whole, isTrue e X.env whole = (do let v ← whole; standAt e.pos; holding [v] (truthy v)) := by intro _; rfl) : PT X e (tB t) := by
  intro pins s σ H Q I hw
  refine isTrue_plain (thn (h pins s σ H _ I hw) fun v s1 ⟨x, H1, I1, r1, q1⟩ => ?_) (he _)
  obtain ⟨d, rfl, q⟩ := q1
  cases r1
  exact wpAny_truthy_bool ⟨H1, I1, q⟩

/-! ### and, or, not -/
variable {tA tB' : TT} {rest : List Expr}
def tAnd (t u : TT) : TT := fun σ H Q => t σ H fun c H1 => if c = true then u σ H1 Q else Q false H1
def tOr (t u : TT) : TT := fun σ H Q => t σ H fun c H1 => if c = true then Q true H1 else u σ H1 Q
def tNot (t : TT) : TT := fun σ H Q => t σ H fun c H1 => Q (!c) H1
theorem pw_and1 (ha : PT X a tA) : PW X (.BoolOp .And [a] pos) tA := by
  intro wh pins s σ H Q I h
  refine isTrue_and (thn (ha pins s σ H Q I h) fun c s1 e => ?_)
  cases c with
  | true => exact isTrue_and_nil e
  | false => exact e
theorem pw_or1 (ha : PT X a tA) : PW X (.BoolOp .Or [a] pos) tA := by
  intro wh pins s σ H Q I h
  refine isTrue_or (thn (ha pins s σ H Q I h) fun c s1 e => ?_)
  cases c with
  | false => exact isTrue_or_nil e
  | true => exact e
theorem pw_and (ha : PT X a tA) (hb : PW X (.BoolOp .And (b :: rest) pos) tB') : PW X (.BoolOp .And (a :: b :: rest) pos) (tAnd tA tB') := by
  intro wh pins s σ H Q I h
  refine isTrue_and (thn (ha pins s σ H _ I h) fun c s1 ⟨H1, I1, q1⟩ => ?_)
  cases c with
  | true => exact hb wh pins s1 σ H1 Q I1 q1
  | false => exact ⟨H1, I1, q1⟩
theorem pw_or (ha : PT X a tA) (hb : PW X (.BoolOp .Or (b :: rest) pos) tB') : PW X (.BoolOp .Or (a :: b :: rest) pos) (tOr tA tB') := by
  intro wh pins s σ H Q I h
  refine isTrue_or (thn (ha pins s σ H _ I h) fun c s1 ⟨H1, I1, q1⟩ => ?_)
  cases c with
  | true => exact ⟨H1, I1, q1⟩
  | false => exact hb wh pins s1 σ H1 Q I1 q1
theorem pt_not (ha : PT X a tA) : PT X (.UnaryOp .Not a pos) (tNot tA) := by
  intro pins s σ H Q I h
  exact isTrue_not (ha pins s σ H (fun c H1 => Q (!c) H1) I h)
/-- .. as values (bools) -/
def tAndV (ta tb : TE) : TE := fun σ H Q => ta σ H fun x H1 => ∃ c, x = .bl c ∧ if c = true then tb σ H1 Q else Q (.bl false) H1
def tOrV (ta tb : TE) : TE := fun σ H Q => ta σ H fun x H1 => ∃ c, x = .bl c ∧ if c = true then Q (.bl true) H1 else tb σ H1 Q
def tNotV (ta : TE) : TE := fun σ H Q => ta σ H fun x H1 => ∃ c, x = .bl c ∧ Q (.bl (!c)) H1
theorem pe_one {op} {t : TE} (h : PE X a t) : PE X (.BoolOp op [a] pos) t := fun pins s σ H Q I hw => BoolOp_one (h pins s σ H Q I hw)
theorem pe_and (ha : PE X a ta) (hb : PE X (.BoolOp .And (b :: rest) pos) tb) : PE X (.BoolOp .And (a :: b :: rest) pos) (tAndV ta tb) := by
  intro pins s σ H Q I h
  refine BoolOp_and (thn (ha pins s σ H _ I h) fun v s1 ⟨x, H1, I1, r1, q1⟩ => ?_)
  obtain ⟨c, rfl, q1⟩ := q1
  cases r1
  refine wpAny_truthy_bool ?_
  cases c with
  | true => exact hb pins s1 σ H1 Q I1 q1
  | false => exact ⟨.bl false, H1, I1, rfl, q1⟩
theorem pe_not (ha : PE X a ta) : PE X (.UnaryOp .Not a pos) (tNotV ta) := by
  intro pins s σ H Q I h
  refine UnaryOp_ (thn (ha pins s σ H _ I h) fun v s1 ⟨x, H1, I1, r1, q1⟩ => ?_)
  obtain ⟨c, rfl, q1⟩ := q1
  cases r1
  exact not_of (wpAny_truthy_bool ⟨.bl (!c), H1, I1, rfl, q1⟩)
/-- a if t else b -/
def tIf (t : TT) (ta tb : TE) : TE := fun σ H Q => t σ H fun c H1 => if c = true then ta σ H1 Q else tb σ H1 Q
end
end L2

namespace L2
open PySem PySem.Spec PyProof.Rows

/-! ### a list, a tuple that is read: tracked, frozen, or an object of the module -/
def SqL (K : PySem.W.Frag) (H : Hp) (a : Addr) (xs : List V) : Prop :=
  Rd H a (.lst xs) ∨
    ∃ (o : Obj) (its : Array Value) (n : Nat), K.lookup a = some o ∧ o.cls = .type "list" ∧ o.dict = none ∧ o.data = .seq its n ∧ its.size ≤ sizeLine ∧ Vals xs its.toList
def SqT (K : PySem.W.Frag) (H : Hp) (a : Addr) (xs : List V) : Prop :=
  Rd H a (.tup xs) ∨
    ∃ (o : Obj) (its : Array Value) (n : Nat), K.lookup a = some o ∧ o.cls = .type "tuple" ∧ o.data = .seq its n ∧ its.size ≤ sizeLine ∧ Vals xs its.toList
def absV : Value → Option V
  | .none => some .non
  | .bool b => some (.bl b)
  | .int i _ => some (.int i)
  | .str x _ => some (.str x)
  | .bytes b _ => some (.byt b)
  | .float b _ => some (.flt b)
  | .ref a => some (.ref a)
  | .type n => some (.ty n)
  | _ => none
theorem RelV.abs {x : V} {u : Value} (r : RelV x u) : absV u = some x := by
  cases x with
  | non => cases r; rfl
  | bl _ => cases r; rfl
  | int _ => obtain ⟨t, rfl⟩ := r; rfl
  | str _ => obtain ⟨t, rfl⟩ := r; rfl
  | byt _ => obtain ⟨t, rfl⟩ := r; rfl
  | flt _ => obtain ⟨t, rfl⟩ := r; rfl
  | ref _ => cases r; rfl
  | ty _ => cases r; rfl
theorem RelV.inj {x y : V} {u : Value} (r : RelV x u) (q : RelV y u) : x = y := Option.some.inj (r.abs.symm.trans q.abs)
theorem Vals.inj : ∀ {xs ys : List V} {us : List Value}, Vals xs us → Vals ys us → xs = ys
  | _, _, _, .nil, .nil => rfl
  | _, _, _, .cons r t, .cons r' t' => by rw [r.inj r', Vals.inj t t']
section
variable {X : Cx} {pins : List (Addr × Obj)} {σ : St} {H : Hp} {s : Shared} {a : Addr} {xs ys : List V}
theorem SqL.of {K : PySem.W.Frag} (h : H a = some (.lst xs)) : SqL K H a xs := .inl (.inl h)
theorem SqT.of {K : PySem.W.Frag} (h : H a = some (.tup xs)) : SqT K H a xs := .inl (.inl h)
theorem Inv.list (I : Inv X pins σ H s) (h : SqL X.K H a xs) : ∃ its : List Value, Vals xs its ∧ PlainL s.heap a its.toArray ∧ xs.length ≤ sizeLine := by
  rcases h with h | ⟨o, its, n, hk, hc, hd, hs, hz, r⟩
  · obtain ⟨z, its, n, r, e⟩ := h.ok I.hok
    exact ⟨its, r, ⟨_, n, e, rfl, rfl, rfl⟩, z⟩
  · refine ⟨its.toList, r, ⟨o, n, I.kIn a o hk, hc, hd, by simpa using hs⟩, ?_⟩
    have e := r.length
    simp only [Array.length_toList] at e
    omega
theorem Inv.tuple (I : Inv X pins σ H s) (h : SqT X.K H a xs) : ∃ its : List Value, Vals xs its ∧ IsTup s.heap a its.toArray ∧ xs.length ≤ sizeLine := by
  rcases h with h | ⟨o, its, n, hk, hc, hs, hz, r⟩
  · obtain ⟨z, its, r, p⟩ := h.ok I.hok
    exact ⟨its, r, p, z⟩
  · refine ⟨its.toList, r, ⟨o, I.kIn a o hk, hc, n, by simpa using hs⟩, ?_⟩
    have e := r.length
    simp only [Array.length_toList] at e
    omega
theorem Inv.list_inj (I : Inv X pins σ H s) (h : SqL X.K H a xs) (h' : SqL X.K H a ys) : xs = ys := by
  obtain ⟨its, r, ⟨o, n, e, _, _, d⟩, _⟩ := I.list h
  obtain ⟨its', r', ⟨o', n', e', _, _, d'⟩, _⟩ := I.list h'
  rw [e] at e'; cases e'
  rw [d] at d'
  injection d' with d1 _
  have : its = its' := by simpa using congrArg Array.toList d1
  subst this
  exact r.inj r'
end

/-! ### another wish about exceptions -/
abbrev Cx.wish (X : Cx) (E : Value → Shared → Prop) : Cx := { X with xe := E }
/-- no exception leaves -/
abbrev Cx.nox (X : Cx) : Cx := X.wish fun _ _ => False
theorem Cx.Ok.wish {X : Cx} (ok : X.Ok) (E : Value → Shared → Prop) : (X.wish E).Ok :=
  ⟨ok.mod, ok.kind, ok.glob, ok.blt, ok.above, ok.inj, ok.has, ok.cab, ok.hd, ok.frames, ok.stk, ok.exf, ok.bs, ok.bsz, ok.noex, ok.exfs, ok.funs, ok.frf⟩
theorem Cx.Ok.unwish {X : Cx} {E : Value → Shared → Prop} (ok : (X.wish E).Ok) : X.Ok :=
  ⟨ok.mod, ok.kind, ok.glob, ok.blt, ok.above, ok.inj, ok.has, ok.cab, ok.hd, ok.frames, ok.stk, ok.exf, ok.bs, ok.bsz, ok.noex, ok.exfs, ok.funs, ok.frf⟩
section
variable {X : Cx} {pins : List (Addr × Obj)} {σ : St} {H : Hp} {s : Shared} {E : Value → Shared → Prop}
theorem Inv.wish (I : Inv X pins σ H s) (E : Value → Shared → Prop) : Inv (X.wish E) pins σ H s := ⟨I.ok.wish E, I.os, I.bare, I.base, I.loc, I.cell, I.free, I.freeC, I.pin, I.hok, I.len⟩
theorem Inv.unwish (I : Inv (X.wish E) pins σ H s) : Inv X pins σ H s := ⟨I.ok.unwish, I.os, I.bare, I.base, I.loc, I.cell, I.free, I.freeC, I.pin, I.hok, I.len⟩
theorem SP.unwish {D : Ends} {f : Flow} {s' : Shared} (h : SP (X.wish E) pins D f s') : SP X pins D f s' := by
  cases f with
  | next => obtain ⟨σ', H', I, q⟩ := h; exact ⟨σ', H', I.unwish, q⟩
  | brk => obtain ⟨σ', H', I, q⟩ := h; exact ⟨σ', H', I.unwish, q⟩
  | cont => obtain ⟨σ', H', I, q⟩ := h; exact ⟨σ', H', I.unwish, q⟩
  | ret u => obtain ⟨v, σ', H', I, r, q⟩ := h; exact ⟨v, σ', H', I.unwish, r, q⟩
theorem PE.nox {e : Expr} {t : TE} (h : PE X.nox e t) : PE X e t := fun pins s σ H Q I hw =>
  wpAny_mono (h pins s σ H Q (I.wish _) hw) (fun _ _ ⟨v, H', I', r, q⟩ => ⟨v, H', I'.unwish, r, q⟩) fun _ _ z => False.elim z
theorem PT.nox {e : Expr} {t : TT} (h : PT X.nox e t) : PT X e t := fun pins s σ H Q I hw =>
  wpAny_mono (h pins s σ H Q (I.wish _) hw) (fun _ _ ⟨H', I', q⟩ => ⟨H', I'.unwish, q⟩) fun _ _ z => False.elim z
theorem PSs.nox {st : List Stmt} {t : TS} (h : PSs X.nox st t) : PSs X st t := fun pins s σ H D I hw =>
  wpAny_mono (h pins s σ H D (I.wish _) hw) (fun _ _ q => q.unwish) fun _ _ z => False.elim z
end

/-! ### blocks and small statements -/
section
variable {X : Cx} {st : Stmt} {rest : List Stmt} {t u : TS} {e : Expr} {te : TE} {pos : Pos}
def tNext : TS := fun D σ H => D.nx σ H
def tSeq (t u : TS) : TS := fun D σ H => t { D with nx := u D } σ H
theorem pss_nil : PSs X [] tNext := fun _ _ σ H _ I h => wpAny_execs_nil ⟨σ, H, I, h⟩
theorem pss_cons (h1 : PS X st t) (h2 : PSs X rest u) : PSs X (st :: rest) (tSeq t u) := by
  intro pins s σ H D I h
  refine wpAny_execs_cons (thn (h1 pins s σ H { D with nx := u D } I h) fun f s1 q => ?_)
  cases f with
  | next =>
    obtain ⟨σ', H', I', q⟩ := q
    exact h2 pins s1 σ' H' D I' q
  | ret v => exact q
  | brk => exact q
  | cont => exact q
theorem pss_one (h1 : PS X st t) : PSs X [st] t := by
  intro pins s σ H D I h
  refine wpAny_execs_cons (thn (h1 pins s σ H D I h) fun f s1 q => ?_)
  cases f with
  | next => exact wpAny_execs_nil q
  | ret v => exact q
  | brk => exact q
  | cont => exact q
def tBreak : TS := fun D σ H => D.bk σ H
def tCont : TS := fun D σ H => D.ct σ H
theorem ps_continue : PS X (.Continue pos) tCont := fun _ _ σ H _ I h => wpAny_Continue ⟨σ, H, I, h⟩
/-- in a def's body nothing is shown -/
theorem Inv.quiet {pins : List (Addr × Obj)} {σ : St} {H : Hp} {s : Shared} (I : Inv X pins σ H s) : interactive X.env = false := by simp [interactive, I.ok.kind]
/-- an expression whose value is dropped -/
def tDrop (te : TE) : TS := fun D σ H => te σ H fun _ H1 => D.nx σ H1
theorem ps_expr (he : PE X e te) (hs : swapsWith e none pos.line X.env = pure false := by rfl) : PS X (.Expr e pos) (tDrop te) := by
  intro pins s σ H D I h
  exact wpAny_Expr_any (thn (he pins s σ H _ I h) fun v s1 ⟨x, H1, I1, r1, q1⟩ => ⟨σ, H1, I1, q1⟩) I.quiet hs
def tRet (te : TE) : TS := fun D σ H => te σ H D.rt
theorem ps_ret (he : PE X e te) : PS X (.Return (some e) pos) (tRet te) := by
  intro pins s σ H D I h
  exact wpAny_Return_some (thn (he pins s σ H _ I h) fun v s1 ⟨x, H1, I1, r1, q1⟩ => ⟨x, σ, H1, I1, r1, q1⟩)
def tRetN : TS := fun D _ H => D.rt .non H
def tIfS (c : TT) (t u : TS) : TS := fun D σ H => c σ H fun b H1 => if b = true then t D σ H1 else u D σ H1
theorem ps_if {c : Expr} {a b : List Stmt} {tc : TT} (hc : PT X c tc) (ha : PSs X a t) (hb : PSs X b u) : PS X (.If c a b pos) (tIfS tc t u) := by
  intro pins s σ H D I h
  refine wpAny_If (thn (hc pins s σ H _ I h) fun d s1 ⟨H1, I1, q1⟩ => ?_)
  cases d with
  | true => exact ha pins s1 σ H1 D I1 q1
  | false => exact hb pins s1 σ H1 D I1 q1
/-- code that the proof never comes to -/
def tNever : TS := fun _ _ _ => False
theorem ps_never : PS X st tNever := fun _ _ _ _ _ _ h => h.elim
theorem pss_never {sts : List Stmt} : PSs X sts tNever := fun _ _ _ _ _ _ h => h.elim
end

/-! ### targets -/
abbrev TG := V → St → Hp → (St → Hp → Prop) → Prop
abbrev TGs := List V → St → Hp → (St → Hp → Prop) → Prop
def PG (X : Cx) (target : Expr) (t : TG) : Prop :=
  ∀ (pins : List (Addr × Obj)) (s : Shared) (σ : St) (H : Hp) (v : V) (u : Value) (Q : St → Hp → Prop), Inv X pins σ H s → RelV v u → t v σ H Q →
    wpAny (model X.prog X.w) X.A (assign target X.env u) (fun _ s' => ∃ σ' H', Inv X pins σ' H' s' ∧ Q σ' H') X.xe s
/-- several targets, one after another -/
def PGs (X : Cx) (ts : List Expr) (t : TGs) : Prop :=
  ∀ (pins : List (Addr × Obj)) (s : Shared) (σ : St) (H : Hp) (vs : List V) (us : List Value) (Q : St → Hp → Prop), Inv X pins σ H s → Vals vs us → t vs σ H Q →
    wpAny (model X.prog X.w) X.A (assignInOrder ((assignEach ts X.env).map (·.2)) us) (fun _ s' => ∃ σ' H', Inv X pins σ' H' s' ∧ Q σ' H') X.xe s
/-- o[i] = v, by values -/
abbrev TSet := V → V → V → Hp → (Hp → Prop) → Prop
def PSet (X : Cx) (t : TSet) : Prop :=
  ∀ (pins : List (Addr × Obj)) (s : Shared) (σ : St) (H : Hp) (o i v : V) (ov iv u : Value) (Q : Hp → Prop), Inv X pins σ H s → RelV o ov → RelV i iv → RelV v u → t o i v H Q →
    wpAny (model X.prog X.w) X.A (setItem ov iv u) (fun _ s' => ∃ H', Inv X pins σ H' s' ∧ Q H') X.xe s
/-- a op= b, by values -/
abbrev TIp := V → V → Hp → VK → Prop
def PIp (X : Cx) (op : Operator) (t : TIp) : Prop :=
  ∀ (pins : List (Addr × Obj)) (s : Shared) (σ : St) (H : Hp) (x y : V) (v u : Value) (Q : VK), Inv X pins σ H s → RelV x v → RelV y u → t x y H Q →
    wpAny (model X.prog X.w) X.A (inplaceOp op v u) (EP X pins σ Q) X.xe s
section
variable {X : Cx} {pos : Pos}
def gName (i : Nat) : TG := fun v σ H Q => Q (σ.set i (some v)) H
theorem pg_name {i : Nat} {x : Str} (hN : X.N.Nodup) (hi : X.N[i]? = some x) (hx : Loc X.env.scope x) (hf : X.fn x = true ∨ X.env.scope.names.lookup x = some .local := by first | exact .inl rfl | exact .inr rfl | assumption) : PG X (.Name x pos) (gName i) := by
  intro pins s σ H v u Q I r h
  exact wpAny_assign_Name (store_ok I hN hi hx r (fun s' I' => ⟨_, H, I', h⟩) hf)
def gNil : TGs := fun vs σ H Q => vs = [] ∧ Q σ H
def gCons (t : TG) (u : TGs) : TGs := fun vs σ H Q => ∃ v r, vs = v :: r ∧ t v σ H fun σ' H' => u r σ' H' Q
theorem pgs_nil : PGs X [] gNil := by
  intro pins s σ H vs us Q I r h
  obtain ⟨e, h⟩ := h
  subst e
  cases r
  exact assignInOrder_nil ⟨σ, H, I, h⟩
theorem pgs_cons {e : Expr} {es : List Expr} {t : TG} {u : TGs} (h1 : PG X e t) (h2 : PGs X es u)
    (hs : (assignEach (e :: es) X.env).map (·.2) = assign e X.env :: (assignEach es X.env).map (·.2) := by rfl) : PGs X (e :: es) (gCons t u) := by
  intro pins s σ H vs us Q I r h
  obtain ⟨v, vr, e1, h⟩ := h
  subst e1
  cases r with
  | cons r rr =>
    rw [hs]
    refine assignInOrder_cons (thn (h1 pins s σ H _ _ _ I r h) fun _ s1 ⟨σ1, H1, I1, q1⟩ => ?_)
    exact h2 pins s1 σ1 H1 _ _ Q I1 rr q1
/-- (a, b, ..) = a tuple of that length -/
def gTup (K : PySem.W.Frag) (n : Nat) (t : TGs) : TG := fun v σ H Q => ∃ a xs, v = .ref a ∧ SqT K H a xs ∧ xs.length = n ∧ t xs σ H Q
theorem pg_tup {es : List Expr} {k : Nat} {t : TGs} {n : Nat} (hc : X.calm = true) (h : PGs X es t)
    (hn : (assignEach es X.env).length = n := by rfl) (hst : (assignEach es X.env).findIdx? (·.1) = none := by rfl) : PG X (.Tuple es k pos) (gTup X.K n t) := by
  intro pins s σ H v u Q I r hw
  obtain ⟨a, xs, e1, hq, hl, hw⟩ := hw
  subst e1
  cases r
  obtain ⟨its, rv, ht, hz⟩ := I.tuple hq
  refine assign_Tuple_tuple (I.ok.hd hc) ht (by simp [hn, ← hl, rv.length]) hst fun h' hx => ?_
  have I1 : Inv X pins σ H { s with heap := h' } := I.kept (t' := s.toks) fun b o e => hx b o (Nat.ne_of_lt (Heap.lt_size e)) e
  exact h pins _ σ H xs _ Q I1 (by simpa using rv) hw
/-- o[i] = .. -/
def gSub (to ti : TE) (t : TSet) : TG := fun v σ H Q => to σ H fun o H1 => ti σ H1 fun i H2 => t o i v H2 fun H3 => Q σ H3
theorem pg_sub {o i : Expr} {to ti : TE} {t : TSet} (ho : PE X o to) (hi : PE X i ti) (hs : PSet X t)
    (ha : ∀ v, assign (.Subscript o i pos) X.env v = (do
      let ov ← holding [v] (eval o X.env)
      let iv ← holding [v, ov] (eval i X.env)
      standAt pos
      holding [v, ov, iv] (setItem ov iv v)
      release [v, ov, iv] []) := by intro _; rfl) : PG X (.Subscript o i pos) (gSub to ti t) := by
  intro pins s σ H v u Q I r h
  rw [ha]
  refine wpAny_bind (wpAny_holding (thn (ho pins s σ H _ I h) fun ov s1 ⟨x, H1, I1, r1, q1⟩ => ?_))
  refine wpAny_bind (wpAny_holding (thn (hi pins s1 σ H1 _ I1 q1) fun iv s2 ⟨y, H2, I2, r2, q2⟩ => ?_))
  refine wpAny_bind (wpAny_standAt (wpAny_bind (wpAny_holding (thn (hs pins s2 σ H2 x y v ov iv u _ I2 r1 r2 r q2) fun _ s3 ⟨H3, I3, q3⟩ => ?_))))
  exact wpAny_release ⟨σ, H3, I3, q3⟩
/-- target = value -/
def tAsg (te : TE) (g : TG) : TS := fun D σ H => te σ H fun x H1 => g x σ H1 D.nx
theorem ps_asg {tg e : Expr} {te : TE} {g : TG} (he : PE X e te) (hg : PG X tg g) (hs : swapsWithSole [tg] e pos.line X.env = pure false := by rfl) (hw : swappedStores [tg] e X.env = pure none := by rfl)
    (h1 : (assignEach [tg] X.env).map (·.2) = [assign tg X.env] := by rfl) : PS X (.Assign [tg] e pos) (tAsg te g) := by
  intro pins s σ H D I h
  refine wpAny_Assign_stores (thn (he pins s σ H _ I h) fun v s1 ⟨x, H1, I1, r1, q1⟩ => ?_) hs hw
  rw [h1]
  exact thn (hg pins s1 σ H1 x v _ I1 r1 q1) fun _ s2 q => q
/-- name = value -/
theorem ps_set {i : Nat} {x : Str} {e : Expr} {te : TE} {pos' : Pos} (hN : X.N.Nodup) (hi : X.N[i]? = some x) (hx : Loc X.env.scope x) (he : PE X e te) (hs : swapsWith e (some (.Name x pos')) pos.line X.env = pure false := by rfl) (hf : X.fn x = true ∨ X.env.scope.names.lookup x = some .local := by first | exact .inl rfl | exact .inr rfl | assumption) :
    PS X (.Assign [.Name x pos'] e pos) (tAsg te (gName i)) := by
  intro pins s σ H D I h
  refine wpAny_Assign_Name (thn (he pins s σ H _ I h) fun v s1 ⟨y, H1, I1, r1, q1⟩ => ?_) hs
  exact store_ok I1 hN hi hx r1 (fun s2 I2 => ⟨_, H1, I2, q1⟩) hf
/-- a, b = x, y with plain local names: stored from the right; the pair itself is not tracked (the opening rows as in PyProof/Rows/TupAssign.lean:23) -/
def tPar (i j : Nat) (ta : TA) : TS := fun D σ H => ta σ H fun vs H1 => ∃ v w, vs = [v, w] ∧ D.nx ((σ.set i (some v)).set j (some w)) H1
/-- name op= e -/
def tAug (i : Nat) (te : TE) (ti : TIp) : TS := fun D σ H => ∃ x, σ[i]? = some (some x) ∧ te σ H fun y H1 => ti x y H1 fun z H2 => D.nx (σ.set i (some z)) H2
/-- o[i] op= e -/
def tAugS (to ti te : TE) (tget : V → V → Hp → VK → Prop) (tip : TIp) (tset : TSet) : TS := fun D σ H => to σ H fun o H1 => ti σ H1 fun i H2 => tget o i H2 fun x H3 => te σ H3 fun y H4 => tip x y H4 fun z H5 => tset o i z H5 fun H6 => D.nx σ H6
/-- o[i], by values -/
def PGet (X : Cx) (t : V → V → Hp → VK → Prop) : Prop :=
  ∀ (pins : List (Addr × Obj)) (s : Shared) (σ : St) (H : Hp) (o i : V) (ov iv : Value) (Q : VK), Inv X pins σ H s → RelV o ov → RelV i iv → t o i H Q →
    wpAny (model X.prog X.w) X.A (getItem ov iv) (EP X pins σ Q) X.xe s
/-- ints -/
def ipI (f : Int → Int → Int) : TIp := fun x y H Q => ∃ i j, x = .int i ∧ y = .int j ∧ Q (.int (f i j)) H
end

/-! ### while -/
section
variable {X : Cx} {pos : Pos}
/-- the invariant W with its measure -/
def tWhile (c : TT) (tb : TS) : TS := fun D σ H => ∃ W : Nat → St → Hp → Prop, (∃ m, W m σ H) ∧ ∀ m σ H, W m σ H →
  c σ H fun b H1 => if b = true then ∃ N : St → Hp → Prop, (∀ σ' H', N σ' H' → ∃ m', m' < m ∧ W m' σ' H') ∧ tb { D with nx := N, ct := N, bk := D.nx } σ H1 else D.nx σ H1
theorem ps_while {c : Expr} {body : List Stmt} {tc : TT} {tb : TS} (hp : PassesOwn (model X.prog X.w) X.A X.env X.xe) (hc : PT X c tc) (hb : PSs X body tb) : PS X (.While c body [] pos) (tWhile tc tb) := by
  intro pins s σ H D I h
  obtain ⟨W, ⟨m0, w0⟩, turn⟩ := h
  refine wpAny_While (codeAny_whileLoop (fun n s' => ∃ σ' H', Inv X pins σ' H' s' ∧ W n σ' H') ?_ m0 ⟨σ, H, I, w0⟩)
  rintro n s1 ⟨σ1, H1, I1, w1⟩
  refine wpAny_passesOwn hp (thn (hc pins s1 σ1 H1 _ I1 (turn n σ1 H1 w1)) fun b s2 ⟨H2, I2, q2⟩ => ?_)
  cases b with
  | true =>
    obtain ⟨N, hN, q2⟩ := q2
    rw [if_pos rfl]
    refine wpAny_passesOwn hp (thn (hb pins s2 σ1 H2 _ I2 q2) fun f s3 q3 => ?_)
    cases f with
    | next =>
      obtain ⟨σ3, H3, I3, n3⟩ := q3
      obtain ⟨m', hm, w3⟩ := hN σ3 H3 n3
      exact ⟨m', hm, σ3, H3, I3, w3⟩
    | cont =>
      obtain ⟨σ3, H3, I3, n3⟩ := q3
      obtain ⟨m', hm, w3⟩ := hN σ3 H3 n3
      exact ⟨m', hm, σ3, H3, I3, w3⟩
    | brk => exact q3
    | ret v => exact q3
  | false =>
    rw [if_neg Bool.false_ne_true]
    exact wpAny_execs_nil ⟨σ1, H2, I2, q2⟩
end

/-! ### what a loop or a comprehension walks -/
/-- at turn i: it yields x (the heap may grow), or it stops -/
structure It where
  go : Nat → Hp → Prop
  yld : Nat → Hp → V → Hp → Prop
  stop : Nat → Hp → Prop
/-- the iterator's own objects may turn: they are not the frame's, not pinned, younger than the entry (or a comprehension's own) -/
def FpOk (X : Cx) (pins : List (Addr × Obj)) (H : Hp) (b : Addr) : Prop :=
  H b = none ∧ b ≠ X.env.locals ∧ b ∉ X.fs ∧ (b ∈ X.ex ∨ X.s₀.heap.objs.size ≤ b) ∧ (∀ x c, X.env.cells.lookup x = some c → c ≠ b) ∧ ∀ p ∈ X.pn ++ pins, p.1 ≠ b
theorem Inv.fpOk {X : Cx} {pins : List (Addr × Obj)} {σ : St} {H H' : Hp} {s : Shared} {b : Addr} (I : Inv X pins σ H s) (hb : s.heap.objs.size ≤ b) (hn : H' b = none) : FpOk X pins H' b := by
  refine ⟨hn, Nat.ne_of_gt (Nat.lt_of_lt_of_le I.lt hb), I.nofs hb, .inr (Nat.le_trans I.sz hb), fun x c e z => ?_, fun p hp z => ?_⟩
  · obtain ⟨v, q⟩ := I.cell x c e
    exact absurd (Nat.lt_of_lt_of_le q.lt (by rw [z]; exact hb)) (Nat.lt_irrefl _)
  · exact absurd (Nat.lt_of_lt_of_le (Heap.lt_size (I.pin p hp).1) (by rw [z]; exact hb)) (Nat.lt_irrefl _)
structure Turn (P : Program) (w : World) (K : PySem.W.Frag) (tg : Expr) (J : It) (fp : List Addr) (it : Addr) (tn : Nat → Heap → Prop) : Prop where
  mem : it ∈ fp
  obj : ∀ i h, tn i h → ∀ b ∈ fp, ∃ o, h.get? b = some o ∧ ∀ v, o.data ≠ .cell v
  keep : ∀ i h h', tn i h → (∀ b ∈ fp, ∀ o, h.get? b = some o → h'.get? b = some o) → tn i h'
  item : ∀ (X : Cx), X.prog = P → X.w = w → X.K = K → X.calm = true → ∀ (i : Nat) (pins : List (Addr × Obj)) (s : Shared) (σ : St) (H : Hp) (E : Value → Shared → Prop), Inv X pins σ H s → (∀ b ∈ fp, FpOk X pins H b) → tn i s.heap → J.go i H →
    wpAny (model P w) X.A (pyNext (.ref it)) (fun r s1 => ∃ u, r = some u ∧
      wpAny (model P w) X.A (letOwnedTupleGo tg (.ref it) u) (fun _ s2 => ∃ x H', Inv X pins σ H' s2 ∧ RelV x u ∧ J.yld i H x H' ∧ tn (i + 1) s2.heap ∧ ∀ b ∈ fp, H' b = none) E s1) E s
  done : ∀ (X : Cx), X.prog = P → X.w = w → X.K = K → X.calm = true → ∀ (i : Nat) (pins : List (Addr × Obj)) (s : Shared) (σ : St) (H : Hp) (E : Value → Shared → Prop), Inv X pins σ H s → (∀ b ∈ fp, FpOk X pins H b) → tn i s.heap → J.stop i H →
    wpAny (model P w) X.A (pyNext (.ref it)) (fun r s1 => r = none ∧ Inv X pins σ H s1) E s
  self : ∀ (A : Around) (i : Nat) (s : Shared) (Q : Value → Shared → Prop) (E : Value → Shared → Prop), tn i s.heap → Q (.ref it) s → wpAny (model P w) A (pyIter (.ref it)) Q E s
abbrev TI := St → Hp → (It → Hp → Prop) → Prop
/-- an iterator has come -/
def PIE (X : Cx) (pins : List (Addr × Obj)) (σ : St) (tg : Expr) (R : It → Hp → Prop) (itv : Value) (s2 : Shared) : Prop :=
  ∃ (it : Addr) (fp : List Addr) (tn : Nat → Heap → Prop) (J : It) (H' : Hp), itv = .ref it ∧ Inv X pins σ H' s2 ∧ Turn X.prog X.w X.K tg J fp it tn ∧ tn 0 s2.heap ∧ (∀ b ∈ fp, FpOk X pins H' b) ∧ R J H'
def PI (X : Cx) (tg iter : Expr) (wi : TI) : Prop :=
  ∀ (pins : List (Addr × Obj)) (s : Shared) (σ : St) (H : Hp) (R : It → Hp → Prop), Inv X pins σ H s → wi σ H R →
    wpAny (model X.prog X.w) X.A (eval iter X.env) (fun v s1 => wpAny (model X.prog X.w) X.A (pyIter v) (PIE X pins σ tg R) X.xe s1) X.xe s

/-- the step ahead of the store is nothing for an iterator that keeps no tuple -/
theorem go_of {M : Model} {A : Around} {E : Value → Shared → Prop} {s : Shared} {tg : Expr} {it : Addr} {u : Value} {o : Obj} {n : String} {vs : Array Value} {Q : Unit → Shared → Prop} (ho : s.heap.get? it = some o) (hc : o.cls = .type n) (hd : o.data = .fields vs)
    (hn : ["enumerate", "zip", "dict_itemiterator", "dict_reverseitemiterator", "odict_iterator", "itertools.zip_longest", "itertools.pairwise"].contains n = false) (hQ : Q () s) : wpAny M A (letOwnedTupleGo tg (.ref it) u) Q E s := by
  unfold letOwnedTupleGo
  cases tg <;> first
    | exact wpAny_pure hQ
    | (cases u <;> first
        | exact wpAny_pure hQ
        | (refine wpAny_bind (wpAny_load ho ?_)
           rw [hc, hd]
           show wpAny M A (if (["enumerate", "zip", "dict_itemiterator", "dict_reverseitemiterator", "odict_iterator", "itertools.zip_longest", "itertools.pairwise"].contains n && vs[0]? == some (rawInt _)) = true then _ else _) Q E s
           rw [if_neg (by intro h; rw [hn, Bool.false_and] at h; cases h)]
           exact wpAny_pure hQ))

/-- the list at a, as it stands at each turn (a loop may append to it) -/
def Itl (K : PySem.W.Frag) (a : Addr) : It :=
  ⟨fun i H => ∃ xs x, SqL K H a xs ∧ xs[i]? = some x, fun i H x H' => H' = H ∧ ∀ xs, SqL K H a xs → xs[i]? = some x, fun i H => ∃ xs, SqL K H a xs ∧ xs.length ≤ i⟩
def Itt (K : PySem.W.Frag) (a : Addr) : It :=
  ⟨fun i H => ∃ xs x, SqT K H a xs ∧ xs[i]? = some x, fun i H x H' => H' = H ∧ ∀ xs, SqT K H a xs → xs[i]? = some x, fun i H => ∃ xs, SqT K H a xs ∧ xs.length ≤ i⟩
/-- lo, lo + 1, .. (n of them) -/
def Itr (lo : Int) (n : Nat) : It := ⟨fun i _ => i < n, fun i H x H' => H' = H ∧ x = .int (lo + i), fun i _ => n ≤ i⟩
theorem turn_list {P : Program} {w : World} {K : PySem.W.Frag} {tg : Expr} (a it : Addr) : Turn P w K tg (Itl K a) [it] it (fun i h => h.IsListIter it a i) where
  mem := by simp
  obj := fun i h st b hb => by
    have e : b = it := by simpa using hb
    subst e
    obtain ⟨o, e, c, d⟩ := st
    exact ⟨o, e, fun v z => by rw [d] at z; cases z⟩
  keep := fun i h h' st k => st.at fun o e => k it (by simp) o e
  item := by
    intro X hP hw hK hc i pins s σ H E I hf st hg
    subst hP hw hK
    obtain ⟨xs, x, hq, hx⟩ := hg
    obtain ⟨its, rv, p, hz⟩ := I.list hq
    obtain ⟨u, hu, ru⟩ := rv.get hx
    obtain ⟨f0, f1, f2, f3, f4, f5⟩ := hf it (by simp)
    refine wpAny_pyNext_list_item st p.isList (x := u) (by simpa using hu) fun h' st' sb => ?_
    have I1 : Inv X pins σ H { s with heap := h' } := I.turned (t' := s.toks) (fun b o hb e => (sb.2 b hb).trans e) f0 f1 f3 f4 f5
    obtain ⟨o, e, c, d⟩ := id st'
    exact ⟨u, rfl, go_of (s := { s with heap := h' }) e c d (by decide) ⟨x, H, I1, ru, ⟨rfl, fun ys hy => by rw [I.list_inj hy hq]; exact hx⟩, st', fun b hb => (hf b hb).1⟩⟩
  done := by
    intro X hP hw hK hc i pins s σ H E I hf st hg
    subst hP hw hK
    obtain ⟨xs, hq, hx⟩ := hg
    obtain ⟨its, rv, p, hz⟩ := I.list hq
    obtain ⟨f0, f1, f2, f3, f4, f5⟩ := hf it (by simp)
    have hl := rv.length
    exact wpAny_pyNext_list_end (I.ok.hd hc) st p.isList (by simp; omega) fun h' eb => ⟨rfl, I.turned (t' := s.toks) (fun b o hb e => eb b o hb e) f0 f1 f3 f4 f5⟩
  self := fun _ _ _ _ _ st h => wpAny_pyIter_listiter st h
theorem turn_range {P : Program} {w : World} {K : PySem.W.Frag} {tg : Expr} (it : Addr) (lo : Int) (n : Nat) : Turn P w K tg (Itr lo n) [it] it (fun i h => IsRangeIter h it (lo + (i : Nat) * 1) ((n : Int) - (i : Nat)) 1) where
  mem := by simp
  obj := fun i h st b hb => by
    have e : b = it := by simpa using hb
    subst e
    exact ⟨_, st, fun v z => by
      have z' : Data.fields _ = Data.cell v := z
      cases z'⟩
  keep := fun i h h' st k => k it (by simp) _ st
  item := by
    intro X hP hw hK hc i pins s σ H E I hf st hg
    subst hP hw hK
    obtain ⟨f0, f1, f2, f3, f4, f5⟩ := hf it (by simp)
    have W := Walks.range (prog := X.prog) (w := X.w) (I.ok.hd hc) it lo 1 n
    refine W.item i s _ _ hg st fun v h' tk hv st' kk => ?_
    obtain ⟨t, rfl⟩ := hv
    have I1 : Inv X pins σ H { s with heap := h', toks := tk } := I.turned (fun b o hb e => kk b o (by simpa using hb) e) f0 f1 f3 f4 f5
    refine ⟨_, rfl, go_of (s := { s with heap := h', toks := tk }) (n := "range_iterator") st' rfl rfl (by decide) ⟨.int (lo + i), H, I1, ⟨t, ?_⟩, ⟨rfl, rfl⟩, st', fun b hb => (hf b hb).1⟩⟩
    rw [Int.mul_one]
  done := by
    intro X hP hw hK hc i pins s σ H E I hf st hg
    subst hP hw hK
    obtain ⟨f0, f1, f2, f3, f4, f5⟩ := hf it (by simp)
    exact wpAny_pyNext_range_end (I.ok.hd hc) st (by have : n ≤ i := hg; omega) fun h' eb => ⟨rfl, I.turned (t' := s.toks) (fun b o hb e => eb b o hb e) f0 f1 f3 f4 f5⟩
  self := fun _ _ _ _ _ st h => wpAny_pyIter_rangeiter st h
end L2

namespace L2
open PySem PySem.Spec PyProof.Rows
section
variable {X : Cx} {tg : Expr}
def iList (K : PySem.W.Frag) (tl : TE) : TI := fun σ H R => tl σ H fun x H1 => ∃ a, x = .ref a ∧ (∃ xs, SqL K H1 a xs) ∧ R (Itl K a) H1
def iTup (K : PySem.W.Frag) (tl : TE) : TI := fun σ H R => tl σ H fun x H1 => ∃ a, x = .ref a ∧ (∃ xs, SqT K H1 a xs) ∧ R (Itt K a) H1
theorem pi_list {l : Expr} {tl : TE} (hl : PE X l tl) : PI X tg l (iList X.K tl) := by
  intro pins s σ H R I h
  refine thn (hl pins s σ H _ I h) fun v s1 ⟨x, H1, I1, r1, q1⟩ => ?_
  obtain ⟨a, e, ⟨xs, hq⟩, q⟩ := q1
  subst e
  cases r1
  obtain ⟨its, rv, p, hz⟩ := I1.list hq
  refine wpAny_pyIter_list p.isList ?_
  refine ⟨s1.heap.objs.size, [s1.heap.objs.size], _, _, H1, rfl, I1.kept (t' := s1.toks) fun b o e => Heap.get?_push_of_some _ e, turn_list a _, ⟨_, Heap.get?_push_size _ rfl, rfl, rfl⟩, fun b hb => ?_, q⟩
  have e : b = s1.heap.objs.size := by simpa using hb
  subst e
  exact I1.fpOk (Nat.le_refl _) (I1.hok.fresh (Nat.le_refl _))
/-- a range object just made, walked -/
theorem range_it {pins : List (Addr × Obj)} {σ : St} {H : Hp} {s : Shared} {R : It → Hp → Prop} {E : Value → Shared → Prop} {lo hi : Int} {t u v : Tok} {tk : Nat} (I : Inv X pins σ H s) (h1 : -(2 ^ 62) ≤ lo) (h2 : lo < 2 ^ 62) (h3 : -(2 ^ 62) ≤ hi) (h4 : hi < 2 ^ 62)
    (q : R (Itr lo (hi - lo).toNat) H) : wpAny (model X.prog X.w) X.A (pyIter (.ref s.heap.objs.size)) (PIE X pins σ tg R) E { s with heap := s.heap.push { cls := .type "range", data := .fields #[.int lo t, .int hi u, .int 1 v] }, toks := tk } := by
  refine wpAny_pyIter_range (IsRange.new ..) (small_one h1 h2 h3 h4) ?_
  have I1 : Inv X pins σ H { s with heap := s.heap.push { cls := .type "range", data := .fields #[.int lo t, .int hi u, .int 1 v] }, toks := tk } := I.kept fun b o e => Heap.get?_push_of_some _ e
  refine ⟨(s.heap.push { cls := .type "range", data := .fields #[.int lo t, .int hi u, .int 1 v] }).objs.size, [(s.heap.push { cls := .type "range", data := .fields #[.int lo t, .int hi u, .int 1 v] }).objs.size], _, _, H, rfl,
    I1.kept (t' := tk) fun b o e => Heap.get?_push_of_some _ e, turn_range _ lo (hi - lo).toNat, ?_, fun b hb => ?_, q⟩
  · have e1 : lo + ((0 : Nat) : Int) * 1 = lo := by simp
    have e2 : (((hi - lo).toNat : Nat) : Int) - ((0 : Nat) : Int) = Builtin.Range.rangeSize lo hi 1 := by rw [rangeSize_one]; split <;> omega
    show IsRangeIter _ _ (lo + ((0 : Nat) : Int) * 1) ((((hi - lo).toNat : Nat) : Int) - ((0 : Nat) : Int)) 1
    rw [e1, e2]
    exact Heap.get?_push_size _ rfl
  · have e : b = (s.heap.push { cls := .type "range", data := .fields #[.int lo t, .int hi u, .int 1 v] }).objs.size := by simpa using hb
    subst e
    exact I1.fpOk (Nat.le_refl _) (I1.hok.fresh (Nat.le_refl _))
def iRng1 (ta : TA) : TI := fun σ H R => ta σ H fun vs H1 => ∃ j : Int, vs = [.int j] ∧ -(2 ^ 62) ≤ j ∧ j < 2 ^ 62 ∧ R (Itr 0 j.toNat) H1
def iRng2 (ta : TA) : TI := fun σ H R => ta σ H fun vs H1 => ∃ i j : Int, vs = [.int i, .int j] ∧ (-(2 ^ 62) ≤ i ∧ i < 2 ^ 62 ∧ -(2 ^ 62) ≤ j ∧ j < 2 ^ 62) ∧ R (Itr i (j - i).toNat) H1
theorem pi_range1 {a : Expr} {ta : TA} {p pos : Pos} (hg : Gl X "range") (hm : X.mg "range" = none) (ha : PA X [a] ta) (hs : starEach [a] X.env = [(false, eval a X.env)] := by rfl) : PI X tg (.Call (.Name "range" p) [a] [] pos) (iRng1 ta) := by
  intro pins s σ H R I h
  refine Call_ (ld_blt I hg hm boot_range (PyProof.Rows.callWith_type1 (thn (ha pos pins s σ H _ I h) fun us s1 ⟨vs, H1, I1, r1, q1⟩ => ?_) hs rfl))
  obtain ⟨j, e, q1, q2, q⟩ := q1
  subst e
  cases r1 with
  | cons r rr =>
    cases rr
    obtain ⟨t, rfl⟩ := r
    exact call_range_1 (range_it I1 (by omega) (by omega) q1 q2 (by simpa using q))
/-! ### for -/
/-- W: the invariant by the turn and a measure; N: what the body is to reach -/
def tFor (wi : TI) (g : TG) (tb : TS) : TS := fun D σ H => wi σ H fun J H1 => ∃ W : Nat → Nat → St → Hp → Prop, (∃ m, W 0 m σ H1) ∧ ∀ i m σ H, W i m σ H →
  (J.stop i H ∧ D.nx σ H) ∨ (J.go i H ∧ ∃ N : St → Hp → Prop, (∀ σ' H', N σ' H' → ∃ m', m' < m ∧ W (i + 1) m' σ' H') ∧ ∀ x H', J.yld i H x H' → g x σ H' fun σ2 H2 => tb { D with nx := N, ct := N, bk := D.nx } σ2 H2)
/-- the records at fp as they stand -/
def pinsAt (fp : List Addr) (h : Heap) : List (Addr × Obj) := fp.filterMap fun b => (h.get? b).map fun o => (b, o)
theorem mem_pinsAt {fp : List Addr} {h : Heap} {b : Addr} {o : Obj} (hb : b ∈ fp) (e : h.get? b = some o) : (b, o) ∈ pinsAt fp h := List.mem_filterMap.mpr ⟨b, hb, by rw [e]; rfl⟩
theorem of_pinsAt {fp : List Addr} {h : Heap} {p : Addr × Obj} (hp : p ∈ pinsAt fp h) : p.1 ∈ fp ∧ h.get? p.1 = some p.2 := by
  obtain ⟨b, hb, e⟩ := List.mem_filterMap.mp hp
  cases q : h.get? b with
  | none => rw [q] at e; cases e
  | some o =>
    rw [q] at e
    have e' : (b, o) = p := Option.some.inj e
    subst e'
    exact ⟨hb, q⟩
theorem Inv.pinned {pins : List (Addr × Obj)} {σ : St} {H : Hp} {s : Shared} {fp : List Addr} (I : Inv X pins σ H s) (hf : ∀ b ∈ fp, FpOk X pins H b) (ho : ∀ b ∈ fp, ∃ o, s.heap.get? b = some o ∧ ∀ v, o.data ≠ .cell v) : Inv X (pins ++ pinsAt fp s.heap) σ H s :=
  I.pins_of fun p hp => (List.mem_append.mp hp).elim (fun z => I.pin p (List.mem_append_right _ z)) fun z => by
    obtain ⟨hb, e⟩ := of_pinsAt z
    obtain ⟨f0, f1, f2, _⟩ := hf p.1 hb
    obtain ⟨o, e', d⟩ := ho p.1 hb
    rw [e] at e'; cases e'
    exact ⟨e, f0, f1, f2, d⟩
theorem Inv.unpinned {pins pl : List (Addr × Obj)} {σ : St} {H : Hp} {s : Shared} (I : Inv X (pins ++ pl) σ H s) : Inv X pins σ H s := I.pins_of fun p hp => I.pin p (List.mem_append_right _ (List.mem_append_left _ hp))
theorem ps_for {iter : Expr} {body : List Stmt} {wi : TI} {g : TG} {tb : TS} {pos : Pos} (hp : PassesOwn (model X.prog X.w) X.A X.env X.xe) (hc : X.calm = true) (hi : PI X tg iter wi) (hg : PG X tg g) (hb : PSs X body tb)
    (hs : ∀ x, foldedSetIterable iter X.env x = pure x := by intro _; rfl) : PS X (.For tg iter body [] pos) (tFor wi g tb) := by
  intro pins s σ H D I h
  refine wpAny_For (thn (hi pins s σ H _ I h) fun v s1 h1 => thn h1 fun itv s2 h2 => ?_) hs
  obtain ⟨it, fp, tn, J, H2, e, I2, T, st2, f2, W, ⟨m0, w0⟩, turn⟩ := h2
  subst e
  -- what stays true of the iterator's objects through the loop
  have stat : ∀ {H' : Hp}, (∀ b ∈ fp, H' b = none) → ∀ b ∈ fp, FpOk X pins H' b := fun hn b hb => ⟨hn b hb, (f2 b hb).2⟩
  refine codeAny_forLoop_any (fun n s' => ∃ i σ' H', Inv X pins σ' H' s' ∧ tn i s'.heap ∧ (∀ b ∈ fp, H' b = none) ∧ W i n σ' H') ?_ m0 ⟨0, σ, H2, I2, st2, fun b hb => (f2 b hb).1, w0⟩
  rintro n s3 ⟨i, σ3, H3, I3, st3, fr3, w3⟩
  rcases turn i n σ3 H3 w3 with ⟨stop, qn⟩ | ⟨go, N, hN, step⟩
  · refine wpAny_passesOwn hp (thn (T.done X rfl rfl rfl hc i pins s3 σ3 H3 X.xe I3 (stat fr3) st3 stop) fun r s4 ⟨hr, I4⟩ => ?_)
    subst hr
    exact wpAny_execs_nil ⟨σ3, H3, I4, qn⟩
  · refine wpAny_passesOwn hp (thn (T.item X rfl rfl rfl hc i pins s3 σ3 H3 X.xe I3 (stat fr3) st3 go) fun r s4 ⟨u, hr, h4⟩ => ?_)
    subst hr
    refine wpAny_passesOwn hp (thn h4 fun _ s5 ⟨x, H5, I5, r5, y5, st5, fr5⟩ => ?_)
    have I5' := I5.pinned (stat fr5) (T.obj _ _ st5)
    refine wpAny_passesOwn hp (thn (hg _ s5 σ3 H5 x u _ I5' r5 (step x H5 y5)) fun _ s6 ⟨σ6, H6, I6, q6⟩ => ?_)
    refine wpAny_passesOwn hp (thn (hb _ s6 σ6 H6 _ I6 q6) fun f s7 q7 => ?_)
    have again : ∀ {σ7 : St} {H7 : Hp}, Inv X (pins ++ pinsAt fp s5.heap) σ7 H7 s7 → N σ7 H7 → ∃ m, m < n ∧ ∃ i σ' H', Inv X pins σ' H' s7 ∧ tn i s7.heap ∧ (∀ b ∈ fp, H' b = none) ∧ W i m σ' H' := fun {σ7 H7} I7 n7 => by
      obtain ⟨m', hm, w7⟩ := hN σ7 H7 n7
      refine ⟨m', hm, i + 1, σ7, H7, I7.unpinned, T.keep _ _ _ st5 fun b hb o e => (I7.pin (b, o) (List.mem_append_right _ (List.mem_append_right _ (mem_pinsAt hb e)))).1, fun b hb => ?_, w7⟩
      obtain ⟨o, e, d⟩ := T.obj _ _ st5 b hb
      exact (I7.pin (b, o) (List.mem_append_right _ (List.mem_append_right _ (mem_pinsAt hb e)))).2.1
    cases f with
    | next => obtain ⟨σ7, H7, I7, n7⟩ := q7; exact again I7 n7
    | cont => obtain ⟨σ7, H7, I7, n7⟩ := q7; exact again I7 n7
    | brk => obtain ⟨σ7, H7, I7, q7⟩ := q7; exact ⟨σ7, H7, I7.unpinned, q7⟩
    | ret v => obtain ⟨x7, σ7, H7, I7, r7, q7⟩ := q7; exact ⟨x7, σ7, H7, I7.unpinned, r7, q7⟩
end

/-! ### the forms one uses -/
/-- over a list that the body leaves as it is -/
theorem for_list {K : PySem.W.Frag} {a : Addr} {xs : List V} {g : TG} {tb : TS} {D : Ends} {σ : St} {H : Hp} (Pv : Nat → St → Hp → Prop) (h0 : Pv 0 σ H) (hl : ∀ i σ H, i ≤ xs.length → Pv i σ H → SqL K H a xs)
    (hs : ∀ i x σ H, xs[i]? = some x → Pv i σ H → g x σ H fun σ2 H2 => tb { D with nx := Pv (i + 1), ct := Pv (i + 1), bk := D.nx } σ2 H2) (hd : ∀ σ H, Pv xs.length σ H → D.nx σ H) :
    ∃ W : Nat → Nat → St → Hp → Prop, (∃ m, W 0 m σ H) ∧ ∀ i m σ H, W i m σ H →
      ((Itl K a).stop i H ∧ D.nx σ H) ∨ ((Itl K a).go i H ∧ ∃ N : St → Hp → Prop, (∀ σ' H', N σ' H' → ∃ m', m' < m ∧ W (i + 1) m' σ' H') ∧ ∀ x H', (Itl K a).yld i H x H' → g x σ H' fun σ2 H2 => tb { D with nx := N, ct := N, bk := D.nx } σ2 H2) := by
  refine ⟨fun i m σ H => m = xs.length - i ∧ i ≤ xs.length ∧ Pv i σ H, ⟨xs.length, by simp, Nat.zero_le _, h0⟩, ?_⟩
  rintro i m σ H ⟨rfl, hi, p⟩
  have q := hl i σ H hi p
  by_cases hlt : i < xs.length
  · refine .inr ⟨⟨xs, xs[i], q, by simp [hlt]⟩, Pv (i + 1), fun σ' H' p' => ⟨xs.length - (i + 1), by omega, rfl, hlt, p'⟩, fun x H' y => ?_⟩
    obtain ⟨e, y⟩ := y
    subst e
    exact hs i x σ _ (y xs q) p
  · have e : i = xs.length := by omega
    subst e
    exact .inl ⟨⟨xs, q, Nat.le_refl _⟩, hd σ H p⟩
theorem for_range {lo : Int} {n : Nat} {g : TG} {tb : TS} {D : Ends} {σ : St} {H : Hp} (Pv : Nat → St → Hp → Prop) (h0 : Pv 0 σ H)
    (hs : ∀ i σ H, i < n → Pv i σ H → g (.int (lo + i)) σ H fun σ2 H2 => tb { D with nx := Pv (i + 1), ct := Pv (i + 1), bk := D.nx } σ2 H2) (hd : ∀ σ H, Pv n σ H → D.nx σ H) :
    ∃ W : Nat → Nat → St → Hp → Prop, (∃ m, W 0 m σ H) ∧ ∀ i m σ H, W i m σ H →
      ((Itr lo n).stop i H ∧ D.nx σ H) ∨ ((Itr lo n).go i H ∧ ∃ N : St → Hp → Prop, (∀ σ' H', N σ' H' → ∃ m', m' < m ∧ W (i + 1) m' σ' H') ∧ ∀ x H', (Itr lo n).yld i H x H' → g x σ H' fun σ2 H2 => tb { D with nx := N, ct := N, bk := D.nx } σ2 H2) := by
  refine ⟨fun i m σ H => m = n - i ∧ i ≤ n ∧ Pv i σ H, ⟨n, by simp, Nat.zero_le _, h0⟩, ?_⟩
  rintro i m σ H ⟨rfl, hi, p⟩
  by_cases hlt : i < n
  · refine .inr ⟨hlt, Pv (i + 1), fun σ' H' p' => ⟨n - (i + 1), by omega, rfl, hlt, p'⟩, fun x H' y => ?_⟩
    obtain ⟨e, y⟩ := y
    subst e y
    exact hs i σ _ hlt p
  · have e : i = n := by omega
    subst e
    exact .inl ⟨Nat.le_refl _, hd σ H p⟩
end L2

namespace L2
open PySem PySem.Spec PyProof.Rows

abbrev R2 := V → V → Hp → VK → Prop
/-- a two-place operation on values: f is binaryOp op, inplaceOp op or compareOp op -/
def OpR (X : Cx) (f : Value → Value → Sem Value) (r : R2) : Prop :=
  ∀ (pins : List (Addr × Obj)) (s : Shared) (σ : St) (H : Hp) (x y : V) (v u : Value) (Q : VK), Inv X pins σ H s → RelV x v → RelV y u → r x y H Q →
    wpAny (model X.prog X.w) X.A (f v u) (EP X pins σ Q) X.xe s
/-- a one-place operation -/
def UnR (X : Cx) (f : Value → Sem Value) (r : V → Hp → VK → Prop) : Prop :=
  ∀ (pins : List (Addr × Obj)) (s : Shared) (σ : St) (H : Hp) (x : V) (v : Value) (Q : VK), Inv X pins σ H s → RelV x v → r x H Q →
    wpAny (model X.prog X.w) X.A (f v) (EP X pins σ Q) X.xe s
/-- a call of a value that is known (a builtin, a type) with values -/
def CallR (X : Cx) (f : Value) (r : List V → Hp → VK → Prop) : Prop :=
  ∀ (pins : List (Addr × Obj)) (s : Shared) (σ : St) (H : Hp) (xs : List V) (us : List Value) (Q : VK), Inv X pins σ H s → Vals xs us → r xs H Q →
    wpAny (model X.prog X.w) X.A (call f us) (EP X pins σ Q) X.xe s
/-- a value's truth -/
def TruR (X : Cx) (r : V → Hp → (Bool → Hp → Prop) → Prop) : Prop :=
  ∀ (pins : List (Addr × Obj)) (s : Shared) (σ : St) (H : Hp) (x : V) (v : Value) (Q : Bool → Hp → Prop), Inv X pins σ H s → RelV x v → r x H Q →
    wpAny (model X.prog X.w) X.A (truthy v) (TP X pins σ Q) X.xe s

def tOp (r : R2) (ta tb : TE) : TE := fun σ H Q => ta σ H fun x H1 => tb σ H1 fun y H2 => r x y H2 Q
def tUn (r : V → Hp → VK → Prop) (ta : TE) : TE := fun σ H Q => ta σ H fun x H1 => r x H1 Q
/-- ints in, under C, and a value out -/
def rI (C : Int → Int → Prop) (g : Int → Int → V) : R2 := fun x y H Q => ∃ i j, x = .int i ∧ y = .int j ∧ C i j ∧ Q (g i j) H
def rI0 (g : Int → Int → V) : R2 := fun x y H Q => ∃ i j, x = .int i ∧ y = .int j ∧ Q (g i j) H
def rU (g : Int → V) : V → Hp → VK → Prop := fun x H Q => ∃ i, x = .int i ∧ Q (g i) H

section
variable {X : Cx} {a b c : Expr} {ta tb tc : TE} {pos : Pos}

theorem binT (ha : PE X a ta) (hb : PE X b tb) {pins : List (Addr × Obj)} {s : Shared} {σ : St} {H : Hp} {R : V → V → Hp → Prop} (I : Inv X pins σ H s)
    (h : ta σ H fun x H1 => tb σ H1 fun y H2 => R x y H2) {Q : Value → Shared → Prop} {f : Value → Value → Sem Value}
    (hf : ∀ v u s2 x y H2, Inv X pins σ H2 s2 → RelV x v → RelV y u → R x y H2 → wpAny (model X.prog X.w) X.A (f v u) Q X.xe s2) :
    wpAny (model X.prog X.w) X.A (eval a X.env) (fun v s₁ => wpAny (model X.prog X.w) X.A (eval b X.env) (fun u s₂ => wpAny (model X.prog X.w) X.A (f v u) Q X.xe s₂) X.xe s₁) X.xe s := by
  refine thn (ha pins s σ H _ I h) fun v s1 ⟨x, H1, I1, r1, q1⟩ => ?_
  refine thn (hb pins s1 σ H1 _ I1 q1) fun u s2 ⟨y, H2, I2, r2, q2⟩ => ?_
  exact hf v u s2 x y H2 I2 r1 r2 q2

theorem pe_op {op : Operator} {r : R2} (ho : OpR X (binaryOp op) r) (ha : PE X a ta) (hb : PE X b tb) : PE X (.BinOp a op b pos) (tOp r ta tb) := by
  intro pins s σ H Q I h
  exact wpAny_BinOp (binT ha hb I h fun v u s2 x y H2 I2 rx ry q => ho pins s2 σ H2 x y v u Q I2 rx ry q)
theorem pe_un {op : UnaryOp} {r : V → Hp → VK → Prop} (ho : UnR X (unaryOp op) r) (ha : PE X a ta) : PE X (.UnaryOp op a pos) (tUn r ta) := by
  intro pins s σ H Q I h
  exact UnaryOp_ (thn (ha pins s σ H _ I h) fun v s1 ⟨x, H1, I1, r1, q1⟩ => ho pins s1 σ H1 x v Q I1 r1 q1)
/-! ### ints -/
theorem opI {f : Value → Value → Sem Value} {C : Int → Int → Prop} {g : Int → Int → Int}
    (rule : ∀ (i j : Int) (t u : Tok) (s : Shared) (Q : Value → Shared → Prop) (E : Value → Shared → Prop), C i j → Q (.int (g i j) s.toks) { s with toks := s.toks + 1 } → wpAny (model X.prog X.w) X.A (f (.int i t) (.int j u)) Q E s) :
    OpR X f (rI C fun i j => .int (g i j)) := by
  intro pins s σ H x y v u Q I rx ry h
  obtain ⟨i, j, rfl, rfl, hc, q⟩ := h
  obtain ⟨t, rfl⟩ := rx
  obtain ⟨t', rfl⟩ := ry
  exact rule i j t t' s _ _ hc ⟨.int (g i j), H, I.tok _, ⟨_, rfl⟩, q⟩
theorem opI0 {f : Value → Value → Sem Value} {g : Int → Int → Int}
    (rule : ∀ (i j : Int) (t u : Tok) (s : Shared) (Q : Value → Shared → Prop) (E : Value → Shared → Prop), Q (.int (g i j) s.toks) { s with toks := s.toks + 1 } → wpAny (model X.prog X.w) X.A (f (.int i t) (.int j u)) Q E s) :
    OpR X f (rI0 fun i j => .int (g i j)) := by
  intro pins s σ H x y v u Q I rx ry h
  obtain ⟨i, j, rfl, rfl, q⟩ := h
  obtain ⟨t, rfl⟩ := rx
  obtain ⟨t', rfl⟩ := ry
  exact rule i j t t' s _ _ ⟨.int (g i j), H, I.tok _, ⟨_, rfl⟩, q⟩
theorem opB0 {f : Value → Value → Sem Value} {g : Int → Int → Bool}
    (rule : ∀ (i j : Int) (t u : Tok) (s : Shared) (Q : Value → Shared → Prop) (E : Value → Shared → Prop), Q (.bool (g i j)) s → wpAny (model X.prog X.w) X.A (f (.int i t) (.int j u)) Q E s) :
    OpR X f (rI0 fun i j => .bl (g i j)) := by
  intro pins s σ H x y v u Q I rx ry h
  obtain ⟨i, j, rfl, rfl, q⟩ := h
  obtain ⟨t, rfl⟩ := rx
  obtain ⟨t', rfl⟩ := ry
  exact rule i j t t' s _ _ ⟨.bl (g i j), H, I, rfl, q⟩

def CDiv (i j : Int) : Prop := 0 < j ∧ j < 1073741824
def CDivN (i j : Int) : Prop := j ≠ 0 ∧ j.natAbs < 1073741824
def CPow (i j : Int) : Prop := 0 ≤ j ∧ j ≤ 1000000 ∧ i.natAbs < 2 ^ 64
def CMul (i j : Int) : Prop := (-(2 ^ 64) < i ∧ i < 2 ^ 64) ∨ (-(2 ^ 64) < j ∧ j < 2 ^ 64)
theorem CMul.ok {i j : Int} (h : CMul i j) : IntMulOk i j := by
  rcases h with ⟨h1, h2⟩ | ⟨h1, h2⟩
  · exact .of_left (intBits_le_64 h1 h2)
  · exact .of_right (intBits_le_64 h1 h2)
theorem op_add : OpR X (binaryOp .Add) (rI0 fun i j => .int (i + j)) := opI0 fun _ _ _ _ _ _ _ q => add_int q
theorem op_sub : OpR X (binaryOp .Sub) (rI0 fun i j => .int (i - j)) := opI0 fun _ _ _ _ _ _ _ q => sub_int q
theorem op_mul : OpR X (binaryOp .Mult) (rI CMul fun i j => .int (i * j)) := opI fun _ _ _ _ _ _ _ hc q => mul_int q hc.ok
/-- // by a positive divisor -/
theorem op_fdiv : OpR X (binaryOp .FloorDiv) (rI CDiv fun i j => .int (i / j)) := opI fun i j _ _ _ _ _ hc q => by
  have h1 : (0 : Int) < j := hc.1
  have h2 : j < 1073741824 := hc.2
  exact floordiv_int (by omega) (by rw [Int.fdiv_eq_ediv_of_nonneg i (by omega)]; exact q) (.inl (PyProof.noPylong_small (by omega)))
/-- % by a positive divisor of any size -/
theorem op_mod : OpR X (binaryOp .Mod) (rI (fun _ j => 0 < j) fun i j => .int (i % j)) := opI fun i j _ _ _ _ _ hc q => by
  have h1 : (0 : Int) < j := hc
  exact mod_int' (by omega) (by rw [Int.fmod_eq_emod_of_nonneg i (by omega)]; exact q)
theorem op_pow : OpR X (binaryOp .Pow) (rI CPow fun i j => .int (i ^ j.toNat)) := opI fun _ _ _ _ _ _ _ hc q => pow_int_small hc.1 hc.2.1 hc.2.2 q
theorem unI {f : Value → Sem Value} {g : Int → Int}
    (rule : ∀ (i : Int) (t : Tok) (s : Shared) (Q : Value → Shared → Prop) (E : Value → Shared → Prop), Q (.int (g i) s.toks) { s with toks := s.toks + 1 } → wpAny (model X.prog X.w) X.A (f (.int i t)) Q E s) :
    UnR X f (rU fun i => .int (g i)) := by
  intro pins s σ H x v Q I rx h
  obtain ⟨i, rfl, q⟩ := h
  obtain ⟨t, rfl⟩ := rx
  exact rule i t s _ _ ⟨.int (g i), H, I.tok _, ⟨_, rfl⟩, q⟩
theorem un_neg : UnR X (unaryOp .USub) (rU fun i => .int (-i)) := unI fun _ _ _ _ _ q => neg_int q
/-! ### bools among ints: n += (a < b) -/
end

/-! ### comparisons -/
/-- the scalars that == tells apart as data does -/
def scal : V → V → Bool
  | .non, .non => true | .non, .int _ => true | .int _, .non => true | .non, .bl _ => true | .bl _, .non => true | .non, .str _ => true | .str _, .non => true
  | .int _, .int _ => true | .bl _, .bl _ => true | .str _, .str _ => true | .byt _, .byt _ => true
  | .int _, .str _ => true | .str _, .int _ => true | .bl _, .str _ => true | .str _, .bl _ => true
  | _, _ => false
def rEq : R2 := fun x y H Q => scal x y = true ∧ Q (.bl (decide (x = y))) H
def rNe : R2 := fun x y H Q => scal x y = true ∧ Q (.bl (!decide (x = y))) H

theorem dec_int {i j : Int} : decide (V.int i = V.int j) = (i == j) := by
  rw [Bool.eq_iff_iff]
  simp
theorem dec_bl {i j : Bool} : decide (V.bl i = V.bl j) = (i == j) := by
  rw [Bool.eq_iff_iff]
  simp
theorem dec_str {i j : Str} : decide (V.str i = V.str j) = (i == j) := by
  rw [Bool.eq_iff_iff]
  simp
theorem dec_byt {i j : Array UInt8} : decide (V.byt i = V.byt j) = (i.toList == j.toList) := by
  rw [Bool.eq_iff_iff]
  cases i
  cases j
  simp

section
variable {X : Cx} {a b c : Expr} {ta tb tc : TE} {pos : Pos}
theorem fin_bl {pins : List (Addr × Obj)} {σ : St} {H : Hp} {s : Shared} {Q : VK} {k k' : Bool} (I : Inv X pins σ H s) (q : Q (.bl k) H) (e : k = k') : EP X pins σ Q (.bool k') s := by
  subst e
  exact ⟨.bl k, H, I, rfl, q⟩
theorem op_eq : OpR X (compareOp .Eq) rEq := by
  intro pins s σ H x y v u Q I rx ry h
  obtain ⟨hs, q⟩ := h
  cases x with
  | non =>
    cases rx
    cases y with
    | non => cases ry; exact PySem.EqNone.eq_none_none (fin_bl I q (by simp))
    | bl j => cases ry; exact PySem.EqNone.eq_none_bool (fin_bl I q (by simp))
    | int j => obtain ⟨t', rfl⟩ := ry; exact PySem.EqNone.eq_none_int (fin_bl I q (by simp))
    | str j => obtain ⟨t', rfl⟩ := ry; exact PySem.EqNone.eq_none_str (fin_bl I q (by simp))
    | _ => exact absurd (show false = true from hs) Bool.false_ne_true
  | bl i =>
    cases rx
    cases y with
    | non => cases ry; exact PySem.EqNone.eq_bool_none (fin_bl I q (by simp))
    | bl j => cases ry; exact eq_bool (fin_bl I q dec_bl)
    | str j => obtain ⟨t', rfl⟩ := ry; exact PySem.EqMixed.eq_bool_str (fin_bl I q (by simp))
    | _ => exact absurd (show false = true from hs) Bool.false_ne_true
  | int i =>
    obtain ⟨t, rfl⟩ := rx
    cases y with
    | non => cases ry; exact PySem.EqNone.eq_int_none (fin_bl I q (by simp))
    | int j => obtain ⟨t', rfl⟩ := ry; exact eq_int (fin_bl I q dec_int)
    | str j => obtain ⟨t', rfl⟩ := ry; exact PySem.EqMixed.eq_int_str (fin_bl I q (by simp))
    | _ => exact absurd (show false = true from hs) Bool.false_ne_true
  | str i =>
    obtain ⟨t, rfl⟩ := rx
    cases y with
    | non => cases ry; exact PySem.EqNone.eq_str_none (fin_bl I q (by simp))
    | bl j => cases ry; exact PySem.EqMixed.eq_str_bool (fin_bl I q (by simp))
    | int j => obtain ⟨t', rfl⟩ := ry; exact PySem.EqMixed.eq_str_int (fin_bl I q (by simp))
    | str j => obtain ⟨t', rfl⟩ := ry; exact eq_str (fin_bl I q dec_str)
    | _ => exact absurd (show false = true from hs) Bool.false_ne_true
  | byt i =>
    obtain ⟨t, rfl⟩ := rx
    cases y with
    | byt j => obtain ⟨t', rfl⟩ := ry; exact PySem.W.eq_bytes (fin_bl I q dec_byt)
    | _ => exact absurd (show false = true from hs) Bool.false_ne_true
  | _ => cases y <;> exact absurd (show false = true from hs) Bool.false_ne_true
theorem op_ne : OpR X (compareOp .NotEq) rNe := by
  intro pins s σ H x y v u Q I rx ry h
  obtain ⟨hs, q⟩ := h
  cases x with
  | non =>
    cases rx
    cases y with
    | non => cases ry; exact PySem.EqNone.ne_none_none (fin_bl I q (by simp))
    | bl j => cases ry; exact PySem.EqNone.ne_none_bool (fin_bl I q (by simp))
    | int j => obtain ⟨t', rfl⟩ := ry; exact PySem.EqNone.ne_none_int (fin_bl I q (by simp))
    | str j => obtain ⟨t', rfl⟩ := ry; exact PySem.EqNone.ne_none_str (fin_bl I q (by simp))
    | _ => exact absurd (show false = true from hs) Bool.false_ne_true
  | bl i =>
    cases rx
    cases y with
    | non => cases ry; exact PySem.EqNone.ne_bool_none (fin_bl I q (by simp))
    | bl j => cases ry; exact ne_bool (fin_bl I q (congrArg not dec_bl))
    | str j => obtain ⟨t', rfl⟩ := ry; exact PySem.EqMixed.ne_bool_str (fin_bl I q (by simp))
    | _ => exact absurd (show false = true from hs) Bool.false_ne_true
  | int i =>
    obtain ⟨t, rfl⟩ := rx
    cases y with
    | non => cases ry; exact PySem.EqNone.ne_int_none (fin_bl I q (by simp))
    | int j => obtain ⟨t', rfl⟩ := ry; exact ne_int (fin_bl I q (congrArg not dec_int))
    | str j => obtain ⟨t', rfl⟩ := ry; exact PySem.EqMixed.ne_int_str (fin_bl I q (by simp))
    | _ => exact absurd (show false = true from hs) Bool.false_ne_true
  | str i =>
    obtain ⟨t, rfl⟩ := rx
    cases y with
    | non => cases ry; exact PySem.EqNone.ne_str_none (fin_bl I q (by simp))
    | bl j => cases ry; exact PySem.EqMixed.ne_str_bool (fin_bl I q (by simp))
    | int j => obtain ⟨t', rfl⟩ := ry; exact PySem.EqMixed.ne_str_int (fin_bl I q (by simp))
    | str j => obtain ⟨t', rfl⟩ := ry; exact ne_str (fin_bl I q (congrArg not dec_str))
    | _ => exact absurd (show false = true from hs) Bool.false_ne_true
  | byt i =>
    obtain ⟨t, rfl⟩ := rx
    cases y with
    | byt j => obtain ⟨t', rfl⟩ := ry; exact PySem.W.ne_bytes (fin_bl I q (congrArg not dec_byt))
    | _ => exact absurd (show false = true from hs) Bool.false_ne_true
  | _ => cases y <;> exact absurd (show false = true from hs) Bool.false_ne_true

theorem op_lt : OpR X (compareOp .Lt) (rI0 fun i j => .bl (decide (i < j))) := opB0 fun _ _ _ _ _ _ _ q => lt_int q
theorem op_le : OpR X (compareOp .LtE) (rI0 fun i j => .bl (decide (i ≤ j))) := opB0 fun _ _ _ _ _ _ _ q => le_int q
theorem op_gt : OpR X (compareOp .Gt) (rI0 fun i j => .bl (decide (j < i))) := opB0 fun _ _ _ _ _ _ _ q => gt_int q
/-- is None, is not None: the right side a value none -/
theorem op_isN : OpR X (compareOp .Is) (fun x y H Q => y = .non ∧ Q (.bl (decide (x = .non))) H) := by
  intro pins s σ H x y v u Q I rx ry h
  obtain ⟨rfl, q⟩ := h
  cases ry
  refine is_none_gen (fin_bl I q ?_)
  cases x <;> first
    | (cases rx; rfl)
    | (obtain ⟨t, rfl⟩ := rx; rfl)
theorem op_notN : OpR X (compareOp .IsNot) (fun x y H Q => y = .non ∧ Q (.bl (!decide (x = .non))) H) := by
  intro pins s σ H x y v u Q I rx ry h
  obtain ⟨rfl, q⟩ := h
  cases ry
  refine isnot_none_gen (fin_bl I q ?_)
  cases x <;> first
    | (cases rx; rfl)
    | (obtain ⟨t, rfl⟩ := rx; rfl)

/-- is, is not of two objects that are tracked lists or instances -/
def isObj : HO → Bool
  | .lst _ => true
  | .ins _ _ _ => true
  | _ => false
/-- two rules for one operation: by cases -/
theorem OpR.or {f : Value → Value → Sem Value} {r r' : R2} (h : OpR X f r) (h' : OpR X f r') : OpR X f (fun x y H Q => r x y H Q ∨ r' x y H Q) := by
  intro pins s σ H x y v u Q I rx ry q
  rcases q with q | q
  · exact h pins s σ H x y v u Q I rx ry q
  · exact h' pins s σ H x y v u Q I rx ry q

theorem nomark (b : Expr) {op : CmpOp} (h : op ≠ .In := by decide) (h2 : op ≠ .NotIn := by decide) : behindInMarks op b = false := by
  have e1 : (op == CmpOp.In) = false := by cases op <;> first | rfl | exact absurd rfl h
  have e2 : (op == CmpOp.NotIn) = false := by cases op <;> first | rfl | exact absurd rfl h2
  cases b <;> simp [behindInMarks, e1, e2]
/-- a comparison as a value; hm: nomark b, or (for in, not in) by with_unfolding_all rfl -/
theorem pe_cmpR {op : CmpOp} {r : R2} (ho : OpR X (compareOp op) r) (ha : PE X a ta) (hb : PE X b tb) (hm : behindInMarks op b = false) : PE X (.Compare a [op] [b] pos) (tOp r ta tb) := by
  intro pins s σ H Q I h
  exact wpAny_Compare1 (binT ha hb I h fun v u s2 x y H2 I2 rx ry q => ho pins s2 σ H2 x y v u Q I2 rx ry q) hm
/-- a reading of a value as a test -/
def tTest (t : TE) : TT := fun σ H Q => t σ H fun x H' => ∃ k, x = .bl k ∧ Q k H'
theorem pt_cmpR {op : CmpOp} {r : R2} (ho : OpR X (compareOp op) r) (ha : PE X a ta) (hb : PE X b tb) (hm : behindInMarks op b = false) : PT X (.Compare a [op] [b] pos) (tTest (tOp r ta tb)) := by
  intro pins s σ H Q I h
  refine wpAny_isTrue_Compare1 (thn (ha pins s σ H _ I h) fun v s1 ⟨x, H1, I1, r1, q1⟩ => thn (hb pins s1 σ H1 _ I1 q1) fun u s2 ⟨y, H2, I2, r2, q2⟩ =>
    thn (ho pins s2 σ H2 x y v u _ I2 r1 r2 q2) fun c s3 ⟨z, H3, I3, r3, k, e, q3⟩ => ?_) hm
  subst e
  cases r3
  exact wpAny_truthy_bool ⟨H3, I3, q3⟩
/-- a op1 b op2 c -/
def tChain (r r' : R2) (ta tb tc : TE) : TE := fun σ H Q => ta σ H fun x H1 => tb σ H1 fun y H2 => r x y H2 fun z H3 => ∃ k, z = .bl k ∧
  (if k = true then tc σ H3 fun w' H4 => r' y w' H4 Q else Q (.bl false) H3)
theorem pe_chain {op op' : CmpOp} {r r' : R2} (ho : OpR X (compareOp op) r) (ho' : OpR X (compareOp op') r') (ha : PE X a ta) (hb : PE X b tb) (hc : PE X c tc)
    (hm : lastMarks [op, op'] [b, c] = false := by with_unfolding_all rfl) : PE X (.Compare a [op, op'] [b, c] pos) (tChain r r' ta tb tc) := by
  intro pins s σ H Q I h
  refine Compare_chain (thn (ha pins s σ H _ I h) fun v s1 ⟨x, H1, I1, r1, q1⟩ => chain_link (thn (hb pins s1 σ H1 _ I1 q1) fun u s2 ⟨y, H2, I2, r2, q2⟩ =>
    thn (ho pins s2 σ H2 x y v u _ I2 r1 r2 q2) fun d s3 ⟨z, H3, I3, r3, k, e, q3⟩ => ?_)) hm
  subst e
  cases r3
  refine wpAny_truthy_bool ?_
  cases k with
  | false => exact ite_ff ⟨.bl false, H3, I3, rfl, q3⟩
  | true => exact ite_tt (chain_last (thn (hc pins s3 σ H3 _ I3 q3) fun w' s4 ⟨z', H4, I4, r4, q4⟩ => ho' pins s4 σ H4 y z' u w' Q I4 r2 r4 q4))
theorem pt_chain {op op' : CmpOp} {r r' : R2} (ho : OpR X (compareOp op) r) (ho' : OpR X (compareOp op') r') (ha : PE X a ta) (hb : PE X b tb) (hc : PE X c tc)
    (hm : lastMarks [op, op'] [b, c] = false := by with_unfolding_all rfl) : PT X (.Compare a [op, op'] [b, c] pos) (tTest (tChain r r' ta tb tc)) := by
  intro pins s σ H Q I h
  refine isTrue_chain (thn (ha pins s σ H _ I h) fun v s1 ⟨x, H1, I1, r1, q1⟩ => test_link (thn (hb pins s1 σ H1 _ I1 q1) fun u s2 ⟨y, H2, I2, r2, q2⟩ =>
    thn (ho pins s2 σ H2 x y v u _ I2 r1 r2 q2) fun d s3 ⟨z, H3, I3, r3, k, e, q3⟩ => ?_)) hm
  subst e
  cases r3
  refine wpAny_truthy_bool ?_
  cases k with
  | false =>
    obtain ⟨k', e', q'⟩ := q3
    cases e'
    exact ite_ff ⟨H3, I3, q'⟩
  | true =>
    refine ite_tt (test_last (thn (hc pins s3 σ H3 _ I3 q3) fun w' s4 ⟨z', H4, I4, r4, q4⟩ => thn (ho' pins s4 σ H4 y z' u w' _ I4 r2 r4 q4) fun d' s5 ⟨z2, H5, I5, r5, k2, e2, q5⟩ => ?_))
    subst e2
    cases r5
    exact wpAny_truthy_bool ⟨H5, I5, q5⟩

/-! ### truth -/
/-- a value's truth by the abstract heap -/
def TruV (K : PySem.W.Frag) (x : V) (H : Hp) (k : Bool) : Prop :=
  match x with
  | .non => k = false
  | .bl b => k = b
  | .int i => k = (i != 0)
  | .str y => y.length ≤ sizeLine ∧ k = ((y.length : Int) != 0)
  | .byt y => y.size ≤ sizeLine ∧ k = ((y.size : Int) != 0)
  | .ref p => (∃ xs, SqL K H p xs ∧ k = !xs.isEmpty) ∨ (∃ xs, SqT K H p xs ∧ k = !xs.isEmpty) ∨ ∃ kvs, H p = some (.dK kvs) ∧ k = !kvs.isEmpty
  | _ => False
theorem line63 : (sizeLine : Nat) < 2 ^ 63 := by rw [sizeLine_eq]; decide
/-! ### strs and bytes -/
def PlainIxT (b : Expr) : Prop := ∀ o i, subscripted b false o i = operate [o, i] (getItem o i)
/-! ### scalar builtins, by CallR -/
theorem vals1 {x : V} {us : List Value} (r : Vals [x] us) : ∃ u, us = [u] ∧ RelV x u := by
  cases r with
  | cons r1 r2 => cases r2; exact ⟨_, rfl, r1⟩
theorem vals2 {x y : V} {us : List Value} (r : Vals [x, y] us) : ∃ u w', us = [u, w'] ∧ RelV x u ∧ RelV y w' := by
  cases r with
  | cons r1 r2 =>
    cases r2 with
    | cons r3 r4 => cases r4; exact ⟨_, _, rfl, r1, r3⟩
theorem call_max2 (hc : X.calm = true) : CallR X (.builtin "max") (fun xs H Q => ∃ i j, xs = [.int i, .int j] ∧ Q (.int (if j > i then j else i)) H) := by
  intro pins s σ H xs us Q I r h
  obtain ⟨i, j, rfl, q⟩ := h
  obtain ⟨u, w', rfl, ⟨t, rfl⟩, ⟨t', rfl⟩⟩ := vals2 r
  refine max_two_ints (I.ok.hd hc) fun h' tk k => ⟨_, H, I.kept k, ?_, q⟩
  by_cases hj : j > i
  · rw [if_pos hj, if_pos hj]; exact ⟨_, rfl⟩
  · rw [if_neg hj, if_neg hj]; exact ⟨_, rfl⟩
theorem call_min2 (hc : X.calm = true) : CallR X (.builtin "min") (fun xs H Q => ∃ i j, xs = [.int i, .int j] ∧ Q (.int (if j < i then j else i)) H) := by
  intro pins s σ H xs us Q I r h
  obtain ⟨i, j, rfl, q⟩ := h
  obtain ⟨u, w', rfl, ⟨t, rfl⟩, ⟨t', rfl⟩⟩ := vals2 r
  refine min_two_ints (I.ok.hd hc) fun h' tk k => ⟨_, H, I.kept k, ?_, q⟩
  by_cases hj : j < i
  · rw [if_pos hj, if_pos hj]; exact ⟨_, rfl⟩
  · rw [if_neg hj, if_neg hj]; exact ⟨_, rfl⟩
/-- len of a str, a bytes, a list, a tuple -/
def LenV (K : PySem.W.Frag) (x : V) (H : Hp) (n : Nat) : Prop :=
  match x with
  | .str y => y.length ≤ sizeLine ∧ n = y.length
  | .byt y => y.size ≤ sizeLine ∧ n = y.size
  | .ref p => (∃ xs, SqL K H p xs ∧ n = xs.length) ∨ ∃ xs, SqT K H p xs ∧ n = xs.length
  | _ => False
end
end L2

namespace L2
open PySem PySem.Spec PyProof.Rows

/-! ### an instance, its attributes a map -/
structure ObjM (h : Heap) (x dx C : Addr) (mA : Str → Option Value) : Prop where
  obj : h.get? x = some (PySem.W.instObj C dx)
  ns : h.Ns1 dx mA
  ne : dx ≠ x

theorem lookIn_ns {h : Heap} {dx : Addr} {mA : Str → Option Value} (n : h.Ns1 dx mA) : ∃ od, h.get? dx = some od ∧ ∀ name, PySem.W.lookIn name od = some (mA name) := by
  obtain ⟨o, es, ep, ho, hd, hk, _, hm⟩ := n
  refine ⟨o, ho, fun name => ?_⟩
  have e := hm name
  unfold nsFind findBy at e
  rw [← Array.find?_toList] at e
  unfold PySem.W.lookIn
  rw [hd]
  dsimp only
  split
  · rename_i y q
    rw [q] at e
    exact congrArg some e
  · rename_i q
    rw [q] at e
    have a : es.toList.any (·.refKey) = false := by
      rw [List.any_eq_false]
      intro y hy
      obtain ⟨z, t, hkey⟩ := hk y (Array.mem_toList_iff.mp hy)
      simp [DictEntry.refKey, hkey]
    have a' : ¬ es.toList.any (·.refKey) = true := by rw [a]; exact Bool.false_ne_true
    rw [if_neg a']
    exact congrArg some e

theorem ObjM.look {h : Heap} {x dx C : Addr} {mA : Str → Option Value} (I : ObjM h x dx C mA) : ∃ od, PySem.W.InstAt h x (PySem.W.instObj C dx) C (some od) ∧ ∀ name, PySem.W.lookIn name od = some (mA name) :=
  let ⟨od, ho, hl⟩ := lookIn_ns I.ns
  ⟨od, ⟨I.obj, rfl, rfl, ho⟩, hl⟩

section
variable {prog : Program} {w : World} {A : Around} {E : Value → Shared → Prop} {s : Shared} {K : PySem.W.Frag} {x dx C f : Addr} {mA : Str → Option Value} {name : Str} {v : Value}

theorem get_map {expr : Bool} {Q : Value → Shared → Prop} (X : K.In s.heap) (I : ObjM s.heap x dx C mA) (hg : PySem.W.plainGet K C name = true) (hh : PySem.W.hasDictIn K C = true)
    (ha : PySem.W.findIn K (.ref C) name = some none) (hv : mA name = some v) (hv' : PySem.W.handedIn v = true) (h : Q v { s with toks := s.toks + 1 }) :
    wpAny (model prog w) A (getAttr (.ref x) name expr) Q E s := by
  obtain ⟨od, J, hl⟩ := I.look
  exact PySem.W.get_value X J (PySem.W.plainGet_of hg).1 (PySem.W.findObj_own hh ha rfl (by rw [hl, hv])) hv' h

theorem get_meth {pl : Sem Bool} {Q : Value × List Value → Shared → Prop} (X : K.In s.heap) (I : ObjM s.heap x dx C mA) (hg : PySem.W.plainGet K C name = true)
    (hf : PySem.W.findIn K (.ref C) name = some (some (.ref f))) (ht : PySem.W.isFn K (.ref f) = true) (hv : mA name = none) (h : Q (.ref f, [.ref x]) s) :
    wpAny (model prog w) A (getMethod (.ref x) name pl) Q E s := by
  obtain ⟨od, J, hl⟩ := I.look
  exact PySem.W.method_fn X J (PySem.W.plainGet_of hg).1 (PySem.W.plainGet_of hg).2 hf (beq_iff_eq.mp ht) (by show (PySem.W.lookIn name od).map (·.isSome) = some false; rw [hl, hv]; rfl) h

theorem set_map {ns : List Str} {Q : Unit → Shared → Prop} (X : K.In s.heap) (I : ObjM s.heap x dx C mA)
    (hs : PySem.W.findIn K (.ref C) "__setattr__" = some (some (.builtin "object.__setattr__"))) (hp : PySem.W.plainOver K C = true) (ht : PySem.W.takerIn K C name = some none) (hh : PySem.W.hasDictIn K C = true)
    (hw : PySem.Within mA ns) (hsz : ns.length ≤ sizeLine)
    (h : ∀ h', ObjM h' x dx C (fun y => if y = name then some v else mA y) → Heap.SameBut dx s.heap h' → Q () { s with heap := h', toks := s.toks + 2 }) :
    wpAny (model prog w) A (setAttr (.ref x) name v) Q E s := by
  obtain ⟨od, J, hl⟩ := I.look
  refine PySem.W.set_plain X J hs (PySem.W.osa_open (s := { s with toks := s.toks + 1 }) (r := none) X J hp ht fun b => ?_)
  obtain ⟨cd, hc, hd'⟩ := PySem.W.any_some hh
  have hx : s.heap.get? x = some ⟨.ref C, some dx, .plain, #[]⟩ := I.obj
  refine wpAny_bind (wpAny_pure (wpAny_bind (wpAny_bind (wpAny_loadPart hx (wpAny_bind (PySem.W.Looks.here (s := { s with toks := s.toks + 1 }) (PySem.W.looks_clsIn X hc) ?_))))))
  rw [hd']
  refine wpAny_pure (a := some dx) (wpAny_bind (wpAny_pure (wpAny_bind ?_)))
  refine wpAny_nsSet1 (s := { s with toks := s.toks + 1 }) I.ns fun h' hn2 hs2 => ?_
  obtain ⟨oD, esD, epD, hoD, hdD, hcD⟩ := hn2.count (PySem.Within.cons name v hw)
  refine wpAny_bind (wpAny_lookBehind hoD (by rw [hdD]; exact pastItsLine_dict (Nat.le_trans hcD (by rw [List.length_cons]; omega))) ?_)
  exact wpAny_pure (h _ ⟨(hs2.2 _ (Ne.symm I.ne)).trans I.obj, hn2, I.ne⟩ hs2)

/-- C(..): the dict at the heap's end, the instance behind it; then its __init__ -/
theorem make_map {R : Result → Shared → Prop} {vs : List Value} {kw : List (Str × Value)} (X : K.In s.heap) (hm : PySem.W.makesIn K C = true)
    (hi : PySem.W.findIn K (.ref C) "__init__" = some (some (.ref f))) (hf : PySem.W.typeIn K (.ref f) = some (.type "function"))
    (h : codeAny (model prog w) (A.under (.builtin "type.__call__" ⟨.ref C :: vs, kw⟩)) (.call (.ref f) ⟨.ref (s.heap.objs.size + 1) :: vs, kw⟩) (PySem.W.InitBack (s.heap.objs.size + 1) R)
      { s with heap := (s.heap.push PySem.W.emptyDict).push (PySem.W.instObj C s.heap.objs.size) }) :
    codeAny (model prog w) A (.call (.ref C) ⟨vs, kw⟩) R s := by
  obtain ⟨hh, g, d, t, os⟩ := s
  exact PySem.W.make_core (PySem.W.makes_of X hm) (PySem.W.looks_findIn X hi) (fun self => PySem.W.bind_fn X self hf) (.inl rfl) h
end

/-! ### the attributes as a list of pairs -/
def putF (f : Str) (v : V) : List (Str × V) → List (Str × V)
  | [] => [(f, v)]
  | (g, x) :: r => if g = f then (g, v) :: r else (g, x) :: putF f v r
theorem lookup_putF (f g : Str) (v : V) : ∀ fs : List (Str × V), (putF f v fs).lookup g = if g = f then some v else fs.lookup g
  | [] => by
    show List.lookup g [(f, v)] = _
    by_cases h : g = f
    · have hb : (g == f) = true := beq_iff_eq.mpr h
      simp only [List.lookup, hb, if_pos h]
    · have hb : (g == f) = false := beq_eq_false_iff_ne.mpr h
      simp only [List.lookup, hb, if_neg h]
  | (k, x) :: r => by
    have ih := lookup_putF f g v r
    rw [show putF f v ((k, x) :: r) = (if k = f then (k, v) :: r else (k, x) :: putF f v r) from rfl]
    by_cases hk : k = f
    · rw [if_pos hk]
      by_cases h : g = k
      · have hb : (g == k) = true := beq_iff_eq.mpr h
        simp only [List.lookup, hb, if_pos (h.trans hk)]
      · have hb : (g == k) = false := beq_eq_false_iff_ne.mpr h
        simp only [List.lookup, hb, if_neg (fun e : g = f => h (e.trans hk.symm))]
    · rw [if_neg hk]
      by_cases h : g = k
      · have hb : (g == k) = true := beq_iff_eq.mpr h
        simp only [List.lookup, hb, if_neg (fun e : g = f => hk (h.symm.trans e))]
      · have hb : (g == k) = false := beq_eq_false_iff_ne.mpr h
        simp only [List.lookup, hb]
        exact ih
theorem keys_putF (f : Str) (v : V) : ∀ fs : List (Str × V), f ∈ (putF f v fs).map (·.1) ∧ ∀ g, g ∈ fs.map (·.1) → g ∈ (putF f v fs).map (·.1)
  | [] => ⟨by simp [putF], fun g h => by simp at h⟩
  | (k, x) :: r => by
    obtain ⟨i1, i2⟩ := keys_putF f v r
    rw [show putF f v ((k, x) :: r) = (if k = f then (k, v) :: r else (k, x) :: putF f v r) from rfl]
    by_cases hk : k = f
    · rw [if_pos hk]
      subst hk
      exact ⟨by simp, fun g h => by simpa using h⟩
    · rw [if_neg hk]
      refine ⟨?_, fun g h => ?_⟩
      · rw [List.map_cons]
        exact List.mem_cons_of_mem _ i1
      · rw [List.map_cons] at h ⊢
        rcases List.mem_cons.mp h with e | e
        · exact List.mem_cons.mpr (.inl e)
        · exact List.mem_cons_of_mem _ (i2 g e)
theorem length_putF (f : Str) (v : V) : ∀ fs : List (Str × V), (putF f v fs).length ≤ fs.length + 1
  | [] => by simp [putF]
  | (k, x) :: r => by
    have ih := length_putF f v r
    rw [show putF f v ((k, x) :: r) = (if k = f then (k, v) :: r else (k, x) :: putF f v r) from rfl]
    by_cases hk : k = f
    · rw [if_pos hk, List.length_cons, List.length_cons]; omega
    · rw [if_neg hk, List.length_cons, List.length_cons]; omega

theorem RelO.some_of {v : V} {o : Option Value} (r : RelO (some v) o) : ∃ u, o = some u ∧ RelV v u := by
  cases o with
  | none => exact (show False from r).elim
  | some u => exact ⟨u, rfl, r⟩
theorem RelO.none_of {o : Option Value} (r : RelO none o) : o = none := by
  cases o with
  | none => rfl
  | some u => exact (show False from r).elim
theorem handed_of {v : V} {u : Value} (r : RelV v u) : PySem.W.handedIn u = true := by
  cases v with
  | non => cases (show u = Value.none from r); rfl
  | bl b => cases (show u = Value.bool b from r); rfl
  | int i => obtain ⟨t, e⟩ := (show ∃ t, u = Value.int i t from r); cases e; rfl
  | str x => obtain ⟨t, e⟩ := (show ∃ t, u = Value.str x t from r); cases e; rfl
  | byt b => obtain ⟨t, e⟩ := (show ∃ t, u = Value.bytes b t from r); cases e; rfl
  | flt b => obtain ⟨t, e⟩ := (show ∃ t, u = Value.float b t from r); cases e; rfl
  | ref a => cases (show u = Value.ref a from r); rfl
  | ty n => cases (show u = Value.type n from r); rfl

section
variable {P : Program} {w : World} {H H' : Hp} {h h' : Heap} {a C dx : Addr} {fs fs' : List (Str × V)}
theorem ins_get (hok : HOk P w H h) (e : H a = some (.ins C dx fs)) : ∃ mA, ObjM h a dx C mA ∧ (∀ f, RelO (fs.lookup f) (mA f)) ∧ PySem.Within mA (fs.map (·.1)) ∧ fs.length ≤ 1000 ∧ H dx = some (.own a) := by
  obtain ⟨d, z, ne, ob, mA, n, r, q⟩ := (show ObjOk P w H h a (.ins C dx fs) from hok a _ e)
  exact ⟨mA, ⟨ob, n, ne⟩, r, q, z, d⟩
end

/-! ### what of the text a class must have -/
structure Cls (K : PySem.W.Frag) (C : Addr) : Prop where
  pg : PySem.W.plainGet K C Str.empty = true
  hd : PySem.W.hasDictIn K C = true
  po : PySem.W.plainOver K C = true
  sa : PySem.W.findIn K (.ref C) "__setattr__" = some (some (.builtin "object.__setattr__"))
theorem Cls.get {K : PySem.W.Frag} {C : Addr} (c : Cls K C) (f : Str) : PySem.W.plainGet K C f = true := c.pg
/-- no class of it has the name -/
def NoAttr (K : PySem.W.Frag) (C : Addr) (f : Str) : Prop := PySem.W.findIn K (.ref C) f = some none
theorem NoAttr.taker {K : PySem.W.Frag} {C : Addr} {f : Str} (n : NoAttr K C f) : PySem.W.takerIn K C f = some none := by
  unfold PySem.W.takerIn
  rw [show PySem.W.findIn K (.ref C) f = some none from n]
  rfl
/-- a constant of the class -/
structure Con (K : PySem.W.Frag) (C : Addr) (f : Str) (v : V) (u : Value) : Prop where
  at_ : PySem.W.findIn K (.ref C) f = some (some u)
  rel : RelV v u
  get : PySem.W.specialIn K u "__get__" = some none
  cp : PySem.W.copiedNames.contains f = false
/-- a method: a plain def of the class or of one above it -/
structure Meth (K : PySem.W.Frag) (C : Addr) (m : Str) (f : Addr) : Prop where
  at_ : PySem.W.findIn K (.ref C) m = some (some (.ref f))
  fn : PySem.W.isFn K (.ref f) = true
  kp : PySem.W.keepIn K (.ref f) = true

section
variable {X : Cx} {pins : List (Addr × Obj)} {σ : St} {H : Hp} {s : Shared} {a C dx : Addr} {fs : List (Str × V)} {f : Str} {v : V} {A : Around} {E : Value → Shared → Prop}

theorem getattr_ok {b : Bool} {Q : Value → Shared → Prop} (I : Inv X pins σ H s) (e : H a = some (.ins C dx fs)) (c : Cls X.K C) (n : NoAttr X.K C f) (l : fs.lookup f = some v)
    (h : ∀ u s', Inv X pins σ H s' → RelV v u → Q u s') : wpAny (model X.prog X.w) A (getAttr (.ref a) f b) Q E s := by
  obtain ⟨mA, O, r, _, _, _⟩ := ins_get I.hok e
  obtain ⟨u, hu, ru⟩ := RelO.some_of (v := v) (o := mA f) (by rw [← l]; exact r f)
  exact get_map I.kIn O (c.get f) c.hd n hu (handed_of ru) (h u _ (I.tok _) ru)

theorem getmeth_ok {m : Str} {g : Addr} {pl : Sem Bool} {Q : Value × List Value → Shared → Prop} (I : Inv X pins σ H s) (e : H a = some (.ins C dx fs)) (c : Cls X.K C) (k : Meth X.K C m g) (l : fs.lookup m = none)
    (h : Q (.ref g, [.ref a]) s) : wpAny (model X.prog X.w) A (getMethod (.ref a) m pl) Q E s := by
  obtain ⟨mA, O, r, _, _, _⟩ := ins_get I.hok e
  have hn : mA m = none := RelO.none_of (by rw [← l]; exact r m)
  exact get_meth I.kIn O (c.get m) k.at_ k.fn hn h

theorem setattr_ok {y : V} {u : Value} {Q : Unit → Shared → Prop} (I : Inv X pins σ H s) (e : H a = some (.ins C dx fs)) (c : Cls X.K C) (n : NoAttr X.K C f) (hl : fs.length < 1000) (ry : RelV y u)
    (h : ∀ s', Inv X pins σ (upd H a (.ins C dx (putF f y fs))) s' → Q () s') : wpAny (model X.prog X.w) A (setAttr (.ref a) f u) Q E s := by
  obtain ⟨mA, O, r, wi, _, ho⟩ := ins_get I.hok e
  have hz : (fs.map (·.1)).length ≤ sizeLine := by rw [List.length_map, sizeLine_eq]; omega
  refine set_map I.kIn O c.sa c.po n.taker c.hd wi hz fun h' O' sb => h _ ?_
  have hd : ∃ o, h'.get? dx = some o := let ⟨o, _, _, e', _⟩ := O'.ns; ⟨o, e'⟩
  refine I.write (x := a) (e := dx) (by rw [e]; exact True.intro) (.inr ho) (fun b q hb z => (sb.2 b hb).trans z) hd ?_
  refine ⟨by rw [upd_ne O.ne]; exact ho, ?_, O.ne, O'.obj, _, O'.ns, fun g => ?_, fun g hg => ?_⟩
  · have := length_putF f y fs; omega
  · show RelO ((putF f y fs).lookup g) (if g = f then some u else mA g)
    rw [lookup_putF]
    by_cases q : g = f
    · rw [if_pos q, if_pos q]; exact ry
    · rw [if_neg q, if_neg q]; exact r g
  · by_cases q : g = f
    · rw [q]; exact (keys_putF f y fs).1
    · refine (keys_putF f y fs).2 g (wi g fun z => hg ?_)
      show (if g = f then some u else mA g) = none
      rw [if_neg q]; exact z

/-- a new instance, tracked, without attributes -/
theorem Inv.made (I : Inv X pins σ H s) : Inv X pins σ (upd (upd H s.heap.objs.size (.own (s.heap.objs.size + 1))) (s.heap.objs.size + 1) (.ins C s.heap.objs.size []))
    { s with heap := (s.heap.push PySem.W.emptyDict).push (PySem.W.instObj C s.heap.objs.size) } := by
  have e1 : (s.heap.push PySem.W.emptyDict).get? s.heap.objs.size = some PySem.W.emptyDict := Heap.get?_push_size s.heap rfl
  have e2 : ((s.heap.push PySem.W.emptyDict).push (PySem.W.instObj C s.heap.objs.size)).get? (s.heap.objs.size + 1) = some (PySem.W.instObj C s.heap.objs.size) := by
    have := Heap.get?_push_size (s.heap.push PySem.W.emptyDict) (o := PySem.W.instObj C s.heap.objs.size) rfl
    rwa [Heap.size_push] at this
  have e3 : (s.heap.push PySem.W.emptyDict).Ns s.heap.objs.size (fun _ => none) := ⟨PySem.W.emptyDict, #[], _, e1, rfl, (fun e he => absurd he (by simp)), fun _ => rfl⟩
  have I1 := I.laid (a := s.heap.objs.size) (o := .own (s.heap.objs.size + 1)) (h' := s.heap.push PySem.W.emptyDict) (t' := s.toks) (fun b u q => Heap.get?_push_of_some _ q) (Nat.le_refl _) ⟨_, e1⟩
  refine I1.laid (a := s.heap.objs.size + 1) (o := .ins C s.heap.objs.size []) (t' := s.toks) (fun b u q => Heap.get?_push_of_some _ q) (Nat.le_of_eq (Heap.size_push _ _)) ?_
  have ne : s.heap.objs.size ≠ s.heap.objs.size + 1 := Nat.ne_of_lt (Nat.lt_succ_self _)
  refine ⟨by rw [upd_ne ne, upd_same], Nat.zero_le _, ne, e2, fun _ => none, (Heap.Ns1.of_empty e3).at fun o q => Heap.get?_push_of_some _ q, fun _ => True.intro, fun y hy => absurd rfl hy⟩

/-- e.f where nothing but the object is asked: through attributeBase (super) and the last hold -/
theorem attr_of {prog : Program} {w : World} {env : Env} {e : Expr} {f : Str} {pos : Pos} {s : Shared} {Q : Value → Shared → Prop} (hb : attributeBase e f env (eval e env) = eval e env)
    (h : wpAny (model prog w) A (eval e env) (fun o s₁ => wpAny (model prog w) A (getAttr o f true) Q E s₁) E s) : wpAny (model prog w) A (eval (.Attribute e f pos) env) Q E s :=
  Attribute_any_ h (by rw [arm_eval_Attribute, hb])
end

/-! ### readings and rules -/
/-- e.f, an attribute of the instance -/
def tFld (K : PySem.W.Frag) (ta : TE) (f : Str) : TE := fun σ H Q => ta σ H fun x H1 => ∃ a C dx fs v, x = .ref a ∧ H1 a = some (.ins C dx fs) ∧ Cls K C ∧ NoAttr K C f ∧ fs.lookup f = some v ∧ Q v H1
/-- e.f, a constant of the class -/
def tCon (K : PySem.W.Frag) (ta : TE) (f : Str) : TE := fun σ H Q => ta σ H fun x H1 => ∃ a C dx fs v u, x = .ref a ∧ H1 a = some (.ins C dx fs) ∧ Cls K C ∧ Con K C f v u ∧ fs.lookup f = none ∧ Q v H1
/-- e.f = value -/
def sFld (K : PySem.W.Frag) (ta tv : TE) (f : Str) : TS := fun D σ H => tv σ H fun y H1 => ta σ H1 fun x H2 => ∃ a C dx fs, x = .ref a ∧ H2 a = some (.ins C dx fs) ∧ Cls K C ∧ NoAttr K C f ∧ fs.length < 1000 ∧
  D.nx σ (upd H2 a (.ins C dx (putF f y fs)))
/-- an augmented operator on two values -/
def InOp (X : Cx) (op : Operator) (rd : V → V → Hp → VK → Prop) : Prop :=
  ∀ (pins : List (Addr × Obj)) (s : Shared) (σ : St) (H : Hp) (x y : V) (u v : Value) (Q : VK), Inv X pins σ H s → RelV x u → RelV y v → rd x y H Q → wpAny (model X.prog X.w) X.A (inplaceOp op u v) (EP X pins σ Q) X.xe s
/-- e.f op= value -/
def sFldAug (K : PySem.W.Frag) (ta tv : TE) (rd : V → V → Hp → VK → Prop) (f : Str) : TS := fun D σ H => ta σ H fun x H1 => ∃ a C dx fs v, x = .ref a ∧ H1 a = some (.ins C dx fs) ∧ Cls K C ∧ NoAttr K C f ∧ fs.lookup f = some v ∧
  tv σ H1 fun y H2 => rd v y H2 fun z H3 => ∃ dx' fs', H3 a = some (.ins C dx' fs') ∧ fs'.length < 1000 ∧ D.nx σ (upd H3 a (.ins C dx' (putF f z fs')))

section
variable {X : Cx} {o e value : Expr} {f : Str} {pos pos' tpos : Pos} {ta tv : TE}
theorem pe_fld (he : PE X e ta) (hb : attributeBase e f X.env (eval e X.env) = eval e X.env) : PE X (.Attribute e f pos) (tFld X.K ta f) := by
  intro pins s σ H Q I h
  refine attr_of hb (thn (he pins s σ H _ I h) fun u s1 ⟨x, H1, I1, rx, a, C, dx, fs, v, ex, ea, c, n, l, q⟩ => ?_)
  subst ex
  obtain rfl : u = Value.ref a := rx
  exact getattr_ok I1 ea c n l fun u' s2 I2 ru => ⟨v, H1, I2, ru, q⟩
theorem ps_fld (ha : PE X o ta) (hv : PE X value tv) (hs : swapsWith value (some (.Attribute o f pos')) pos.line X.env = pure false) : PS X (.Assign [.Attribute o f pos'] value pos) (sFld X.K ta tv f) := by
  intro pins s σ H D I h
  refine plainObj_wpAny_Assign_Attribute (thn (hv pins s σ H _ I h) fun u s1 ⟨y, H1, I1, ry, q⟩ => thn (ha pins s1 σ H1 _ I1 q) fun ov s2 ⟨x, H2, I2, rx, a, C, dx, fs, ex, ea, c, n, l, q2⟩ => ?_) hs
  subst ex
  obtain rfl : ov = Value.ref a := rx
  exact setattr_ok I2 ea c n l ry fun s3 I3 => ⟨σ, _, I3, q2⟩
def rAdd : V → V → Hp → VK → Prop := fun x y H Q => ∃ i j, x = .int i ∧ y = .int j ∧ Q (.int (i + j)) H
def rSub : V → V → Hp → VK → Prop := fun x y H Q => ∃ i j, x = .int i ∧ y = .int j ∧ Q (.int (i - j)) H
/-- what is between an instance and its method: the tree of a method call -/
theorem methcall_of {pl : Sem Bool} {m : Str} {apos : Pos} {args : List Expr} {pins : List (Addr × Obj)} {s : Shared} {σ : St} {H : Hp} {Q : Value → Shared → Prop} {te : TE} (he : PE X e te) (I : Inv X pins σ H s)
    (h : te σ H fun x H1 => ∃ a C dx fs g, x = .ref a ∧ H1 a = some (.ins C dx fs) ∧ Cls X.K C ∧ Meth X.K C m g ∧ fs.lookup m = none ∧
      ∀ s1, Inv X pins σ H1 s1 → wpAny (model X.prog X.w) X.A (callWith pos (.ref g) [.ref a] (backTo pos (starEach args X.env)) (backToKw pos (keywordEach [] X.env))) Q X.xe s1)
    (ht : eval (.Call (.Attribute e m apos) args [] pos) X.env = (do
      let ov ← eval e X.env
      standAt apos.atName
      let (f, first) ← holding [ov] (getMethod ov m pl)
      callWith pos f first (backTo pos (starEach args X.env)) (backToKw pos (keywordEach [] X.env)))) :
    wpAny (model X.prog X.w) X.A (eval (.Call (.Attribute e m apos) args [] pos) X.env) Q X.xe s := by
  refine PySem.W.methodCall_KW (pl := pl) (thn (he pins s σ H _ I h) fun u s1 ⟨x, H1, I1, rx, a, C, dx, fs, g, ex, ea, c, k, l, q⟩ => ?_) ht
  subst ex
  obtain rfl : u = Value.ref a := rx
  exact getmeth_ok I1 ea c k l (q s1 I1)
end

/-! ### isinstance -/
section
variable {X : Cx} {pins : List (Addr × Obj)} {σ : St} {H : Hp} {s : Shared} {A : Around} {E : Value → Shared → Prop} {Q : Value → Shared → Prop} {c : Value} {b : Bool}
/-- the type of a value, as the fragment's deciders take it; for an instance its class -/
inductive TyOf (K : PySem.W.Frag) (H : Hp) : V → Value → Prop where
  | non : TyOf K H .non (.type "NoneType")
  | bl (x : Bool) : TyOf K H (.bl x) (.type "bool")
  | int (i : Int) : TyOf K H (.int i) (.type "int")
  | str (x : Str) : TyOf K H (.str x) (.type "str")
  | flt (x : UInt64) : TyOf K H (.flt x) (.type "float")
  | lst {a : Addr} {xs : List V} (e : H a = some (.lst xs)) : TyOf K H (.ref a) (.type "list")
  | frz {a : Addr} {o : Obj} {xs : List V} (e : H a = some (.frz o (.lst xs))) : TyOf K H (.ref a) (.type "list")
  | tup {a : Addr} {xs : List V} (e : H a = some (.tup xs)) : TyOf K H (.ref a) (.type "tuple")
  | dK {a : Addr} {kvs : List (Key × V)} (e : H a = some (.dK kvs)) : TyOf K H (.ref a) (.type "dict")
  | dT {a : Addr} {kvs : List (List Key × V)} (e : H a = some (.dT kvs)) : TyOf K H (.ref a) (.type "dict")
  | ins {a C dx : Addr} {fs : List (Str × V)} (e : H a = some (.ins C dx fs)) (cl : Cls K C) (ha : PySem.W.findIn K (.ref C) "__class__" = some (some (.builtin "object.__class__")))
      (hn : PySem.W.specialIn K (.builtin "object.__class__") "__get__" = some (some (.builtin "getset_descriptor.__get__"))) (htk : PySem.W.takesIn K (.builtin "object.__class__") = some true)
      (hm : PySem.W.mroIn K C (.type "object") = some true) : TyOf K H (.ref a) (.ref C)
/-- isinstance(x, c) for one class c, a built-in or an own one: kitOne's answer -/
theorem isinst_ok {x : V} {u t : Value} (I : Inv X pins σ H s) (rx : RelV x u) (ty : TyOf X.K H x t) (e : PySem.W.kitOne X.K t c = some b) (h : ∀ tk, Q (.bool b) { s with toks := tk }) :
    wpAny (model X.prog X.w) A (call (.builtin "isinstance") [u, c]) Q E s := by
  cases ty with
  | non => cases (show u = Value.none from rx); exact PySem.W.kia_one PySem.W.kitx_none I.kIn True.intro e (fun z => nomatch z) h
  | bl y => cases (show u = Value.bool y from rx); exact PySem.W.kia_one PySem.W.kitx_bool I.kIn True.intro e (fun z => nomatch z) h
  | int i => obtain ⟨t, q⟩ := (show ∃ t, u = Value.int i t from rx); cases q; exact PySem.W.kia_one PySem.W.kitx_int I.kIn True.intro e (fun z => nomatch z) h
  | str y => obtain ⟨t, q⟩ := (show ∃ t, u = Value.str y t from rx); cases q; exact PySem.W.kia_one PySem.W.kitx_str I.kIn True.intro e (fun z => nomatch z) h
  | flt y => obtain ⟨t, q⟩ := (show ∃ t, u = Value.float y t from rx); cases q; exact PySem.W.kia_one PySem.W.kitx_float I.kIn True.intro e (fun z => nomatch z) h
  | @lst a xs ea =>
    cases (show u = Value.ref a from rx)
    obtain ⟨_, _, n, _, h1⟩ := (show ObjOk X.prog X.w H s.heap a (.lst xs) from I.hok a _ ea)
    exact PySem.W.kia_one PySem.W.kitx_list I.kIn ⟨_, h1, rfl⟩ e (fun z => nomatch z) h
  | @frz a ob xs ea =>
    cases (show u = Value.ref a from rx)
    obtain ⟨_, _, _, n, _, h1⟩ := (show ObjOk X.prog X.w H s.heap a (.frz ob (.lst xs)) from I.hok a _ ea)
    exact PySem.W.kia_one PySem.W.kitx_list I.kIn ⟨_, h1, rfl⟩ e (fun z => nomatch z) h
  | @tup a xs ea =>
    cases (show u = Value.ref a from rx)
    obtain ⟨_, _, _, p⟩ := (show ObjOk X.prog X.w H s.heap a (.tup xs) from I.hok a _ ea)
    obtain ⟨o, h1, h2, _⟩ := p
    exact PySem.W.kia_one PySem.W.kitx_tuple I.kIn ⟨o, h1, h2⟩ e (fun z => nomatch z) h
  | @dK a kvs ea =>
    cases (show u = Value.ref a from rx)
    obtain ⟨_, _, vs, _, p⟩ := (show ObjOk X.prog X.w H s.heap a (.dK kvs) from I.hok a _ ea)
    obtain ⟨o, es, ep, h1, h2, _⟩ := p
    exact PySem.W.kia_one PySem.W.kitx_dict I.kIn ⟨o, h1, h2.1⟩ e (fun z => nomatch z) h
  | @dT a kvs ea =>
    cases (show u = Value.ref a from rx)
    obtain ⟨_, _, xs, _, o, es, ep, h1, h2, _⟩ := (show ObjOk X.prog X.w H s.heap a (.dT kvs) from I.hok a _ ea)
    exact PySem.W.kia_one PySem.W.kitx_dict I.kIn ⟨o, h1, h2.1⟩ e (fun z => nomatch z) h
  | @ins a C dx fs ea cl ha hn htk hm =>
    cases (show u = Value.ref a from rx)
    obtain ⟨mA, O, _⟩ := ins_get I.hok ea
    obtain ⟨od, J, _⟩ := O.look
    exact PySem.W.kia_one (PySem.W.kitx_own (cl.get _) cl.hd ha hn htk hm) I.kIn J e (fun z => nomatch z) h
end
end L2

namespace L2
open PySem PySem.Spec PyProof.Rows

/-! ### room -/
structure Room (k : Nat) (A : Around) : Prop where
  hd : A.handled = none
  dp : A.depth + 3 * k + 5 < recursionLimit
  un : A.units + 16 * k + 200 < cLine
  gd : A.guards = some []
theorem Room.mono {j k : Nat} {A : Around} (r : Room k A) (h : j ≤ k) : Room j A := ⟨r.hd, by have := r.dp; omega, by have := r.un; omega, r.gd⟩
theorem Room.deeper {k : Nat} {A : Around} (r : Room (k + 1) A) (env : Env) : Room k (A.deeper env) :=
  ⟨r.hd, by have := r.dp; show A.depth + 1 + 3 * k + 5 < _; omega, by have := r.un; show A.units + 3 + 16 * k + 200 < _; omega, r.gd⟩
theorem Room.in1 {k : Nat} {A : Around} (r : Room (k + 1) A) : Room k A.in1 :=
  ⟨r.hd, by have := r.dp; show A.depth + 3 * k + 5 < _; omega, by have := r.un; show A.units + 1 + 16 * k + 200 < _; omega, r.gd⟩
theorem make_depth {A : Around} {C : Addr} {us : List Value} {kw : List (Str × Value)} : (A.under (.builtin "type.__call__" ⟨.ref C :: us, kw⟩)).depth = A.depth + 1 := by
  first | rfl | simp [Around.under, Code.weight, Code.isCreation, Code.isGuard, Code.isCaller, Code.frames, Code.isFrame, guardIds]
theorem make_units {A : Around} {C : Addr} {us : List Value} {kw : List (Str × Value)} : (A.under (.builtin "type.__call__" ⟨.ref C :: us, kw⟩)).units = A.units + 1 := by
  first | rfl | simp [Around.under, Code.cUnits, Code.frames, Code.isFrame]
theorem make_guards {A : Around} {C : Addr} {us : List Value} {kw : List (Str × Value)} {g : List Code} (h : A.guards = some g) : (A.under (.builtin "type.__call__" ⟨.ref C :: us, kw⟩)).guards = some g := by
  have e : (Code.builtin "type.__call__" ⟨.ref C :: us, kw⟩).guards = [] := by first | rfl | simp [Code.guards, Code.isGuard, guardIds]
  first
    | (simp only [Around.under, e, pushGuards]; exact h)
    | simp [Around.under, e, pushGuards, h]
theorem Room.make {k : Nat} {A : Around} (r : Room (k + 1) A) (C : Addr) (us : List Value) (kw : List (Str × Value)) : Room k (A.under (.builtin "type.__call__" ⟨.ref C :: us, kw⟩)) :=
  ⟨r.hd, by have := r.dp; rw [make_depth]; omega, by have := r.un; rw [make_units]; omega, make_guards r.gd⟩
theorem Room.depth {k : Nat} {A : Around} (r : Room k A) : A.depth < recursionLimit := by have := r.dp; omega
theorem Room.units {k : Nat} {A : Around} (r : Room k A) : A.units + 64 < cLine := by have := r.un; omega
theorem Room.units0 {k : Nat} {A : Around} (r : Room k A) : A.units < cLine := by have := r.un; omega

/-! ### argument lists and displays -/
def tNil : TA := fun _ H Q => Q [] H
def tCons (ta : TE) (tr : TA) : TA := fun σ H Q => ta σ H fun x H1 => tr σ H1 fun xs H2 => Q (x :: xs) H2
section
variable {X : Cx} {e : Expr} {es : List Expr} {te : TE} {t : TA} {pos : Pos}
theorem pa_nil : PA X [] tNil := fun _ _ _ _ H Q I h => Calls.spliced_nil ⟨[], H, I, .nil, h⟩
theorem pa_cons (ha : PE X e te) (hr : PA X es t) (hs : starEach (e :: es) X.env = (false, eval e X.env) :: starEach es X.env := by rfl) : PA X (e :: es) (tCons te t) := by
  intro pos pins s σ H Q I h
  rw [hs]
  show wpAny _ _ (spliced ((false, eval e X.env) :: backTo pos (starEach es X.env))) _ _ s
  refine Calls.spliced_cons (thn (ha pins s σ H _ I h) fun u s1 ⟨x, H1, I1, r1, q1⟩ => ?_)
  exact thn (hr pos pins s1 σ H1 _ I1 q1) fun us s2 ⟨xs, H2, I2, r2, q2⟩ => ⟨x :: xs, H2, I2, .cons r1 r2, q2⟩

/-- a tuple, a list of written items -/
def tTup (t : TA) : TE := fun σ H Q => t σ H fun xs H1 => xs.length ≤ sizeLine ∧ ∀ p, H1 p = none → Q (.ref p) (upd H1 p (.tup xs))
def tLst (t : TA) : TE := fun σ H Q => t σ H fun xs H1 => xs.length ≤ sizeLine ∧ ∀ p, H1 p = none → Q (.ref p) (upd H1 p (.lst xs))
theorem pe_tup {x1} (h : PA X es t) : PE X (.Tuple es x1 pos) (tTup t) := by
  intro pins s σ H Q I hq
  refine wpAny_Tuple_spliced (thn (h pos pins s σ H _ I hq) fun us s1 ⟨xs, H1, I1, r, z, q⟩ => ⟨by rw [← r.length]; exact z, ?_⟩)
  have hf : H1 s1.heap.objs.size = none := I1.hok.fresh (Nat.le_refl _)
  refine ⟨.ref s1.heap.objs.size, upd H1 s1.heap.objs.size (.tup xs), I1.laid (t' := s1.toks) (fun b u e => Heap.get?_push_of_some _ e) (Nat.le_refl _) ?_, rfl, q _ hf⟩
  exact ⟨z, us, r, ⟨_, Heap.get?_push_size _ rfl, rfl, _, rfl⟩⟩
theorem pe_lst (h : PA X es t) : PE X (.List es pos) (tLst t) := by
  intro pins s σ H Q I hq
  refine wpAny_List_spliced (thn (h pos pins s σ H _ I hq) fun us s1 ⟨xs, H1, I1, r, z, q⟩ => ⟨by rw [← r.length]; exact z, ?_⟩)
  have hf : H1 s1.heap.objs.size = none := I1.hok.fresh (Nat.le_refl _)
  refine ⟨.ref s1.heap.objs.size, upd H1 s1.heap.objs.size (.lst xs), I1.laid (t' := s1.toks) (fun b u e => Heap.get?_push_of_some _ e) (Nat.le_refl _) ?_, rfl, q _ hf⟩
  exact ⟨z, us, 0, r, Heap.get?_push_size _ rfl⟩
end

/-! ### what a def promises -/
/-- a def's promise: the bound arguments in the parameters' order, the heap, the wanted end, the wanted exception -/
abbrev Sp := List V → Hp → VK → XK → Prop
/-- how an exception lies behind a call (file 08 gives it): the callers' frames, abstract heap and state ahead of the call, the wish, the exception, the state -/
abbrev CXT := List Env → Hp → Shared → XK → Value → Shared → Prop

/-- the state at a call -/
structure Env0 (P : Program) (w : World) (K : PySem.W.Frag) (mg : Str → Option Value) (base : Heap) (A : Around) (outer : List Env) (s : Shared) (H : Hp) : Prop where
  frames : A.frames = some outer
  mod : Mod K mg base
  bs : ∀ b o, base.get? b = some o → s.heap.get? b = some o ∧ H b = none
  bsz : base.objs.size ≤ s.heap.objs.size
  funs : s.heap.FunFrames base outer
  frf : ∀ b ∈ frs outer, H b = none
  hok : HOk P w H s.heap
  bare : AllBare s.gens
/-- a call's end -/
def CE (outer : List Env) (P : Program) (w : World) (H : Hp) (s : Shared) (Q : VK) (u : Value) (s' : Shared) : Prop :=
  ∃ v H', s'.os = s.os ∧ AllBare s'.gens ∧ Un (frs outer) [] H H' s.heap s'.heap ∧ HOk P w H' s'.heap ∧ RelV v u ∧ Q v H'
def CR (CX : CXT) (outer : List Env) (P : Program) (w : World) (H : Hp) (s : Shared) (Q : VK) (E : XK) (r : Result) (s' : Shared) : Prop :=
  match r with
  | .ok (.ret u) => CE outer P w H s Q u s'
  | .ok _ => False
  | .error e => CX outer H s E e s'
structure FnOk (P : Program) (w : World) (K : PySem.W.Frag) (mg : Str → Option Value) (base : Heap) (CX : CXT) (k : Nat) (f : Addr) (fd : FuncData) (ps : List Str) (sp : Sp) : Prop where
  len : ∀ vs H Q E, sp vs H Q E → vs.length = ps.length
  run : ∀ (A : Around) (outer : List Env) (s : Shared) (H : Hp) (args : Args) (us : List Value) (vs : List V) (Q : VK) (E : XK), Room k A → Env0 P w K mg base A outer s H → BindsTo s fd args (ps.zip us) → Vals vs us → sp vs H Q E →
    codeAny (model P w) A (.call (.ref f) args) (CR CX outer P w H s Q E) s
theorem FnOk.mono {P : Program} {w : World} {K : PySem.W.Frag} {mg : Str → Option Value} {base : Heap} {CX : CXT} {j k : Nat} {f : Addr} {fd : FuncData} {ps : List Str} {sp : Sp} (F : FnOk P w K mg base CX j f fd ps sp) (h : j ≤ k) :
    FnOk P w K mg base CX k f fd ps sp := ⟨F.len, fun A outer s H args us vs Q E hr => F.run A outer s H args us vs Q E (hr.mono h)⟩
theorem Env0.make {P : Program} {w : World} {K : PySem.W.Frag} {mg : Str → Option Value} {base : Heap} {A : Around} {outer : List Env} {s : Shared} {H : Hp} (e : Env0 P w K mg base A outer s H) (C : Addr) (us : List Value) (kw : List (Str × Value)) :
    Env0 P w K mg base (A.under (.builtin "type.__call__" ⟨.ref C :: us, kw⟩)) outer s H := ⟨by first | exact e.frames | (simpa [Around.under, Code.envs, Code.isFrame, pushEnvs] using e.frames), e.mod, e.bs, e.bsz, e.funs, e.frf, e.hok, e.bare⟩
theorem Env0.in1 {P : Program} {w : World} {K : PySem.W.Frag} {mg : Str → Option Value} {base : Heap} {A : Around} {outer : List Env} {s : Shared} {H : Hp} (e : Env0 P w K mg base A outer s H) :
    Env0 P w K mg base A.in1 outer s H := ⟨e.frames, e.mod, e.bs, e.bsz, e.funs, e.frf, e.hok, e.bare⟩

section
variable {X : Cx} {pins : List (Addr × Obj)} {σ : St} {H : Hp} {s s' : Shared}
/-- from a body: what a callee wants -/
theorem Inv.env0 (I : Inv X pins σ H s) : Env0 X.prog X.w X.K X.mg X.base X.A X.stack s H :=
  ⟨I.ok.frames, I.ok.mod, I.bs, Nat.le_trans I.ok.bsz I.sz, I.stack, I.stkFree, I.hok, I.bare⟩
/-- behind a call -/
theorem Inv.after {Q : VK} {u : Value} (I : Inv X pins σ H s) (h : CE X.stack X.prog X.w H s Q u s') : EP X pins σ Q u s' := by
  obtain ⟨v, H', os, bare, un, hok, r, q⟩ := h
  obtain ⟨hh, g, d, t, os'⟩ := s'
  obtain rfl : os' = s.os := os
  exact ⟨v, H', I.call (h' := hh) (g' := g) (d' := d) (t' := t) (ch := []) un hok bare (fun b z => absurd z (by simp)), r, q⟩
end

/-! ### calls -/
/-- f(..): the written arguments, then the defaults dvs; E: what is wanted of an exception -/
def tCall (sp : Sp) (dvs : List V) (E : XK) (t : TA) : TE := fun σ H Q => t σ H fun vs H1 => sp (vs ++ dvs) H1 Q E
/-- o.m(..) of an instance of the class at C -/
def tMeth (C : Addr) (m : Str) (sp : Sp) (dvs : List V) (E : XK) (ta : TE) (t : TA) : TE := fun σ H Q => ta σ H fun x H1 => ∃ a dx fs, x = .ref a ∧ H1 a = some (.ins C dx fs) ∧ fs.lookup m = none ∧
  t σ H1 fun vs H2 => sp (x :: (vs ++ dvs)) H2 Q E
/-- C(..): a new instance and its dict, then __init__ -/
def tMake (C : Addr) (sp : Sp) (dvs : List V) (E : XK) (t : TA) : TE := fun σ H Q => t σ H fun vs H1 => ∀ x dx, H1 x = none → H1 dx = none → dx ≠ x →
  sp (.ref x :: (vs ++ dvs)) (upd (upd H1 dx (.own x)) x (.ins C dx [])) (fun v H2 => v = .non ∧ Q (.ref x) H2) E

/-- how the parameters are bound: us the positional arguments, kw the keywords' values by name, ds the defaults that fill up -/
def Binds (K : PySem.W.Frag) (fd : FuncData) (ps : List Str) (ds : List Value) : Prop :=
  ∀ (s : Shared) (us : List Value), K.In s.heap → (us ++ ds).length = ps.length → BindsTo s fd ⟨us, []⟩ (ps.zip (us ++ ds))
/-- every parameter is given -/
theorem Binds.all {K : PySem.W.Frag} {fd : FuncData} {ps : List Str} (h : ∀ us : List Value, us.length = ps.length → bindArgs fd ⟨us, []⟩ = pure (ps.zip us)) : Binds K fd ps [] := fun s us _ hl => by
  rw [List.append_nil] at hl ⊢
  exact .of_eq (h us hl)

/-- an exception of a callee reaches what this body wants of exceptions -/
def Passes (CX : CXT) (X : Cx) (E : XK) : Prop := ∀ (pins : List (Addr × Obj)) (σ : St) (H : Hp) (s : Shared) (e : Value) (s' : Shared), Inv X pins σ H s → CX X.stack H s E e s' → X.xe e s'

section
variable {X : Cx} {CX : CXT} {k : Nat} {f C : Addr} {fd : FuncData} {ps : List Str} {sp : Sp} {dvs : List V} {ds : List Value} {E : XK} {x m : Str} {p pos apos : Pos} {e o : Expr} {es : List Expr} {ta : TE} {t : TA}

/-- the callee runs -/
theorem run_fn {pins : List (Addr × Obj)} {σ : St} {H : Hp} {s : Shared} {Q : VK} {us : List Value} {vs : List V} (F : FnOk X.prog X.w X.K X.mg X.base CX k f fd ps sp) (hr : Room k X.A) (hb : Binds X.K fd ps ds) (hd : Vals dvs ds) (hx : Passes CX X E)
    (I : Inv X pins σ H s) (r : Vals vs us) (h : sp (vs ++ dvs) H Q E) : wpAny (model X.prog X.w) X.A (call (.ref f) us) (EP X pins σ Q) X.xe s := by
  have r2 : Vals (vs ++ dvs) (us ++ ds) := r.append hd
  have hl : (us ++ ds).length = ps.length := by rw [← r2.length]; exact F.len _ _ _ _ h
  refine wpAny_call (codeAny_mono (F.run X.A X.stack s H ⟨us, []⟩ (us ++ ds) (vs ++ dvs) Q E hr I.env0 (hb s us I.kIn hl) r2 h) fun r s' hq => ?_)
  cases r with
  | error e => exact hx pins σ H s e s' I hq
  | ok fl =>
    cases fl with
    | ret u => exact I.after hq
    | next => exact False.elim hq
    | brk => exact False.elim hq
    | cont => exact False.elim hq

theorem pe_call (F : FnOk X.prog X.w X.K X.mg X.base CX k f fd ps sp) (hr : Room k X.A) (hg : Gl X x) (hm : X.mg x = some (.ref f)) (hk : PySem.W.keepIn X.K (.ref f) = true) (hb : Binds X.K fd ps ds) (hd : Vals dvs ds) (hx : Passes CX X E)
    (ha : PA X (e :: es) t) (hdb : (x == ("__debug__" : Str)) = false := by decide) (he : starEach (e :: es) X.env = (false, eval e X.env) :: starEach es X.env := by rfl) (hpl : (backTo pos (starEach es X.env)).any (·.1) = false := by rfl) :
    PE X (.Call (.Name x p) (e :: es) [] pos) (tCall sp dvs E t) := by
  intro pins s σ H Q I h
  refine wpAny_Call_Name_kw (ld_glob I hg hm ?_ hdb)
  refine PySem.W.callWith_K (h₀ := X.base) I.ok.mod.kin hk (thn (ha pos pins s σ H _ I h) fun us s1 ⟨vs, H1, I1, r, q⟩ => ⟨I1.kIn, ?_⟩) he hpl
  exact run_fn F hr hb hd hx I1 r q
theorem pe_call0 (F : FnOk X.prog X.w X.K X.mg X.base CX k f fd ps sp) (hr : Room k X.A) (hg : Gl X x) (hm : X.mg x = some (.ref f)) (hk : PySem.W.keepIn X.K (.ref f) = true) (hb : Binds X.K fd ps ds) (hd : Vals dvs ds) (hx : Passes CX X E)
    (hdb : (x == ("__debug__" : Str)) = false := by decide) : PE X (.Call (.Name x p) [] [] pos) (tCall sp dvs E tNil) := by
  intro pins s σ H Q I h
  refine wpAny_Call_Name_kw (ld_glob I hg hm ?_ hdb)
  exact PySem.W.callWith_K0 I.kIn hk (run_fn (us := []) F hr hb hd hx I .nil h)

/-- o.m(e, ..) -/
theorem pe_meth {pl : Sem Bool} (he : PE X o ta) (c : Cls X.K C) (hm : Meth X.K C m f) (F : FnOk X.prog X.w X.K X.mg X.base CX k f fd ps sp) (hr : Room k X.A) (hb : Binds X.K fd ps ds) (hd : Vals dvs ds) (hx : Passes CX X E) (ha : PA X (e :: es) t)
    (hst : starEach (e :: es) X.env = (false, eval e X.env) :: starEach es X.env := by rfl) (hpl : (backTo pos (starEach es X.env)).any (·.1) = false := by rfl)
    (ht : eval (.Call (.Attribute o m apos) (e :: es) [] pos) X.env = (do
      let ov ← eval o X.env
      standAt apos.atName
      let (f, first) ← holding [ov] (getMethod ov m pl)
      callWith pos f first (backTo pos (starEach (e :: es) X.env)) (backToKw pos (keywordEach [] X.env))) := by rfl) :
    PE X (.Call (.Attribute o m apos) (e :: es) [] pos) (tMeth C m sp dvs E ta t) := by
  intro pins s σ H Q I h
  refine PySem.W.methodCall_KW (pl := pl) (thn (he pins s σ H _ I h) fun u s1 ⟨x, H1, I1, rx, a, dx, fs, ex, ea, l, q⟩ => ?_) ht
  subst ex
  obtain rfl : u = Value.ref a := rx
  refine getmeth_ok I1 ea c hm l ?_
  refine PySem.W.callWith_K (first := [.ref a]) (h₀ := X.base) I.ok.mod.kin hm.kp (thn (ha pos pins s1 σ H1 _ I1 q) fun us s2 ⟨vs, H2, I2, r, q2⟩ => ⟨I2.kIn, ?_⟩) hst hpl
  exact run_fn (us := .ref a :: us) (vs := .ref a :: vs) F hr hb hd hx I2 (.cons rfl r) q2
/-- o.m() -/
theorem pe_meth0 {pl : Sem Bool} (he : PE X o ta) (c : Cls X.K C) (hm : Meth X.K C m f) (F : FnOk X.prog X.w X.K X.mg X.base CX k f fd ps sp) (hr : Room k X.A) (hb : Binds X.K fd ps ds) (hd : Vals dvs ds) (hx : Passes CX X E)
    (ht : eval (.Call (.Attribute o m apos) [] [] pos) X.env = (do
      let ov ← eval o X.env
      standAt apos.atName
      let (f, first) ← holding [ov] (getMethod ov m pl)
      callWith pos f first (backTo pos (starEach [] X.env)) (backToKw pos (keywordEach [] X.env))) := by rfl) :
    PE X (.Call (.Attribute o m apos) [] [] pos) (tMeth C m sp dvs E ta tNil) := by
  intro pins s σ H Q I h
  refine PySem.W.methodCall_KW (pl := pl) (thn (he pins s σ H _ I h) fun u s1 ⟨x, H1, I1, rx, a, dx, fs, ex, ea, l, q⟩ => ?_) ht
  subst ex
  obtain rfl : u = Value.ref a := rx
  refine getmeth_ok I1 ea c hm l ?_
  exact PySem.W.callWith_K0 (first := [.ref a]) I1.kIn hm.kp (run_fn (us := [.ref a]) (vs := [.ref a]) F hr hb hd hx I1 (.cons rfl .nil) q)

/-- what a class must have to be made -/
structure Mk (K : PySem.W.Frag) (C f : Addr) : Prop where
  makes : PySem.W.makesIn K C = true
  init : PySem.W.findIn K (.ref C) "__init__" = some (some (.ref f))
  fn : PySem.W.isFn K (.ref f) = true
  kp : PySem.W.keepIn K (.ref C) = true

theorem run_make {pins : List (Addr × Obj)} {σ : St} {H : Hp} {s : Shared} {Q : VK} {us : List Value} {vs : List V} (M : Mk X.K C f) (F : FnOk X.prog X.w X.K X.mg X.base CX k f fd ps sp) (hr : Room (k + 1) X.A) (hb : Binds X.K fd ps ds) (hd : Vals dvs ds)
    (hx : Passes CX X E) (I : Inv X pins σ H s) (r : Vals vs us)
    (h : ∀ x dx, H x = none → H dx = none → dx ≠ x → sp (.ref x :: (vs ++ dvs)) (upd (upd H dx (.own x)) x (.ins C dx [])) (fun v H2 => v = .non ∧ Q (.ref x) H2) E) :
    wpAny (model X.prog X.w) X.A (call (.ref C) us) (EP X pins σ Q) X.xe s := by
  have hq := h (s.heap.objs.size + 1) s.heap.objs.size (I.hok.fresh (Nat.le_succ _)) (I.hok.fresh (Nat.le_refl _)) (Nat.ne_of_lt (Nat.lt_succ_self _))
  have I2 := Inv.made (C := C) I
  have r2 : Vals (V.ref (s.heap.objs.size + 1) :: (vs ++ dvs)) (Value.ref (s.heap.objs.size + 1) :: (us ++ ds)) := .cons rfl (r.append hd)
  have hl : (Value.ref (s.heap.objs.size + 1) :: us ++ ds).length = ps.length := by
    have e := r2.length
    rw [F.len _ _ _ _ hq] at e
    exact e.symm
  refine wpAny_call (make_map (f := f) I.kIn M.makes M.init (beq_iff_eq.mp M.fn) (codeAny_mono (F.run _ X.stack _ _ ⟨Value.ref (s.heap.objs.size + 1) :: us, []⟩ (Value.ref (s.heap.objs.size + 1) :: (us ++ ds)) _ _ E (hr.make C us [])
    (I2.env0.make C us []) (hb _ (Value.ref (s.heap.objs.size + 1) :: us) I2.kIn hl) r2 hq) fun r s' hq' => ?_))
  cases r with
  | error e => exact hx pins σ _ _ e s' I2 hq'
  | ok fl =>
    cases fl with
    | ret u =>
      obtain ⟨v, H', I3, rv, ev, q3⟩ := I2.after hq'
      subst ev
      exact ⟨rv, ⟨V.ref (s.heap.objs.size + 1), H', I3, rfl, q3⟩⟩
    | next => exact False.elim hq'
    | brk => exact False.elim hq'
    | cont => exact False.elim hq'
theorem pe_make0 (M : Mk X.K C f) (F : FnOk X.prog X.w X.K X.mg X.base CX k f fd ps sp) (hr : Room (k + 1) X.A) (hg : Gl X x) (hm : X.mg x = some (.ref C)) (hb : Binds X.K fd ps ds) (hd : Vals dvs ds) (hx : Passes CX X E)
    (hdb : (x == ("__debug__" : Str)) = false := by decide) : PE X (.Call (.Name x p) [] [] pos) (tMake C sp dvs E tNil) := by
  intro pins s σ H Q I h
  refine wpAny_Call_Name_kw (ld_glob I hg hm ?_ hdb)
  exact PySem.W.callWith_K0 I.kIn M.kp (run_make (us := []) M F hr hb hd hx I .nil h)
end

/-! ### keywords -/
/-- the values of the keywords, from the left -/
def PK (X : Cx) (kws : List Keyword) (t : TA) : Prop :=
  ∀ (pos : Pos) (pins : List (Addr × Obj)) (s : Shared) (σ : St) (H : Hp) (Q : List V → Hp → Prop), Inv X pins σ H s → t σ H Q → wpAny (model X.prog X.w) X.A (evalAll ((backToKw pos (keywordEach kws X.env)).map (·.2))) (AP X pins σ Q) X.xe s
section
variable {X : Cx} {CX : CXT} {k : Nat} {f C : Addr} {fd : FuncData} {ps ks : List Str} {sp : Sp} {E : XK} {x m : Str} {p pos apos kpos : Pos} {e o : Expr} {es : List Expr} {kws : List Keyword} {te ta : TE} {t tk : TA} {nm : Option Str}
/-- how a call with keywords binds: g puts the positional values us and the keywords' values ws (names ks) in the parameters' order, defaults among them -/
structure KBinds (K : PySem.W.Frag) (fd : FuncData) (ps ks : List Str) (g : List Value → List Value → List Value) (gV : List V → List V → List V) : Prop where
  to : ∀ (s : Shared) (us ws : List Value), K.In s.heap → (g us ws).length = ps.length → BindsTo s fd ⟨us, ks.zip ws⟩ (ps.zip (g us ws))
  rel : ∀ {vs : List V} {us : List Value} {zs : List V} {ws : List Value}, Vals vs us → Vals zs ws → Vals (gV vs zs) (g us ws)
def tCallK (sp : Sp) (gV : List V → List V → List V) (E : XK) (t tk : TA) : TE := fun σ H Q => t σ H fun vs H1 => tk σ H1 fun zs H2 => sp (gV vs zs) H2 Q E
variable {g : List Value → List Value → List Value} {gV : List V → List V → List V}
end

/-! ### a def's body keeps its promise -/
/-- names: the parameters first -/
structure FnScope (N P : List Str) (sc : Scope) : Prop where
  kind : sc.kind = .function
  co : sc.isCoroutine = false
  gen : sc.isGenerator = false
  nd : N.Nodup
  pre : N.take P.length = P
  par : ∀ x ∈ P, sc.names.lookup x = some .local ∨ sc.names.lookup x = some .cell
  nofree : ∀ y ∈ sc.names, y.2 ≠ .free

theorem bindL_out {kindOf : Str → Option NameKind} {x : Str} : ∀ {binds : List (Str × Value)} {m : Str → Option Value}, (∀ v, (x, v) ∉ binds) → bindL kindOf binds m x = m x
  | [], _, _ => rfl
  | (n, v) :: r, m, h => by
    unfold bindL
    rw [bindL_out fun w hw => h w (List.mem_cons_of_mem _ hw)]
    split
    · have : x ≠ n := by rintro rfl; exact h v List.mem_cons_self
      simp [this]
    · rfl
theorem bindC_out {kindOf : Str → Option NameKind} {x : Str} : ∀ {binds : List (Str × Value)} {m : Str → Option Value}, (∀ v, (x, v) ∉ binds) → bindC kindOf binds m x = m x
  | [], _, _ => rfl
  | (n, v) :: r, m, h => by
    unfold bindC
    rw [bindC_out fun w hw => h w (List.mem_cons_of_mem _ hw)]
    split
    · rfl
    · have : x ≠ n := by rintro rfl; exact h v List.mem_cons_self
      simp [this]
theorem bindL_get {kindOf : Str → Option NameKind} {x : Str} {v : Value} : ∀ {P : List Str} {vs : List Value} {i : Nat} {m : Str → Option Value}, P.Nodup → P[i]? = some x → vs[i]? = some v → kindOf x = some .local →
    bindL kindOf (P.zip vs) m x = some v
  | [], _, _, _, _, h, _, _ => by simp at h
  | _ :: _, [], _, _, _, _, h, _ => by simp at h
  | p :: P, w :: vs, 0, m, nd, h1, h2, hk => by
    simp at h1 h2; subst h1; subst h2
    show bindL kindOf ((p, w) :: P.zip vs) m p = _
    unfold bindL
    rw [bindL_out fun v hv => (List.nodup_cons.mp nd).1 (List.of_mem_zip hv).1, if_pos hk]
    simp
  | p :: P, w :: vs, i + 1, m, nd, h1, h2, hk => by
    show bindL kindOf ((p, w) :: P.zip vs) m x = _
    unfold bindL
    exact bindL_get (i := i) (List.nodup_cons.mp nd).2 (by simpa using h1) (by simpa using h2) hk
theorem bindC_get {kindOf : Str → Option NameKind} {x : Str} {v : Value} : ∀ {P : List Str} {vs : List Value} {i : Nat} {m : Str → Option Value}, P.Nodup → P[i]? = some x → vs[i]? = some v → kindOf x ≠ some .local →
    bindC kindOf (P.zip vs) m x = some v
  | [], _, _, _, _, h, _, _ => by simp at h
  | _ :: _, [], _, _, _, _, h, _ => by simp at h
  | p :: P, w :: vs, 0, m, nd, h1, h2, hk => by
    simp at h1 h2; subst h1; subst h2
    show bindC kindOf ((p, w) :: P.zip vs) m p = _
    unfold bindC
    rw [bindC_out fun v hv => (List.nodup_cons.mp nd).1 (List.of_mem_zip hv).1, if_neg hk]
    simp
  | p :: P, w :: vs, i + 1, m, nd, h1, h2, hk => by
    show bindC kindOf ((p, w) :: P.zip vs) m x = _
    unfold bindC
    exact bindC_get (i := i) (List.nodup_cons.mp nd).2 (by simpa using h1) (by simpa using h2) hk

/-- the names' values at the entry -/
def start (N : List Str) (vs : List V) : St := vs.map some ++ List.replicate (N.length - vs.length) none

/-- the context of a def's body, at its entry; an exception leaves the frame, then lies as CX says -/
def cxOf (CX : CXT) (P : Program) (w : World) (K : PySem.W.Frag) (mg : Str → Option Value) (base : Heap) (N : List Str) (qual : Str) (scope : Scope) (f : Addr) (cd : Value) (A : Around) (outer : List Env) (s : Shared) (H : Hp) (E : XK) : Cx where
  prog := P
  w := w
  K := K
  mg := mg
  base := base
  A := A.deeper (envOfC qual scope s.heap.objs.size f cd)
  N := N
  s₀ := s
  H₀ := H
  env := envOfC qual scope s.heap.objs.size f cd
  outer := outer
  stack := envOfC qual scope s.heap.objs.size f cd :: outer
  ex := []
  calm := true
  fn := fun _ => true
  pn := []
  xe := fun e s' => wpAny (model P w) (A.deeper (envOfC qual scope s.heap.objs.size f cd)) (leaving (envOfC qual scope s.heap.objs.size f cd) e) (fun _ s'' => CX outer H s E e s'') (fun e' s'' => CX outer H s E e' s'') s'

theorem cell_has {sc : Scope} {n : Nat} {x : Str} (h : sc.names.lookup x = some .cell) : ∃ c, (cellsFrom n sc.names []).lookup x = some c := by
  have q := PySem.W.cellsFrom_some sc.names n [] (.inl h)
  exact Option.isSome_iff_exists.mp q

theorem inv_start {CX : CXT} {P : Program} {w : World} {K : PySem.W.Frag} {mg : Str → Option Value} {base : Heap} {N ps : List Str} {qual : Str} {scope : Scope} {f : Addr} {cd : Value} {A : Around} {outer : List Env} {s s1 : Shared} {H : Hp} {E : XK} {us : List Value} {vs : List V}
    (S : FnScope N ps scope) (hd : A.handled = none) (e0 : Env0 P w K mg base A outer s H) (hl : vs.length = ps.length) (r : Vals vs us)
    (x : InCallC s s.heap.objs.size (bindL (envOfC qual scope s.heap.objs.size f cd).kindOf (ps.zip us) fun _ => none) (cellsFrom (s.heap.objs.size + 1) scope.names []) (bindC (envOfC qual scope s.heap.objs.size f cd).kindOf (ps.zip us) fun _ => none) s1) :
    Inv (cxOf CX P w K mg base N qual scope f cd A outer s H E) [] (start N vs) H s1 := by
  have hpl : ps.length ≤ N.length := by have := congrArg List.length S.pre; rw [List.length_take] at this; omega
  obtain ⟨h1, tk, rfl, hk⟩ := x.done
  have noA : ∀ b : Addr, b ∉ (cxOf CX P w K mg base N qual scope f cd A outer s H E).ex := fun b z => absurd (show b ∈ ([] : List Addr) from z) (by simp)
  refine ⟨⟨e0.mod, S.kind, rfl, rfl, Nat.le_refl _, fun y z c h1 h2 => ?_, fun y hy => ?_, fun y c _ h => ?_, fun _ => hd, Around.frames_deeper e0.frames, .inr ⟨rfl, rfl⟩, fun b z => absurd z (noA b), e0.bs, e0.bsz, fun b _ _ => noA b, fun b z => absurd z (noA b), e0.funs, e0.frf⟩,
    rfl, e0.bare, Un.kept hk, ⟨_, x.toInCall.ns, fun i y v h1 h2 h3 => ?_⟩, fun y c h => ⟨_, x.cell y c h⟩, e0.hok.fresh (Nat.le_refl _), fun y c h => ?_, fun p hp => absurd (show p ∈ ([] : List (Addr × Obj)) from hp) (by simp), e0.hok.kept hk, ?_⟩
  · exact name_of_addr x.apart (PySem.mem_of_lookup h1) (PySem.mem_of_lookup h2)
  · have hy : scope.names.lookup y = some .cell ∨ scope.names.lookup y = some .free := hy
    rcases hy with hy | hy
    · exact cell_has hy
    · exact absurd rfl (S.nofree _ (PySem.mem_of_lookup hy))
  · exact Nat.le_of_lt (x.above y c (PySem.mem_of_lookup h))
  · have hi : i < vs.length := by
      unfold start at h2
      by_cases hi : i < vs.length
      · exact hi
      · rw [List.getElem?_append_right (by simpa using hi)] at h2
        rw [List.getElem?_replicate] at h2
        split at h2 <;> cases h2
    have ha : vs[i]? = some v := by
      unfold start at h2
      rw [List.getElem?_append_left (by simpa using hi), List.getElem?_map] at h2
      cases e : vs[i]? with
      | none => rw [e] at h2; cases h2
      | some a => rw [e] at h2; cases h2; rfl
    obtain ⟨u, hu, rv⟩ := r.get ha
    have hp : ps[i]? = some y := by
      rw [← S.pre, List.getElem?_take_of_lt (by omega)]; exact h1
    have ndP : ps.Nodup := by rw [← S.pre]; exact S.nd.sublist (List.take_sublist _ _)
    refine ⟨u, rv, ?_⟩
    rcases S.par y (List.mem_of_getElem? hp) with k | k
    · exact .inl ⟨k, bindL_get ndP hp hu k⟩
    · obtain ⟨c, e⟩ := cell_has (n := s.heap.objs.size + 1) k
      refine .inr ⟨.inl k, c, e, ?_⟩
      have q := x.cell y c e
      rw [bindC_get ndP hp hu (by show scope.names.lookup y ≠ _; rw [k]; decide)] at q
      exact q
  · exact e0.hok.fresh (Nat.le_of_lt (x.above y c (PySem.mem_of_lookup h)))
  · unfold start
    show _ = N.length
    rw [List.length_append, List.length_map, List.length_replicate]
    omega

/-- THE RULE: a def (or a method) of the text, by its body. The body's reading t is chosen for each entry; it is run at the parameters' values -/
theorem fn_of {CX : CXT} {P : Program} {w : World} {K : PySem.W.Frag} {mg : Str → Option Value} {base : Heap} {k : Nat} {f : Addr} {name qual : Str} {params : Arguments} {body : List Stmt} {scope : Scope} {dV kV doc pm cdv ct oc : Value} {an od : Option Addr}
    {osl : Array (Option Value)} {N ps : List Str} {sp : Sp} (lk : K.lookup f = some ⟨oc, od, .func (PySem.W.fnOf name qual params body scope dV kV doc pm an cdv ct), osl⟩) (hcd : PySem.W.codeIn K cdv qual = true) (S : FnScope N ps scope)
    (len : ∀ vs H Q E, sp vs H Q E → vs.length = ps.length)
    (hbody : ∀ (A : Around) (outer : List Env) (s : Shared) (H : Hp) (vs : List V) (Q : VK) (E : XK), Room k (A.deeper (envOfC qual scope s.heap.objs.size f cdv)) → sp vs H Q E →
      ∃ t, PSs (cxOf CX P w K mg base N qual scope f cdv A outer s H E) body t ∧ t { nx := fun _ H' => Q .non H', rt := Q } (start N vs) H) :
    FnOk P w K mg base CX (k + 1) f (PySem.W.fnOf name qual params body scope dV kV doc pm an cdv ct) ps sp := by
  refine ⟨len, fun A outer s H args us vs Q E hr e0 hb r hsp => ?_⟩
  have hl := len _ _ _ _ hsp
  have KX : K.In s.heap := e0.mod.kin.keeps fun b o e => (e0.bs b o e).1
  have lim : s.heap.NoLimit := e0.mod.nolimit.keeps fun b o e => (e0.bs b o e).1
  have hkind : ∀ y ∈ ps.zip us, scope.names.lookup y.1 = some .local ∨ (scope.names.lookup y.1 = some .cell ∧ ((cellsFrom (s.heap.objs.size + 1) scope.names []).lookup y.1).isSome = true) := fun ⟨n, v⟩ hy => by
    rcases S.par n (List.of_mem_zip hy).1 with q | q
    · exact .inl q
    · exact .inr ⟨q, PySem.W.cellsFrom_some _ _ _ (.inl q)⟩
  refine codeAny_call_function hr.depth (KX _ _ lk) rfl S.co S.gen rfl (PySem.W.codeRec_of KX hcd) (hb _ _ _ _ ?_)
  refine wpAny_newFunctionEnv_cells S.kind hkind fun env he s1 x => ?_
  subst he
  refine ⟨lim.keeps x.toInCall.keep, codeAny_func ?_⟩
  obtain ⟨t, ht, hq⟩ := hbody A outer s H vs Q E (hr.deeper _) hsp
  have I : Inv (cxOf CX P w K mg base N qual scope f cdv A outer s H E) [] (start N vs) H s1 := inv_start S hr.hd e0 hl r x
  refine wpAny_mono (ht [] s1 (start N vs) H _ I hq) (fun fl s' hs => ?_) fun e s' hs => hs
  have fin : ∀ {σ' : St} {H' : Hp} {v : V} {u : Value}, Inv (cxOf CX P w K mg base N qual scope f cdv A outer s H E) [] σ' H' s' → RelV v u → Q v H' → CE outer P w H s Q u s' :=
    fun {σ' H' v u} J rv q => ⟨v, H', J.os, J.bare, J.base, J.hok, rv, q⟩
  cases fl with
  | ret u =>
    obtain ⟨v, σ', H', J, rv, q⟩ := hs
    exact fin J rv q
  | next =>
    obtain ⟨σ', H', J, q⟩ := hs
    exact fin (v := V.non) (u := Value.none) J rfl q
  | brk =>
    obtain ⟨_, _, _, q⟩ := hs
    exact False.elim q
  | cont =>
    obtain ⟨_, _, _, q⟩ := hs
    exact False.elim q
end L2

namespace L2
open PySem PySem.Spec PyProof.Rows
section
variable {X : Cx} {x : Str} {p pos : Pos} {e : Expr} {es : List Expr} {t : TA} {id T : String} {r : List V → Hp → VK → Prop}

def tCB (r : List V → Hp → VK → Prop) (t : TA) : TE := fun σ H Q => t σ H fun vs H1 => r vs H1 Q
/-- f(e, ..), f a built-in function -/
theorem pe_callB (hc : CallR X (.builtin id) r) (hg : Gl X x) (hm : X.mg x = none) (hv : bootBuiltins x = some (.builtin id)) (ha : PA X (e :: es) t) (hn : x ≠ "__name__" := by decide) (hdb : (x == ("__debug__" : Str)) = false := by decide)
    (he : starEach (e :: es) X.env = (false, eval e X.env) :: starEach es X.env := by rfl) (hpl : (backTo pos (starEach es X.env)).any (·.1) = false := by rfl) : PE X (.Call (.Name x p) (e :: es) [] pos) (tCB r t) := by
  intro pins s σ H Q I h
  refine wpAny_Call_Name_kw (ld_blt I hg hm hv ?_ hn hdb)
  exact PyProof.Rows.callWith_builtin1 (thn (ha pos pins s σ H _ I h) fun us s1 ⟨vs, H1, I1, r1, q1⟩ => hc pins s1 σ H1 vs us Q I1 r1 q1) he hpl
end
end L2

namespace HT
open PySem PyProof.Rows

/-- t < u of tuples of ints -/
def lexLt : List Int → List Int → Bool
  | [], [] => false
  | [], _ :: _ => true
  | _ :: _, [] => false
  | x :: xs, y :: ys => if x = y then lexLt xs ys else decide (x < y)
section
open PySem.SeqAt
open PySem.AutoSeq1 (wpAny_loadPart')
open PySem.MeetsSeq PySem.MeetsSeq2 PySem.MeetsSeq3

end

section
variable {prog : Program} {w : World} {A : Around} {E : Value → Shared → Prop} {s : Shared}

/-! ### t[a:b], not the whole -/
/-- a slice's bound as a place among n (d where it is left out) -/
def sIx (n d : Nat) : Option Int → Nat
  | none => d
  | some v => if v < 0 then (v + (n : Int)).toNat else min v.toNat n
theorem sIx_nat (n d k : Nat) : sIx n d (some (k : Int)) = min k n := by
  show (if (k : Int) < 0 then ((k : Int) + (n : Int)).toNat else min (k : Int).toNat n) = min k n
  rw [if_neg (by omega), Int.toNat_natCast]
end
end HT

namespace L2
open PySem PySem.Spec PyProof.Rows

/-! ### the parts of a slice -/
abbrev TO := St → Hp → (Option Int → Hp → Prop) → Prop
/-- a slice's part (left out, or an int) -/
def PO (X : Cx) (e : Option Expr) (t : TO) : Prop :=
  ∀ (pins : List (Addr × Obj)) (s : Shared) (σ : St) (H : Hp) (Q : Option Int → Hp → Prop), Inv X pins σ H s → t σ H Q →
    wpAny (model X.prog X.w) X.A (evalPart e X.env) (fun u s' => ∃ o H', Inv X pins σ H' s' ∧ IsPart u o ∧ Q o H') X.xe s
def tNoPart : TO := fun _ H Q => Q none H
def tPart (t : TE) : TO := fun σ H Q => t σ H fun x H1 => ∃ i, x = .int i ∧ Q (some i) H1

section
variable {X : Cx} {e : Expr} {te : TE} {lo hi : Option Expr} {tl th : TO} {pos p2 : Pos}

theorem po_none : PO X none tNoPart := by
  intro pins s σ H Q I h
  rw [evalPart_none]
  exact wpAny_pure ⟨none, H, I, .none, h⟩
theorem po_some (h : PE X e te) : PO X (some e) (tPart te) := by
  intro pins s σ H Q I hw
  rw [evalPart_some]
  refine thn (h pins s σ H _ I hw) fun u s1 ⟨x, H1, I1, r1, q1⟩ => ?_
  obtain ⟨i, rfl, q⟩ := q1
  obtain ⟨t, rfl⟩ := r1
  exact ⟨some i, H1, I1, .int i t, q⟩

/-- what a slice of a value is, by values: the slice object stands at sl -/
def SlR (X : Cx) (r : V → Option Int → Option Int → Hp → VK → Prop) : Prop :=
  ∀ (pins : List (Addr × Obj)) (s : Shared) (σ : St) (H : Hp) (x : V) (v vl vu : Value) (lo hi : Option Int) (sl : Addr) (Q : VK), Inv X pins σ H s → RelV x v → s.heap.IsSliceOf sl vl vu .none → IsPart vl lo → IsPart vu hi → r x lo hi H Q →
    ∃ T id, typeLookup (.type T) "__getitem__" = pure (some (.builtin id)) ∧ s.TypeIs v T ∧ wpAny (model X.prog X.w) X.A (getItem v (.ref sl)) (EP X pins σ Q) X.xe s
theorem SlR.or {r r' : V → Option Int → Option Int → Hp → VK → Prop} (h : SlR X r) (h' : SlR X r') : SlR X (fun x lo hi H Q => r x lo hi H Q ∨ r' x lo hi H Q) := by
  intro pins s σ H x v vl vu lo hi sl Q I rx hs pl pu q
  rcases q with q | q
  · exact h pins s σ H x v vl vu lo hi sl Q I rx hs pl pu q
  · exact h' pins s σ H x v vl vu lo hi sl Q I rx hs pl pu q
def tSl (r : V → Option Int → Option Int → Hp → VK → Prop) (te : TE) (tl th : TO) : TE := fun σ H Q => te σ H fun x H1 => tl σ H1 fun l H2 => th σ H2 fun u H3 => r x l u H3 Q
/-- a[lo:hi], any a -/
theorem pe_slice {r : V → Option Int → Option Int → Hp → VK → Prop} (hr : SlR X r) (he : PE X e te) (hl : PO X lo tl) (hu : PO X hi th) : PE X (.Subscript e (.Slice lo hi none p2) pos) (tSl r te tl th) := by
  intro pins s σ H Q I h
  refine Subscript_ (thn (he pins s σ H _ I h) fun v s1 ⟨x, H1, I1, r1, q1⟩ => ?_)
  refine wpAny_Slice (thn (hl pins s1 σ H1 _ I1 q1) fun vl s2 ⟨l, H2, I2, pl, q2⟩ => thn (hu pins s2 σ H2 _ I2 q2) fun vu s3 ⟨u, H3, I3, pu, q3⟩ => ?_)
  rw [evalPart_none]
  refine wpAny_pure ?_
  have I4 : Inv X pins σ H3 { s3 with heap := s3.heap.push { cls := .type "slice", data := .fields #[vl, vu, .none] } } := I3.kept (t' := s3.toks) fun b ob q => Heap.get?_push_of_some _ q
  obtain ⟨T, id, hT, ht, hg⟩ := hr pins { s3 with heap := s3.heap.push { cls := .type "slice", data := .fields #[vl, vu, .none] } } σ H3 x v vl vu l u s3.heap.objs.size Q I4 r1 (Heap.IsSliceOf.new ..) pl pu q3
  show wpAny (model X.prog X.w) X.A (subscriptTail e (.Slice lo hi none p2) v (.ref s3.heap.objs.size)) (EP X pins σ Q) X.xe { s3 with heap := s3.heap.push { cls := .type "slice", data := .fields #[vl, vu, .none] } }
  exact tail_any (ops := [.ref s3.heap.objs.size, v]) ht hT hg (by with_unfolding_all rfl)

/-- the items of xs[lo:hi] -/
def cutV (xs : List V) (lo hi : Option Int) : List V := (xs.drop (HT.sIx xs.length 0 lo)).take (HT.sIx xs.length xs.length hi - HT.sIx xs.length 0 lo)
theorem cutV_length (xs : List V) (lo hi : Option Int) : (cutV xs lo hi).length ≤ xs.length := by
  unfold cutV
  rw [List.length_take, List.length_drop]
  omega
/-- t[lo:hi], not the whole of it (the whole would be t itself) -/
def rSlT (K : PySem.W.Frag) : V → Option Int → Option Int → Hp → VK → Prop := fun x lo hi H Q => ∃ a xs, x = .ref a ∧ SqT K H a xs ∧
  ¬ (HT.sIx xs.length 0 lo = 0 ∧ HT.sIx xs.length xs.length hi = xs.length) ∧ ∀ p, H p = none → Q (.ref p) (upd H p (.tup (cutV xs lo hi)))
/-! ### t < u, t + u -/
def rLtT (K : PySem.W.Frag) : R2 := fun x y H Q => ∃ a b ns ms, x = .ref a ∧ y = .ref b ∧ SqT K H a (ns.map V.int) ∧ SqT K H b (ms.map V.int) ∧ Q (.bl (HT.lexLt ns ms)) H
/-- t + u, t not empty: u empty gives t itself -/
def rCatT (K : PySem.W.Frag) : R2 := fun x y H Q => ∃ a b xs ys, x = .ref a ∧ y = .ref b ∧ SqT K H a xs ∧ SqT K H b ys ∧ xs ≠ [] ∧ xs.length + ys.length ≤ sizeLine ∧
  (ys = [] → Q (.ref a) H) ∧ (ys ≠ [] → ∀ p, H p = none → Q (.ref p) (upd H p (.tup (xs ++ ys))))
end
end L2

namespace L2
open PySem PySem.Spec PyProof.Rows

/-! ### places -/
/-- the place that an index of any sign means -/
def ixN (n : Nat) (i : Int) : Option Nat := if 0 ≤ i then (if i < n then some i.toNat else none) else if -(n : Int) ≤ i then some (i + n).toNat else none
def atI {α : Type} (xs : List α) (i : Int) : Option α := (ixN xs.length i).bind fun j => xs[j]?
theorem ixN_seq {n : Nat} {i : Int} {j : Nat} (h : ixN n i = some j) : seqIndex? i n = some j ∧ j < n ∧ -(n : Int) ≤ i ∧ i < n := by
  unfold ixN at h
  by_cases h0 : 0 ≤ i
  · rw [if_pos h0] at h
    by_cases h1 : i < n
    · rw [if_pos h1] at h
      have e : i.toNat = j := Option.some.inj h
      exact ⟨by rw [seqIndex_of h0 h1, e], by omega, by omega, h1⟩
    · rw [if_neg h1] at h; cases h
  · rw [if_neg h0] at h
    by_cases h1 : -(n : Int) ≤ i
    · rw [if_pos h1] at h
      have e : (i + n).toNat = j := Option.some.inj h
      exact ⟨by rw [seqIndex_neg (by omega) h1, e], by omega, h1, by omega⟩
    · rw [if_neg h1] at h; cases h
theorem atI_get {α : Type} {xs : List α} {i : Int} {v : α} (h : atI xs i = some v) : ∃ j, seqIndex? i xs.length = some j ∧ xs[j]? = some v ∧ j < xs.length ∧ -(xs.length : Int) ≤ i ∧ i < xs.length := by
  unfold atI at h
  cases e : ixN xs.length i with
  | none => rw [e] at h; cases h
  | some j =>
    rw [e] at h
    obtain ⟨h1, h2, h3, h4⟩ := ixN_seq e
    exact ⟨j, h1, h, h2, h3, h4⟩
theorem atI_nat {α : Type} {xs : List α} {j : Nat} {v : α} (h : xs[j]? = some v) : atI xs (j : Int) = some v := by
  have hj : j < xs.length := (List.getElem?_eq_some_iff.mp h).1
  have e : ixN xs.length (j : Int) = some j := by
    unfold ixN
    rw [if_pos (by omega), if_pos (by omega)]; simp
  unfold atI; rw [e]; exact h
theorem atI_last {α : Type} (xs : List α) (v : α) : atI (xs ++ [v]) (-1) = some v := by
  have hl : (xs ++ [v]).length = xs.length + 1 := by simp
  have e : ixN (xs ++ [v]).length (-1) = some xs.length := by
    unfold ixN
    rw [hl, if_neg (by decide), if_pos (by omega)]
    congr 1
    omega
  unfold atI
  rw [e]
  show (xs ++ [v])[xs.length]? = some v
  simp

/-! ### what may be subscripted -/
/-- what stands as an index of a plain subscript -/
def PlainIx (b : Expr) : Prop := ∀ o i, subscripted b false o i = operate [o, i] (getItem o i)
/-- a subscript by values -/
def IxR (X : Cx) (r : R2) : Prop :=
  ∀ (value slice : Expr) (pins : List (Addr × Obj)) (s : Shared) (σ : St) (H : Hp) (x y : V) (v u : Value) (Q : VK), Inv X pins σ H s → RelV x v → RelV y u → r x y H Q →
    subscripted slice false v u = operate [v, u] (getItem v u) → wpAny (model X.prog X.w) X.A (subscriptTail value slice v u) (EP X pins σ Q) X.xe s
/-- a call of a builtin's method by values: the receiver, the arguments -/
def MtR (X : Cx) (id : String) (r : V → List V → Hp → VK → Prop) : Prop :=
  ∀ (pins : List (Addr × Obj)) (s : Shared) (σ : St) (H : Hp) (x : V) (xs : List V) (v : Value) (us : List Value) (Q : VK), Inv X pins σ H s → RelV x v → Vals xs us → r x xs H Q →
    wpAny (model X.prog X.w) X.A (call (.builtin id) (v :: us)) (EP X pins σ Q) X.xe s
section
variable {X : Cx} {a b : Expr} {ta tb : TE} {pos : Pos}
theorem IxR.or {r r' : R2} (h : IxR X r) (h' : IxR X r') : IxR X (fun x y H Q => r x y H Q ∨ r' x y H Q) := by
  intro value slice pins s σ H x y v u Q I rx ry q hs
  rcases q with q | q
  · exact h value slice pins s σ H x y v u Q I rx ry q hs
  · exact h' value slice pins s σ H x y v u Q I rx ry q hs
theorem MtR.or {id : String} {r r' : V → List V → Hp → VK → Prop} (h : MtR X id r) (h' : MtR X id r') : MtR X id (fun x xs H Q => r x xs H Q ∨ r' x xs H Q) := by
  intro pins s σ H x xs v us Q I rx rs q
  rcases q with q | q
  · exact h pins s σ H x xs v us Q I rx rs q
  · exact h' pins s σ H x xs v us Q I rx rs q
/-- a[b] -/
theorem pe_ix {r : R2} (hr : IxR X r) (ha : PE X a ta) (hb : PE X b tb) (hs : PlainIx b) : PE X (.Subscript a b pos) (tOp r ta tb) := by
  intro pins s σ H Q I h
  exact Subscript_ (binT ha hb I h fun v u s2 x y H2 I2 rx ry q => hr a b pins s2 σ H2 x y v u Q I2 rx ry q (hs _ _))

def rIxL (K : PySem.W.Frag) : R2 := fun x y H Q => ∃ p xs i v, x = .ref p ∧ y = .int i ∧ SqL K H p xs ∧ atI xs i = some v ∧ Q v H
def rIxT (K : PySem.W.Frag) : R2 := fun x y H Q => ∃ p xs i v, x = .ref p ∧ y = .int i ∧ SqT K H p xs ∧ atI xs i = some v ∧ Q v H
def rIxS : R2 := fun x y H Q => ∃ z i c, x = .str z ∧ y = .int i ∧ z.length ≤ sizeLine ∧ atI z.cps.toList i = some c ∧ Q (.str ⟨#[c]⟩) H
theorem ix_list : IxR X (rIxL X.K) := by
  intro value slice pins s σ H x y v u Q I rx ry h hs
  obtain ⟨p, xs, i, z, rfl, rfl, hq, he, q⟩ := h
  cases rx
  obtain ⟨t, rfl⟩ := ry
  obtain ⟨its, r, pl, hz⟩ := I.list hq
  obtain ⟨j, h1, h2, h3, h4, h5⟩ := atI_get he
  obtain ⟨w, ew, rw'⟩ := r.get h2
  have hl := r.length
  have hn := line63
  have fin : EP X pins σ Q w s := ⟨z, H, I, rw', q⟩
  by_cases h0 : 0 ≤ i
  · have hj : i.toNat = j := by
      rw [seqIndex_of h0 h5] at h1
      exact Option.some.inj h1
    exact item_listR pl.isList h0 (by omega) (by rw [hj]; simpa using ew) fin hs
  · have hj : (i + (its.toArray.size : Int)).toNat = j := by
      rw [seqIndex_neg (by omega) h4] at h1
      rw [List.size_toArray, ← hl]
      exact Option.some.inj h1
    exact subscriptTail_builtinR (x := w) pl.isList.typeIs slot_list_getitem.lookup
      (wpAny_getItem_list_neg (Q := fun r s' => r = w ∧ EP X pins σ Q r s') pl.isList (by omega) (by rw [List.size_toArray] <;> omega) (by omega) (by rw [hj]; simpa using ew) ⟨rfl, fin⟩) hs
/-- list, tuple or str -/
def rIx (K : PySem.W.Frag) : R2 := fun x y H Q => rIxL K x y H Q ∨ rIxT K x y H Q ∨ rIxS x y H Q
/-! ### xs[i] = v, any sign -/
/-- the list's object behind a store -/
theorem mapSeq_set (its : List Value) (n j : Nat) (u : Value) : Obj.mapSeq (·.setIfInBounds j u) { cls := .type "list", data := .seq its.toArray n } = { cls := .type "list", data := .seq (its.set j u).toArray n } := by
  simp [Obj.mapSeq]
theorem Inv.lst {pins : List (Addr × Obj)} {σ : St} {H : Hp} {s : Shared} {p : Addr} {xs : List V} (I : Inv X pins σ H s) (h : H p = some (.lst xs)) :
    ∃ (its : List Value) (n : Nat), Vals xs its ∧ s.heap.get? p = some { cls := .type "list", data := .seq its.toArray n } ∧ xs.length ≤ sizeLine := by
  obtain ⟨z, its, n, r, e⟩ := I.hok p _ h
  exact ⟨its, n, r, e, z⟩
/-- the list at p is written by an update of its object -/
theorem Inv.lstUpd {pins : List (Addr × Obj)} {σ : St} {H : Hp} {s : Shared} {p : Addr} {xs ys : List V} {its its' : List Value} {n n' : Nat} {f : Obj → Obj} (I : Inv X pins σ H s) (h : H p = some (.lst xs))
    (ho : s.heap.get? p = some { cls := .type "list", data := .seq its.toArray n }) (hf : f { cls := .type "list", data := .seq its.toArray n } = { cls := .type "list", data := .seq its'.toArray n' }) (r : Vals ys its') (hz : ys.length ≤ sizeLine) (t : Nat) :
    Inv X pins σ (upd H p (.lst ys)) { s with heap := s.heap.update p f, toks := t } := by
  have e : (s.heap.update p f).get? p = some { cls := .type "list", data := .seq its'.toArray n' } := by
    rw [Heap.get?_update_self f ho (by rw [hf] <;> rfl), hf]
  refine I.write (x := p) (e := p) (by rw [h]; trivial) (.inl rfl) (fun b u hb q => (Heap.get?_update_other _ _ (Ne.symm hb)).trans q) ⟨_, e⟩ ?_
  exact ⟨hz, its', n', r, e⟩
def rSetL : V → V → V → Hp → (Hp → Prop) → Prop := fun o i v H Q => ∃ p xs k j, o = .ref p ∧ i = .int k ∧ H p = some (.lst xs) ∧ ixN xs.length k = some j ∧ Q (upd H p (.lst (xs.set j v)))
theorem set_list : PSet X rSetL := by
  intro pins s σ H o i v ov iv u Q I ro ri rv h
  obtain ⟨p, xs, k, j, rfl, rfl, hp, hj, q⟩ := h
  cases ro
  obtain ⟨t, rfl⟩ := ri
  obtain ⟨its, n, r, ho, hz⟩ := I.lst hp
  obtain ⟨h1, h2, h3, h4⟩ := ixN_seq hj
  have hl := r.length
  have hn := line63
  have I' : Inv X pins σ (upd H p (.lst (xs.set j v))) { s with heap := s.heap.update p (Obj.mapSeq (·.setIfInBounds j u)) } :=
    I.lstUpd hp ho (mapSeq_set its n j u) (r.set rv j) (by rw [List.length_set]; exact hz) s.toks
  by_cases h0 : 0 ≤ k
  · have hk : k.toNat = j := by
      rw [seqIndex_of h0 h4] at h1
      exact Option.some.inj h1
    exact PySem.W.ki_setAt ho h0 (by omega) (by rw [List.size_toArray, ← hl]; exact h4) (by rw [hk]; exact ⟨_, I', q⟩)
  · have hk : (k + (its.toArray.size : Int)).toNat = j := by
      rw [seqIndex_neg (by omega) h3] at h1
      rw [List.size_toArray, ← hl]
      exact Option.some.inj h1
    exact PySem.W.ki_setBack ho (by omega) (by rw [List.size_toArray, ← hl]; exact h3) (by omega) (by rw [hk]; exact ⟨_, I', q⟩)

/-! ### slices -/
theorem slice_bounds (lo hi : Option Int) (n : Nat) : (sliceBounds lo hi none n).1 = ((HT.sIx n 0 lo : Nat) : Int) ∧ (sliceBounds lo hi none n).2.1 = ((HT.sIx n n hi : Nat) : Int) ∧ (sliceBounds lo hi none n).2.2 = 1 := by
  refine ⟨?_, ?_, rfl⟩
  · cases lo with
    | none => simp [sliceBounds, HT.sIx]
    | some i =>
      simp only [sliceBounds, HT.sIx, Option.getD_none, show (1 : Int) > 0 by decide, if_true]
      by_cases h : i < 0
      · simp only [h, if_true] <;> omega
      · simp only [h, if_false] <;> omega
  · cases hi with
    | none => simp [sliceBounds, HT.sIx]
    | some i =>
      simp only [sliceBounds, HT.sIx, Option.getD_none, show (1 : Int) > 0 by decide, if_true]
      by_cases h : i < 0
      · simp only [h, if_true] <;> omega
      · simp only [h, if_false] <;> omega
theorem slicePick_cut (its : List Value) (lo hi : Option Int) : slicePick its.toArray lo hi none = ((its.drop (HT.sIx its.length 0 lo)).take (HT.sIx its.length its.length hi - HT.sIx its.length 0 lo)).toArray := by
  obtain ⟨h1, h2, h3⟩ := slice_bounds lo hi its.toArray.size
  unfold slicePick
  rw [h1, h2, h3]
  simp only [sliceRange_one, pick_run, List.size_toArray] <;> rfl
/-- xs[lo:hi] of a list: a new list -/
def rSlL (K : PySem.W.Frag) : V → Option Int → Option Int → Hp → VK → Prop := fun x lo hi H Q => ∃ a xs, x = .ref a ∧ SqL K H a xs ∧ ∀ p, H p = none → Q (.ref p) (upd H p (.lst (cutV xs lo hi)))
theorem sl_list : SlR X (rSlL X.K) := by
  intro pins s σ H x v vl vu lo hi sl Q I rx hs pl pu h
  obtain ⟨a, xs, rfl, hx, q⟩ := h
  cases rx
  obtain ⟨its, r, ht, hz⟩ := I.list hx
  have hlen := r.length
  refine ⟨"list", _, slot_list_getitem.lookup, ht.isList.typeIs, ?_⟩
  refine wpAny_getItem_list_slice ht.isList hs pl pu .none (by simp) ?_ (by rw [List.size_toArray] <;> omega)
  rw [slicePick_cut, ← hlen]
  refine ⟨.ref s.heap.objs.size, _, I.laid (t' := s.toks) (o := .lst (cutV xs lo hi)) (fun b ob q => Heap.get?_push_of_some _ q) (Nat.le_refl _) ?_, rfl, q _ (I.hok.fresh (Nat.le_refl _))⟩
  exact ⟨Nat.le_trans (cutV_length xs lo hi) hz, _, 0, (r.drop (HT.sIx xs.length 0 lo)).take (HT.sIx xs.length xs.length hi - HT.sIx xs.length 0 lo), Heap.get?_push_size _ rfl⟩

/-! ### in, not in: flat items -/
def flatV : V → Bool
  | .non => true
  | .bl _ => true
  | .int _ => true
  | .str _ => true
  | _ => false
/-- == of flat values -/
def eqV : V → V → Bool
  | .non, .non => true
  | .bl a, .bl b => a == b
  | .bl a, .int b => (if a then 1 else 0) == b
  | .int a, .bl b => a == (if b then 1 else 0)
  | .int a, .int b => a == b
  | .str a, .str b => a == b
  | _, _ => false
theorem eqAt_V {A : Around} {s : Shared} {y x : V} {u v : Value} (ry : RelV y u) (rx : RelV x v) (fy : flatV y = true) (fx : flatV x = true) : SeqAt.EqAt A s u v (eqV y x) := by
  cases y with
  | non =>
    cases ry
    cases x with
    | non => cases rx; exact SeqAt.EqAt.same _
    | bl b => cases rx; exact SeqAt.EqAt.none_bool b
    | int b => obtain ⟨t, rfl⟩ := rx; exact SeqAt.EqAt.none_int b t
    | str b => obtain ⟨t, rfl⟩ := rx; exact SeqAt.EqAt.none_str b t
    | _ => exact absurd (show false = true from fx) Bool.false_ne_true
  | bl a =>
    cases ry
    cases x with
    | non => cases rx; exact SeqAt.EqAt.bool_none a
    | bl b => cases rx; exact SeqAt.EqAt.bool_bool a b
    | int b => obtain ⟨t, rfl⟩ := rx; exact SeqAt.EqAt.bool_int a b t
    | str b => obtain ⟨t, rfl⟩ := rx; exact SeqAt.EqAt.bool_str a b t
    | _ => exact absurd (show false = true from fx) Bool.false_ne_true
  | int a =>
    obtain ⟨t', rfl⟩ := ry
    cases x with
    | non => cases rx; exact SeqAt.EqAt.int_none a t'
    | bl b => cases rx; exact SeqAt.EqAt.int_bool a t' b
    | int b => obtain ⟨t, rfl⟩ := rx; exact SeqAt.EqAt.int_int a t' b t
    | str b => obtain ⟨t, rfl⟩ := rx; exact SeqAt.EqAt.int_str a t' b t
    | _ => exact absurd (show false = true from fx) Bool.false_ne_true
  | str a =>
    obtain ⟨t', rfl⟩ := ry
    cases x with
    | non => cases rx; exact SeqAt.EqAt.str_none a t'
    | bl b => cases rx; exact SeqAt.EqAt.str_bool a t' b
    | int b => obtain ⟨t, rfl⟩ := rx; exact SeqAt.EqAt.str_int a t' b t
    | str b => obtain ⟨t, rfl⟩ := rx; exact SeqAt.EqAt.str_str a t' b t
    | _ => exact absurd (show false = true from fx) Bool.false_ne_true
  | _ => exact absurd (show false = true from fy) Bool.false_ne_true
/-- the items' answers, read off the values (a value's own answer does not lean on its token) -/
def eqU (x : V) (u : Value) : Bool := match u with
  | .none => eqV .non x
  | .bool b => eqV (.bl b) x
  | .int i _ => eqV (.int i) x
  | .str z _ => eqV (.str z) x
  | _ => false
theorem eqU_of {x y : V} {u : Value} (r : RelV y u) (f : flatV y = true) : eqU x u = eqV y x := by
  cases y with
  | non => cases r; rfl
  | bl b => cases r; rfl
  | int i => obtain ⟨t, rfl⟩ := r; rfl
  | str z => obtain ⟨t, rfl⟩ := r; rfl
  | _ => exact absurd (show false = true from f) Bool.false_ne_true
theorem any_eqU {x : V} : ∀ {xs : List V} {us : List Value}, Vals xs us → xs.all flatV = true → us.any (eqU x) = xs.any fun y => eqV y x
  | _, _, .nil, _ => rfl
  | y :: xs, u :: us, .cons r t, f => by
    rw [List.all_cons, Bool.and_eq_true] at f
    rw [List.any_cons, List.any_cons, eqU_of r f.1, any_eqU t f.2]
theorem mem_eqAt {A : Around} {s : Shared} {x : V} {v : Value} (rx : RelV x v) (fx : flatV x = true) : ∀ {xs : List V} {us : List Value}, Vals xs us → xs.all flatV = true → ∀ u ∈ us, SeqAt.EqAt A s u v (eqU x u)
  | _, _, .nil, _ => fun u hu => by cases hu
  | y :: xs, u :: us, .cons r t, f => fun u' hu => by
    rw [List.all_cons, Bool.and_eq_true] at f
    rcases List.mem_cons.mp hu with rfl | hu
    · rw [eqU_of r f.1]; exact eqAt_V r rx f.1 fx
    · exact mem_eqAt rx fx t f.2 u' hu
def inV (x : V) (xs : List V) : Bool := xs.any fun y => eqV y x
/-- x in a list or tuple of flat items -/
def rIn (K : PySem.W.Frag) (neg : Bool) : R2 := fun x y H Q => ∃ p xs, y = .ref p ∧ (SqL K H p xs ∨ SqT K H p xs) ∧ flatV x = true ∧ xs.all flatV = true ∧ Q (.bl (if neg then !inV x xs else inV x xs)) H
theorem op_in_seq : OpR X (compareOp .In) (rIn X.K false) := by
  intro pins s σ H x y v u Q I rx ry h
  obtain ⟨p, xs, rfl, hq, fx, fs, q⟩ := h
  cases ry
  rcases hq with hq | hq
  · obtain ⟨its, r, pl, hz⟩ := I.list hq
    refine SeqAt.in_listAt (eqU x) pl.isList (fun w hw => mem_eqAt rx fx r fs w (by simpa using hw)) ⟨.bl _, H, I, rfl, ?_⟩
    rw [show its.toArray.any (eqU x) = its.any (eqU x) by simp, any_eqU r fs]
    exact q
  · obtain ⟨its, r, pl, hz⟩ := I.tuple hq
    refine SeqAt.in_tupleAt (eqU x) pl (fun w hw => mem_eqAt rx fx r fs w (by simpa using hw)) ⟨.bl _, H, I, rfl, ?_⟩
    rw [show its.toArray.any (eqU x) = its.any (eqU x) by simp, any_eqU r fs]
    exact q
/-! ### len, list(x), tuple(x) of any list or tuple that is read -/
theorem call_len_seq : CallR X (.builtin "len") (fun xs H Q => ∃ p ys, xs = [.ref p] ∧ (SqL X.K H p ys ∨ SqT X.K H p ys) ∧ Q (.int ys.length) H) := by
  intro pins s σ H xs us Q I r h
  obtain ⟨p, ys, rfl, hq, q⟩ := h
  obtain ⟨u, rfl, rx⟩ := vals1 r
  cases rx
  have hn := line63
  rcases hq with hq | hq
  · obtain ⟨its, r', pl, hz⟩ := I.list hq
    have hlen := r'.length
    exact Calls.call_len_list pl.isList (by simp only [List.size_toArray] <;> omega) ⟨.int ys.length, H, I.tok _, ⟨s.toks + 1, by rw [List.size_toArray, hlen]⟩, q⟩
  · obtain ⟨its, r', pl, hz⟩ := I.tuple hq
    have hlen := r'.length
    exact len_tuple pl (by simp only [List.size_toArray] <;> omega) ⟨.int ys.length, H, I.tok _, ⟨s.toks + 1, by rw [List.size_toArray, hlen]⟩, q⟩
theorem CallR.or {f : Value} {r r' : List V → Hp → VK → Prop} (h : CallR X f r) (h' : CallR X f r') : CallR X f (fun xs H Q => r xs H Q ∨ r' xs H Q) := by
  intro pins s σ H xs us Q I rs q
  rcases q with q | q
  · exact h pins s σ H xs us Q I rs q
  · exact h' pins s σ H xs us Q I rs q
/-! ### the call of a builtin's method: o.m(..) -/
/-- the value is of that builtin type -/
def tyV (K : PySem.W.Frag) (T : String) (x : V) (H : Hp) : Prop := match x with
  | .str _ => T = "str"
  | .int _ => T = "int"
  | .ref p => (T = "list" ∧ ∃ xs, SqL K H p xs) ∨ (T = "tuple" ∧ ∃ o, K.lookup p = some o ∧ o.cls = .type "tuple" ∧ o.dict = none) ∨
      (T = "dict" ∧ ((∃ kvs, H p = some (.dK kvs)) ∨ ∃ kvs, H p = some (.dT kvs))) ∨ (T = "set" ∧ ∃ S n, H p = some (.set S n))
  | _ => False
theorem tyV_is {pins : List (Addr × Obj)} {σ : St} {H : Hp} {s : Shared} {T : String} {x : V} {v : Value} (I : Inv X pins σ H s) (r : RelV x v) (ty : tyV X.K T x H) :
    s.TypeIs v T ∧ ∀ a, v = .ref a → ∃ ob, s.heap.get? a = some ob ∧ ob.dict = none := by
  cases x with
  | str z =>
    obtain ⟨t, rfl⟩ := r
    cases (show T = "str" from ty)
    exact ⟨typeIs_str s z t, fun _ e => nomatch e⟩
  | int i =>
    obtain ⟨t, rfl⟩ := r
    cases (show T = "int" from ty)
    exact ⟨typeIs_int s i t, fun _ e => nomatch e⟩
  | ref p =>
    cases r
    rcases ty with ⟨rfl, xs, hq⟩ | ⟨rfl, o, hk, hc, hd⟩ | ⟨rfl, hk⟩ | ⟨rfl, S, n, hk⟩
    · obtain ⟨its, _, pl, _⟩ := I.list hq
      refine ⟨pl.isList.typeIs, fun a e => ?_⟩
      cases e
      obtain ⟨o, n, e, c, hd, _⟩ := pl
      exact ⟨o, e, hd⟩
    · refine ⟨⟨o, I.kIn p o hk, hc⟩, fun a e => ?_⟩
      cases e
      exact ⟨o, I.kIn _ o hk, hd⟩
    · have z : ∃ o, s.heap.get? p = some o ∧ o.ExactDict := by
        rcases hk with ⟨kvs, hk⟩ | ⟨kvs, hk⟩
        · obtain ⟨_, _, _, _, o, _, _, e, ex, _⟩ := I.hok p _ hk
          exact ⟨o, e, ex⟩
        · obtain ⟨_, _, _, _, o, _, _, e, ex, _⟩ := I.hok p _ hk
          exact ⟨o, e, ex⟩
      obtain ⟨o, e, ex⟩ := z
      refine ⟨⟨o, e, ex.1⟩, fun a e2 => ?_⟩
      cases e2
      exact ⟨o, e, ex.2.1⟩
    · obtain ⟨o, _, _, _, e, ex, _⟩ := I.hok p _ hk
      refine ⟨⟨o, e, ex.1⟩, fun a e2 => ?_⟩
      cases e2
      exact ⟨o, e, ex.2.1⟩
  | _ => exact False.elim ty
def tBM0 (K : PySem.W.Frag) (T : String) (r : V → List V → Hp → VK → Prop) (to : TE) : TE := fun σ H Q => to σ H fun x H1 => tyV K T x H1 ∧ r x [] H1 Q
def tBM (K : PySem.W.Frag) (T : String) (r : V → List V → Hp → VK → Prop) (to : TE) (t : TA) : TE := fun σ H Q => to σ H fun x H1 => tyV K T x H1 ∧ t σ H1 fun xs H2 => r x xs H2 Q
variable {o e : Expr} {es : List Expr} {to : TE} {t : TA} {name : Str} {apos cpos : Pos} {T id : String} {r : V → List V → Hp → VK → Prop}
theorem pe_bm0 (pa : PlainAttrs T) (slot : Slot T name id) (hty : typeOf (.builtin id) = pure (.type "method_descriptor")) (hm : MtR X id r) (ho : PE X o to)
    (hbase : attributeBase o name X.env (eval o X.env) = eval o X.env := by rfl) (hline : (apos.endLine == cpos.line) = true := by rfl) : PE X (.Call (.Attribute o name apos) [] [] cpos) (tBM0 X.K T r to) := by
  intro pins s σ H Q I h
  refine wpAny_Call_method0_late hbase hline (thn (ho pins s σ H _ I h) fun v s1 ⟨x, H1, I1, r1, ty, q1⟩ => ?_)
  obtain ⟨h1, h2⟩ := tyV_is I1 r1 ty
  exact ⟨T, id, pa, slot, hty, h1, h2, Calls.callWith_builtin rfl (PySem.evalArgs_none (hm pins s1 σ H1 x [] v [] Q I1 r1 .nil q1))⟩
theorem pe_bm (pa : PlainAttrs T) (slot : Slot T name id) (hty : typeOf (.builtin id) = pure (.type "method_descriptor")) (hm : MtR X id r) (ho : PE X o to) (ha : PA X (e :: es) t)
    (hbase : attributeBase o name X.env (eval o X.env) = eval o X.env := by rfl)
    (hfew : ((backTo cpos (starEach (e :: es) X.env)).all (fun x => !x.1) && (backToKw cpos (keywordEach [] X.env)).all (fun x => x.1.isSome)
      && decide ((e :: es).length + ([] : List Keyword).length + (if ([] : List Keyword).isEmpty then 0 else 1) < 30)) = true := by rfl)
    (hline : (apos.endLine == cpos.line) = true := by rfl) (hs : starEach (e :: es) X.env = (false, eval e X.env) :: starEach es X.env := by rfl) (hplain : (backTo cpos (starEach es X.env)).any (·.1) = false := by rfl) :
    PE X (.Call (.Attribute o name apos) (e :: es) [] cpos) (tBM X.K T r to t) := by
  intro pins s σ H Q I h
  refine wpAny_Call_method_late hbase hfew hline rfl (thn (ho pins s σ H _ I h) fun v s1 ⟨x, H1, I1, r1, ty, q1⟩ => ?_)
  obtain ⟨h1, h2⟩ := tyV_is I1 r1 ty
  refine ⟨T, id, pa, slot, hty, h1, h2, ?_⟩
  have hA := ha cpos pins s1 σ H1 _ I1 q1
  rw [hs] at hA ⊢
  refine Calls.callWith_builtin (by show (false || (backTo cpos (starEach es X.env)).any (·.1)) = false; rw [hplain] <;> rfl) (Calls.evalArgs_plain ?_)
  exact thn hA fun us s2 ⟨vs, H2, I2, r2, q2⟩ => hm pins s2 σ H2 x vs v us Q I2 r1 r2 q2
end
end L2

namespace L2
open PySem PySem.Spec PyProof.Rows

def MtM (X : Cx) (id : String) (r : V → List V → Hp → VK → Prop) : Prop :=
  ∀ (pins : List (Addr × Obj)) (s : Shared) (σ : St) (H : Hp) (x : V) (xs : List V) (v : Value) (us : List Value) (Q : VK), Inv X pins σ H s → RelV x v → Vals xs us → r x xs H Q →
    wpAny (model X.prog X.w) X.A (call (.builtin id) (v :: us)) (EP X pins σ Q) X.xe s

/-! ### lists of values -/
theorem Vals.one : ∀ {x : V} {us : List Value}, Vals [x] us → ∃ u, us = [u] ∧ RelV x u
  | _, _, .cons r .nil => ⟨_, rfl, r⟩
theorem Vals.two : ∀ {x y : V} {us : List Value}, Vals [x, y] us → ∃ u v, us = [u, v] ∧ RelV x u ∧ RelV y v
  | _, _, _, .cons r (.cons q .nil) => ⟨_, _, rfl, r, q⟩
theorem Vals.zero : ∀ {us : List Value}, Vals [] us → us = []
  | _, .nil => rfl
theorem Vals.dropLast {xs : List V} {us : List Value} (h : Vals xs us) : Vals xs.dropLast us.dropLast := by
  induction h with
  | nil => exact .nil
  | cons r t ih =>
    cases t with
    | nil => exact .nil
    | cons q t' => exact .cons r ih
theorem Vals.eraseIdx : ∀ {xs : List V} {us : List Value} (i : Nat), Vals xs us → Vals (xs.eraseIdx i) (us.eraseIdx i)
  | _, _, _, .nil => .nil
  | _, _, 0, .cons _ t => t
  | _, _, i + 1, .cons r t => .cons r (Vals.eraseIdx i t)
theorem Vals.reverse {xs : List V} {us : List Value} (h : Vals xs us) : Vals xs.reverse us.reverse := by
  induction h with
  | nil => exact .nil
  | cons r t ih => rw [List.reverse_cons, List.reverse_cons]; exact Vals.append ih (.cons r .nil)
theorem erase_last {α : Type} (l : List α) : l.eraseIdx (l.length - 1) = l.dropLast := by
  induction l with
  | nil => rfl
  | cons a r ih =>
    cases r with
    | nil => rfl
    | cons b r =>
      have e : (a :: b :: r).length - 1 = ((b :: r).length - 1) + 1 := by
        have h1 : (a :: b :: r).length = r.length + 2 := rfl
        have h2 : (b :: r).length = r.length + 1 := rfl
        omega
      rw [e, List.eraseIdx_cons_succ, ih]
      all_goals rfl
section
variable {X : Cx} {pins : List (Addr × Obj)} {σ : St} {H : Hp} {s : Shared} {l b : Addr} {xs ys zs : List V}

/-! ### the two steps: a tracked list is rewritten, a new list is laid -/
theorem Inv.lset {its its' : List Value} {n : Nat} {f : Array Value → Array Value} {t' : Nat} (I : Inv X pins σ H s) (hH : H l = some (.lst xs))
    (e : s.heap.get? l = some { cls := .type "list", data := .seq its.toArray n }) (hf : f its.toArray = its'.toArray) (hv : Vals ys its') (hz : ys.length ≤ sizeLine) :
    Inv X pins σ (upd H l (.lst ys)) { s with heap := s.heap.update l (Obj.mapSeq f), toks := t' } := by
  have q := PySem.IsL.update e f
  rw [hf] at q
  refine I.write (x := l) (e := l) (by rw [hH]; exact trivial) (.inl rfl) (fun b' u hb hu => (Heap.get?_update_other s.heap (Obj.mapSeq f) (Ne.symm hb)).trans hu) ⟨_, q⟩ ?_
  exact ⟨hz, its', _, hv, q⟩
theorem Inv.lnew {its : List Value} {t' : Nat} (I : Inv X pins σ H s) (hv : Vals ys its) (hz : ys.length ≤ sizeLine) :
    Inv X pins σ (upd H s.heap.objs.size (.lst ys)) { s with heap := s.heap.push { cls := .type "list", data := .seq its.toArray }, toks := t' } :=
  I.laid (fun _ _ q => Heap.get?_push_of_some _ q) (Nat.le_refl _) ⟨hz, its, 0, hv, Heap.get?_push_size _ rfl⟩
theorem Inv.fresh (I : Inv X pins σ H s) : H s.heap.objs.size = none := I.hok.fresh (Nat.le_refl _)
theorem Inv.lstM (I : Inv X pins σ H s) (hH : H l = some (.lst xs)) : xs.length ≤ sizeLine ∧ ∃ (its : List Value) (n : Nat), Vals xs its ∧ xs.length = its.length ∧ s.heap.get? l = some { cls := .type "list", data := .seq its.toArray n } := by
  obtain ⟨z, its, n, r, e⟩ := I.hok l _ hH
  exact ⟨z, its, n, r, r.length, e⟩

theorem notLongL {n : Nat} (h : n ≤ sizeLine) : Builtin.List.listTooLong n = false := by
  unfold Builtin.List.listTooLong
  exact decide_eq_false (by omega)
end

section
variable {X : Cx}

/-! ### methods -/
def rAppend : V → List V → Hp → VK → Prop := fun x vs H Q => ∃ l xs y, x = .ref l ∧ vs = [y] ∧ H l = some (.lst xs) ∧ xs.length < sizeLine ∧ Q .non (upd H l (.lst (xs ++ [y])))
theorem mt_append : MtM X "list.append" rAppend := by
  intro pins s σ H x vs v us Q I rx rv h
  obtain ⟨l, xs, y, rfl, rfl, hH, hz, q⟩ := h
  cases rx
  obtain ⟨u, rfl, ru⟩ := rv.one
  obtain ⟨z, its, n, r, hl, e⟩ := I.lstM hH
  refine call_meets F.slot_list_append ⟨_, e, rfl⟩ F.entry_list_append (F.args_list_append_2 _ _) (PySem.list_append l its.toArray n u (by rw [List.size_toArray]; omega)) ⟨e, ?_⟩
  refine ⟨.non, _, I.lset (its' := its ++ [u]) hH e (by simp) (r.append (.cons ru .nil)) ?_, rfl, q⟩
  rw [List.length_append, List.length_singleton]
  omega

def rExtend : V → List V → Hp → VK → Prop := fun x vs H Q => ∃ l b xs zs, x = .ref l ∧ vs = [.ref b] ∧ H l = some (.lst xs) ∧ H b = some (.lst zs) ∧ xs.length + zs.length ≤ sizeLine ∧ Q .non (upd H l (.lst (xs ++ zs)))
theorem mt_extend : MtM X "list.extend" rExtend := by
  intro pins s σ H x vs v us Q I rx rv h
  obtain ⟨l, b, xs, zs, rfl, rfl, hH, hB, hz, q⟩ := h
  cases rx
  obtain ⟨u, rfl, ru⟩ := rv.one
  cases ru
  obtain ⟨z, its, n, r, hl, e⟩ := I.lstM hH
  obtain ⟨z2, its2, n2, r2, hl2, e2⟩ := I.lstM hB
  have hsz : its.toArray.size + its2.toArray.size ≤ sizeLine := by rw [List.size_toArray, List.size_toArray]; omega
  have hlong : ¬ (!its.toArray.isEmpty && Builtin.List.listTooLong (its.toArray.size + its2.toArray.size)) = true := by
    rw [notLongL hsz, Bool.and_false]
    exact Bool.false_ne_true
  refine call_meets F.slot_list_extend ⟨_, e, rfl⟩ F.entry_list_extend (F.args_list_extend_2 _ _)
    (AutoSeq1.list_extend_list_list_0 l its.toArray n b its2.toArray n2 hlong (by rw [List.size_toArray]; omega) (by omega)) ⟨e, e2, ?_⟩
  refine ⟨.non, _, I.lset (its' := its ++ its2) hH e (by simp) (r.append r2) ?_, rfl, q⟩
  rw [List.length_append]
  omega

def rPop : V → List V → Hp → VK → Prop := fun x vs H Q => ∃ l xs y, x = .ref l ∧ vs = [] ∧ H l = some (.lst xs) ∧ xs[xs.length - 1]? = some y ∧ Q y (upd H l (.lst xs.dropLast))
theorem mt_pop : MtM X "list.pop" rPop := by
  intro pins s σ H x vs v us Q I rx rv h
  obtain ⟨l, xs, y, rfl, rfl, hH, hy, q⟩ := h
  cases rx
  have hus := rv.zero
  subst hus
  obtain ⟨z, its, n, r, hl, e⟩ := I.lstM hH
  obtain ⟨u, hu, ru⟩ := r.get hy
  have hy' : its.toArray[its.toArray.size - 1]? = some u := by
    show its.toArray[its.length - 1]? = some u
    rw [← Array.getElem?_toList, ← hl]
    exact hu
  refine call_meets F.slot_list_pop ⟨_, e, rfl⟩ F.entry_list_pop (F.args_list_pop_1 _) (MeetsSeq.list_pop_last l its.toArray n u hy' (by rw [List.size_toArray]; omega)) ⟨e, ?_⟩
  refine ⟨y, _, I.lset (its' := its.dropLast) hH e ?_ r.dropLast ?_, ru, q⟩
  · show its.toArray.eraseIdxIfInBounds (its.toArray.size - 1) = its.dropLast.toArray
    rw [List.size_toArray, List.eraseIdxIfInBounds_toArray, erase_last]
  · rw [List.length_dropLast]
    omega

def rPopAt : V → List V → Hp → VK → Prop := fun x vs H Q => ∃ l xs i k y, x = .ref l ∧ vs = [.int i] ∧ H l = some (.lst xs) ∧ -(2 ^ 63) ≤ i ∧ i < 2 ^ 63 ∧ seqIndex? i xs.length = some k ∧ xs[k]? = some y ∧ Q y (upd H l (.lst (xs.eraseIdx k)))
def rReverse : V → List V → Hp → VK → Prop := fun x vs H Q => ∃ l xs, x = .ref l ∧ vs = [] ∧ H l = some (.lst xs) ∧ Q .non (upd H l (.lst xs.reverse))
def rClear : V → List V → Hp → VK → Prop := fun x vs H Q => ∃ l xs, x = .ref l ∧ vs = [] ∧ H l = some (.lst xs) ∧ Q .non (upd H l (.lst []))
/-! ### list + list, list += list, list * int -/
def rCat : R2 := fun x y H Q => ∃ l b xs zs, x = .ref l ∧ y = .ref b ∧ H l = some (.lst xs) ∧ H b = some (.lst zs) ∧ xs.length + zs.length ≤ sizeLine ∧ ∀ p, H p = none → Q (.ref p) (upd H p (.lst (xs ++ zs)))
theorem op_cat : OpR X (binaryOp .Add) rCat := by
  intro pins s σ H x y v u Q I rx ry h
  obtain ⟨l, b, xs, zs, rfl, rfl, hH, hB, hz, q⟩ := h
  cases rx
  cases ry
  obtain ⟨z, its, n, r, hl, e⟩ := I.lstM hH
  obtain ⟨z2, its2, n2, r2, hl2, e2⟩ := I.lstM hB
  refine PySem.P.add_list e e2 ?_ (by rw [List.size_toArray, List.size_toArray]; omega)
  have ea : its.toArray ++ its2.toArray = (its ++ its2).toArray := by simp
  rw [ea]
  exact ⟨.ref _, _, I.lnew (t' := s.toks) (r.append r2) (by rw [List.length_append]; omega), rfl, q _ I.fresh⟩
/-- a list times an int (a negative one is nothing) -/
def rRep : R2 := fun x y H Q => ∃ l k xs, x = .ref l ∧ y = .int k ∧ H l = some (.lst xs) ∧ -(2 ^ 63) ≤ k ∧ k < 2 ^ 63 ∧ xs.length * k.toNat ≤ sizeLine ∧
  ∀ p, H p = none → Q (.ref p) (upd H p (.lst (List.replicate k.toNat xs).flatten))
/-! ### del xs[i] -/
end

/-! ### xs[a:b] = ys -/
section
variable {prog : Program} {w : World} {A : Around} {E : Value → Shared → Prop} {s : Shared}
set_option maxRecDepth 100000 in
end

section
variable {X : Cx}
end
end L2

namespace L2
open PySem PySem.Spec PyProof.Rows

/-! ### lists of pairs as tables -/
section
variable {κ : Type} [DecidableEq κ]
def valV (kvs : List (κ × V)) (k : κ) : Option V := (kvs.find? fun kv => decide (kv.1 = k)).map (·.2)
/-- in its place, or at the end -/
def putK (kvs : List (κ × V)) (k : κ) (v : V) : List (κ × V) :=
  if (kvs.any fun kv => decide (kv.1 = k)) = true then kvs.map (fun kv => if kv.1 = k then (kv.1, v) else kv) else kvs ++ [(k, v)]
def dropK (kvs : List (κ × V)) (k : κ) : List (κ × V) := kvs.filter fun kv => decide (kv.1 ≠ k)

theorem valV_nil {k : κ} : valV ([] : List (κ × V)) k = none := rfl
theorem valV_pos {p : κ × V} {r : List (κ × V)} {k : κ} (e : p.1 = k) : valV (p :: r) k = some p.2 := by simp [valV, List.find?_cons, e]
theorem valV_neg {p : κ × V} {r : List (κ × V)} {k : κ} (e : ¬ p.1 = k) : valV (p :: r) k = valV r k := by simp [valV, List.find?_cons, e]
theorem valV_any (k : κ) : ∀ kvs : List (κ × V), (kvs.any fun kv => decide (kv.1 = k)) = (valV kvs k).isSome
  | [] => rfl
  | p :: r => by
    rw [List.any_cons]
    by_cases e : p.1 = k
    · simp only [valV_pos e, decide_eq_true e, Bool.true_or, Option.isSome_some]
    · rw [valV_neg e, decide_eq_false e, Bool.false_or]; exact valV_any k r
theorem length_putK (kvs : List (κ × V)) (k : κ) (v : V) : (putK kvs k v).length ≤ kvs.length + 1 := by
  unfold putK
  split
  · rw [List.length_map]; omega
  · rw [List.length_append, List.length_cons, List.length_nil]; omega
theorem putK_new {kvs : List (κ × V)} {k : κ} (v : V) (h : valV kvs k = none) : putK kvs k v = kvs ++ [(k, v)] := by
  unfold putK
  rw [valV_any, h]
  exact if_neg (by decide)

theorem RelO.isSome_eq {o : Option V} {u : Option Value} (r : RelO o u) : o.isSome = u.isSome := by
  cases o with
  | none => cases u with
    | none => rfl
    | some _ => exact (show False from r).elim
  | some _ => cases u with
    | none => exact (show False from r).elim
    | some _ => rfl
theorem RelO.getD {o : Option V} {u : Option Value} {d : V} {d' : Value} (r : RelO o u) (rd : RelV d d') : RelV (o.getD d) (u.getD d') := by
  cases o with
  | none => cases u with
    | none => exact rd
    | some _ => exact (show False from r).elim
  | some _ => cases u with
    | none => exact (show False from r).elim
    | some _ => exact r

/-- raw tables of the same keys -/
theorem KV.val {kvs : List (κ × V)} {vs : List (κ × Value)} (r : KV kvs vs) (k : κ) : RelO (valV kvs k) (valueAt vs k) := by
  unfold KV at r
  induction r with
  | nil => exact True.intro
  | @cons p q ps qs h t ih =>
    obtain ⟨h1, h2⟩ := h
    by_cases e : p.1 = k
    · have e' : q.1 = k := h1.symm.trans e
      have b : valueAt (q :: qs) k = some q.2 := by simp [valueAt, List.find?_cons, e']
      rw [valV_pos e, b]; exact h2
    · have e' : ¬ q.1 = k := fun z => e (h1.trans z)
      have b : valueAt (q :: qs) k = valueAt qs k := by simp [valueAt, List.find?_cons, e']
      rw [valV_neg e, b]; exact ih
theorem KV.any {kvs : List (κ × V)} {vs : List (κ × Value)} (r : KV kvs vs) (k : κ) : (kvs.any fun kv => decide (kv.1 = k)) = vs.any fun kv => decide (kv.1 = k) := by
  unfold KV at r
  induction r with
  | nil => rfl
  | cons h t ih => rw [List.any_cons, List.any_cons, ih, h.1]
theorem KV.repl {kvs : List (κ × V)} {vs : List (κ × Value)} (r : KV kvs vs) (k : κ) {y : V} {u : Value} (ry : RelV y u) :
    KV (kvs.map fun kv => if kv.1 = k then (kv.1, y) else kv) (vs.map fun kv => if kv.1 = k then (kv.1, u) else kv) := by
  unfold KV at r ⊢
  induction r with
  | nil => exact .nil
  | @cons p q ps qs h t ih =>
    rw [List.map_cons, List.map_cons]
    refine .cons ?_ ih
    obtain ⟨h1, h2⟩ := h
    by_cases e : p.1 = k
    · rw [if_pos e, if_pos (h1.symm.trans e)]; exact ⟨h1, ry⟩
    · rw [if_neg e, if_neg (fun z => e (h1.trans z))]; exact ⟨h1, h2⟩
theorem KV.put {kvs : List (κ × V)} {vs : List (κ × Value)} (r : KV kvs vs) (k : κ) {y : V} {u : Value} (ry : RelV y u) : KV (putK kvs k y) (stored vs k u) := by
  unfold putK stored
  rw [r.any k]
  by_cases e : (vs.any fun kv => decide (kv.1 = k)) = true
  · rw [if_pos e, if_pos e]; exact r.repl k ry
  · rw [if_neg e, if_neg e]; exact Paired.snoc r ⟨rfl, ry⟩
theorem KV.drop {kvs : List (κ × V)} {vs : List (κ × Value)} (r : KV kvs vs) (k : κ) : KV (dropK kvs k) (without vs k) := by
  unfold KV at r ⊢
  unfold dropK without
  induction r with
  | nil => exact .nil
  | @cons p q ps qs h t ih =>
    obtain ⟨h1, h2⟩ := h
    rw [List.filter_cons, List.filter_cons]
    by_cases e : p.1 = k
    · have a : ¬ decide (p.1 ≠ k) = true := by simp [e]
      have b : ¬ decide (q.1 ≠ k) = true := by simp [h1.symm.trans e]
      rw [if_neg a, if_neg b]; exact ih
    · have e' : ¬ q.1 = k := fun z => e (h1.trans z)
      have a : decide (p.1 ≠ k) = true := by simp [e]
      have b : decide (q.1 ≠ k) = true := by simp [e']
      rw [if_pos a, if_pos b]; exact .cons ⟨h1, h2⟩ ih
theorem KV.keys {kvs : List (κ × V)} {vs : List (κ × Value)} (r : KV kvs vs) : kvs.map (·.1) = vs.map (·.1) := by
  unfold KV at r
  induction r with
  | nil => rfl
  | cons h t ih => rw [List.map_cons, List.map_cons, ih, h.1]
theorem KV.length {kvs : List (κ × V)} {vs : List (κ × Value)} (r : KV kvs vs) : kvs.length = vs.length := Paired.length r
end


/-! ### a tracked dict, its keys ints and texts or tuples of these -/
theorem kV_is {P : Program} {w : World} {k : Key} {u : Value} (r : RelV (kV k) u) : (mixKind P w).is k u = true := by
  cases k with
  | inl i => obtain ⟨t, e⟩ := (show ∃ t, u = Value.int i t from r); subst e; exact mixKind_int P w i t
  | inr x => obtain ⟨t, e⟩ := (show ∃ t, u = Value.str x t from r); subst e; exact mixKind_str P w x t
theorem items_are {P : Program} {w : World} : ∀ {ks : List Key} {us : List Value}, Vals (ks.map kV) us → ItemsAre (mixKind P w) ks us
  | [], _, r => by rw [List.map_nil] at r; cases r; exact .nil
  | k :: ks, _, r => by
    rw [List.map_cons] at r
    cases r with
    | cons h t => exact .cons (kV_is h) (items_are t)

/-- raw entries of a dict with tuple keys -/
abbrev KT (H : Hp) : List (List Key × V) → List (List Key × Addr × Value) → Prop := Paired fun p q => p.1 = q.1 ∧ H q.2.1 = some (.tup (p.1.map kV)) ∧ RelV p.2 q.2.2
theorem KT.val {H : Hp} {kvs : List (List Key × V)} {xs : List (List Key × Addr × Value)} (r : KT H kvs xs) (k : List Key) : RelO (valV kvs k) ((atKey xs k).map (·.2)) := by
  induction r with
  | nil => exact True.intro
  | @cons p q ps qs h t ih =>
    obtain ⟨h1, _, h2⟩ := h
    by_cases e : p.1 = k
    · have e' : q.1 = k := h1.symm.trans e
      have b : atKey (q :: qs) k = some q.2 := by simp [atKey, List.find?_cons, e']
      rw [valV_pos e, b]; exact h2
    · have e' : ¬ q.1 = k := fun z => e (h1.trans z)
      have b : atKey (q :: qs) k = atKey qs k := by simp [atKey, List.find?_cons, e']
      rw [valV_neg e, b]; exact ih
theorem KT.repl {H : Hp} {kvs : List (List Key × V)} {xs : List (List Key × Addr × Value)} (r : KT H kvs xs) (k : List Key) {y : V} {u : Value} (ry : RelV y u) :
    KT H (kvs.map fun kv => if kv.1 = k then (kv.1, y) else kv) (xs.map (putAt k u)) := by
  induction r with
  | nil => exact .nil
  | @cons p q ps qs h t ih =>
    rw [List.map_cons, List.map_cons]
    refine .cons ?_ ih
    obtain ⟨h1, h2, h3⟩ := h
    unfold putAt
    by_cases e : p.1 = k
    · rw [if_pos e, if_pos (h1.symm.trans e)]; exact ⟨h1, h2, ry⟩
    · rw [if_neg e, if_neg (fun z => e (h1.trans z))]; exact ⟨h1, h2, h3⟩
theorem KT.put {H : Hp} {kvs : List (List Key × V)} {xs : List (List Key × Addr × Value)} (r : KT H kvs xs) (k : List Key) {b : Addr} {y : V} {u : Value} (hb : H b = some (.tup (k.map kV))) (ry : RelV y u) :
    KT H (putK kvs k y) (storedH xs k b u) := by
  have e : (kvs.any fun kv => decide (kv.1 = k)) = (atKey xs k).isSome := by
    rw [valV_any, (r.val k).isSome_eq, Option.isSome_map]
  unfold putK storedH
  rw [e]
  by_cases q : (atKey xs k).isSome = true
  · rw [if_pos q, if_pos q]; exact r.repl k ry
  · rw [if_neg q, if_neg q]; exact Paired.snoc r ⟨rfl, hb, ry⟩
theorem KT.keeps {H H' : Hp} {kvs : List (List Key × V)} {xs : List (List Key × Addr × Value)} (r : KT H kvs xs) (ht : ∀ b ys, H b = some (.tup ys) → H' b = some (.tup ys)) : KT H' kvs xs :=
  Paired.mapP r fun _ _ z => ⟨z.1, ht _ _ z.2.1, z.2.2⟩

section
variable {P : Program} {w : World} {H : Hp} {h : Heap} {a : Addr}
theorem rd_of {u : HO} (ok : HOk P w H h) (e : Rd H a u) : ObjOk P w H h a u := e.ok ok
theorem dk_rd {kvs : List (Key × V)} (ok : HOk P w H h) (e : Rd H a (.dK kvs)) : kvs.length ≤ sizeLine ∧ (a == sysModules) = false ∧ ∃ vs, KV kvs vs ∧ h.DictOf (mixKind P w) a vs :=
  show ObjOk P w H h a (.dK kvs) from rd_of ok e
theorem dk_of {kvs : List (Key × V)} (ok : HOk P w H h) (e : H a = some (.dK kvs)) : kvs.length ≤ sizeLine ∧ (a == sysModules) = false ∧ ∃ vs, KV kvs vs ∧ h.DictOf (mixKind P w) a vs := dk_rd ok (.inl e)
/-- a tracked tuple of ints and texts is a key -/
theorem key_of {ks : List Key} (ok : HOk P w H h) (e : H a = some (.tup (ks.map kV))) : (tupleKind (mixKind P w)).is h ks a := by
  obtain ⟨_, its, r, o, h1, h2, n, h3⟩ := (show ObjOk P w H h a (.tup (ks.map kV)) from ok a _ e)
  exact ⟨o, its.toArray, n, h1, h2, h3, by simpa using items_are r⟩
theorem dt_rd {kvs : List (List Key × V)} (ok : HOk P w H h) (e : Rd H a (.dT kvs)) : kvs.length ≤ sizeLine ∧ (a == sysModules) = false ∧
    ∃ xs, KT H kvs xs ∧ h.DictOfH (tupleKind (mixKind P w)) a xs := by
  obtain ⟨z, y, xs, r, o, es, ep, h1, h2, h3, h4, h5⟩ := (show ObjOk P w H h a (.dT kvs) from rd_of ok e)
  refine ⟨z, y, xs, r, o, es, ep, h1, h2, h3, h4, fun x hx => ?_, h5⟩
  have all : ∀ {l : List (List Key × V)} {m : List (List Key × Addr × Value)}, KT H l m → ∀ x ∈ m, (tupleKind (mixKind P w)).is h x.1 x.2.1 := by
    intro l m q
    induction q with
    | nil => intro x hx; exact nomatch hx
    | @cons p q ps qs hq t ih =>
      intro x hx
      rcases List.mem_cons.mp hx with e | hx
      · subst e
        exact key_of ok (by rw [← hq.1]; exact hq.2.1)
      · exact ih x hx
  exact all r x hx
end

/-- what the dict at a holds at the key y -/
def DGet (H : Hp) (a : Addr) (y : V) (r : Option V) : Prop :=
  (∃ kvs k, Rd H a (.dK kvs) ∧ y = kV k ∧ r = valV kvs k) ∨ ∃ kvs k b, Rd H a (.dT kvs) ∧ y = .ref b ∧ H b = some (.tup (k.map kV)) ∧ r = valV kvs k
/-- the heap behind a[y] = v -/
def DPut (H : Hp) (a : Addr) (y v : V) (H' : Hp) : Prop :=
  (∃ kvs k, H a = some (.dK kvs) ∧ y = kV k ∧ kvs.length < sizeLine ∧ H' = upd H a (.dK (putK kvs k v))) ∨
  ∃ kvs k b, H a = some (.dT kvs) ∧ y = .ref b ∧ H b = some (.tup (k.map kV)) ∧ kvs.length < sizeLine ∧ H' = upd H a (.dT (putK kvs k v))
theorem DGet.k {H : Hp} {a : Addr} {kvs : List (Key × V)} {k : Key} (e : H a = some (.dK kvs)) : DGet H a (kV k) (valV kvs k) := .inl ⟨kvs, k, .inl e, rfl, rfl⟩
theorem DGet.t {H : Hp} {a b : Addr} {kvs : List (List Key × V)} {k : List Key} (e : H a = some (.dT kvs)) (eb : H b = some (.tup (k.map kV))) : DGet H a (.ref b) (valV kvs k) := .inr ⟨kvs, k, b, .inl e, rfl, eb, rfl⟩
theorem DPut.k {H : Hp} {a : Addr} {kvs : List (Key × V)} {k : Key} {v : V} (e : H a = some (.dK kvs)) (hl : kvs.length < sizeLine) : DPut H a (kV k) v (upd H a (.dK (putK kvs k v))) := .inl ⟨kvs, k, e, rfl, hl, rfl⟩
theorem DPut.t {H : Hp} {a b : Addr} {kvs : List (List Key × V)} {k : List Key} {v : V} (e : H a = some (.dT kvs)) (eb : H b = some (.tup (k.map kV))) (hl : kvs.length < sizeLine) :
    DPut H a (.ref b) v (upd H a (.dT (putK kvs k v))) := .inr ⟨kvs, k, b, e, rfl, eb, hl, rfl⟩


section
variable {X : Cx} {pins : List (Addr × Obj)} {σ : St} {H : Hp} {s : Shared} {a : Addr} {y v : V} {u r : Value} {o : Option V} {A : Around} {E : Value → Shared → Prop}

theorem Inv.big (I : Inv X pins σ H s) : sysModules < s.heap.objs.size := by
  have h : mainGlobals < s.heap.objs.size := (I.mod.glob.keeps I.bk).lt
  exact Nat.lt_trans (by decide) h

/-- d[y], there -/
theorem d_getItem {Q : Value → Shared → Prop} (hu : A.units + 1 < cLine) (I : Inv X pins σ H s) (g : DGet H a y (some v)) (ry : RelV y u) (h : ∀ w' s', Inv X pins σ H s' → RelV v w' → Q w' s') :
    wpAny (model X.prog X.w) A (getItem (.ref a) u) Q E s := by
  rcases g with ⟨kvs, k, e, ey, l⟩ | ⟨kvs, k, b, e, ey, eb, l⟩
  · subst ey
    obtain ⟨z, hd, vs, rel, dd⟩ := dk_rd I.hok e
    obtain ⟨w', hw, rw'⟩ := RelO.some_of (v := v) (o := valueAt vs k) (by rw [l]; exact rel.val k)
    exact wpAny_getItem_of (kV_is ry) dd.mapOf hw (h w' _ (I.tok _) rw')
  · subst ey
    cases (show u = Value.ref b from ry)
    obtain ⟨z, hd, xs, rel, dd⟩ := dt_rd I.hok e
    obtain ⟨w', hw, rw'⟩ := RelO.some_of (v := v) (o := (atKey xs k).map (·.2)) (by rw [l]; exact rel.val k)
    obtain ⟨p, hp, hp2⟩ := Option.map_eq_some_iff.mp hw
    refine wpAny_getItem_heap (tupleKind_room_in1 hu) (key_of I.hok eb) dd hp ?_
    rw [hp2]
    exact h w' _ (I.tok _) rw'
/-- a dict's object is replaced -/
theorem d_write {h' : Heap} {t' : Nat} {ob : HO} (I : Inv X pins σ H s) (mu : Mut (H a)) (hs : Heap.SameBut a s.heap h') (he : ∃ q, h'.get? a = some q) (new : ObjOk X.prog X.w (upd H a ob) h' a ob) :
    Inv X pins σ (upd H a ob) { s with heap := h', toks := t' } :=
  I.write (x := a) (e := a) mu (.inl rfl) (fun b q hb z => (hs.2 b hb).trans z) he new
theorem dk_new {P : Program} {w : World} {H' : Hp} {h' : Heap} {kvs : List (Key × V)} {vs : List (Key × Value)} (z : kvs.length ≤ sizeLine) (hd : (a == sysModules) = false) (rel : KV kvs vs) (dd : h'.DictOf (mixKind P w) a vs) :
    ObjOk P w H' h' a (.dK kvs) := ⟨z, hd, vs, rel, dd⟩
end

section
variable {X : Cx} {pins : List (Addr × Obj)} {σ : St} {H : Hp} {s : Shared} {a : Addr} {kvs : List (Key × V)} {k : Key} {u : Value} {A : Around} {E : Value → Shared → Prop}
end


/-! ### readings and rules -/
/-- the element of a subscription, not a slice -/
def NoSl (i : Expr) : Prop := ∀ ov iv, subscripted i false ov iv = operate [ov, iv] (getItem ov iv)
theorem subD_of {prog : Program} {w : World} {A : Around} {E : Value → Shared → Prop} {s : Shared} {env : Env} {value slice : Expr} {pos : Pos} {T id : String} {Q : Value → Shared → Prop}
    (hl : typeLookup (.type T) "__getitem__" = pure (some (.builtin id))) (hs : NoSl slice)
    (h : wpAny (model prog w) A (eval value env) (fun o s₁ => wpAny (model prog w) A (eval slice env) (fun i s₂ => s₂.TypeIs o T ∧ wpAny (model prog w) A (getItem o i) Q E s₂) E s₁) E s) :
    wpAny (model prog w) A (eval (.Subscript value slice pos) env) Q E s := by
  refine Subscript_ (wpAny_mono h (fun o s₁ h₁ => wpAny_mono h₁ (fun i s₂ h₂ => ?_) fun _ _ x => x) fun _ _ x => x)
  obtain ⟨hT, h₂⟩ := h₂
  unfold subscriptTail
  refine wpAny_bind ?_
  rw [getitemInPython_of_ne hT.not_modules]
  refine wpAny_bind (wpAny_specialOf hT hl ?_)
  have fin : wpAny (model prog w) A (subscripted slice false o i) (fun r s₃ => wpAny (model prog w) A (letTemporaryGo value o r >>= fun _ => pure r) Q E s₃) E s₂ := by
    rw [hs o i]
    exact wpAny_operating (wpAny_mono h₂ (fun r s₃ h₃ => wpAny_bind (wpAny_letTemporaryGo (wpAny_pure h₃))) fun _ _ x => x)
  first
    | exact wpAny_pure (wpAny_bind fin)
    | exact wpAny_bind (wpAny_pure (wpAny_bind fin))
    | exact wpAny_bind fin

theorem dict_typeIs {X : Cx} {pins : List (Addr × Obj)} {σ : St} {H : Hp} {s : Shared} {a : Addr} {y : V} {o : Option V} (I : Inv X pins σ H s) (g : DGet H a y o) : s.TypeIs (.ref a) "dict" := by
  rcases g with ⟨kvs, k, e, _, _⟩ | ⟨kvs, k, b, e, _, _, _⟩
  · obtain ⟨_, _, vs, _, dd⟩ := dk_rd I.hok e
    exact dd.typeIs
  · obtain ⟨_, _, xs, _, dd⟩ := dt_rd I.hok e
    exact dd.typeIs
/-- d[y] -/
def tDGet (td ty : TE) : TE := fun σ H Q => td σ H fun x H1 => ty σ H1 fun y H2 => ∃ a v, x = .ref a ∧ DGet H2 a y (some v) ∧ Q v H2
/-- y in d, y not in d -/
def tDIn (ty td : TE) : TE := fun σ H Q => ty σ H fun y H1 => td σ H1 fun x H2 => ∃ a o, x = .ref a ∧ DGet H2 a y o ∧ Q (.bl o.isSome) H2
def tDNotIn (ty td : TE) : TE := fun σ H Q => ty σ H fun y H1 => td σ H1 fun x H2 => ∃ a o, x = .ref a ∧ DGet H2 a y o ∧ Q (.bl (!o.isSome)) H2
/-- d[y] = v -/
def sDPut (td ty tv : TE) : TS := fun D σ H => tv σ H fun v H1 => td σ H1 fun x H2 => ty σ H2 fun y H3 => ∃ a H4, x = .ref a ∧ DPut H3 a y v H4 ∧ D.nx σ H4
/-- d[y] op= v -/
def sDAug (td ty tv : TE) (rd : V → V → Hp → VK → Prop) : TS := fun D σ H => td σ H fun x H1 => ty σ H1 fun y H2 => ∃ a v, x = .ref a ∧ DGet H2 a y (some v) ∧
  tv σ H2 fun y2 H3 => rd v y2 H3 fun z H4 => ∃ H5, DPut H4 a y z H5 ∧ D.nx σ H5
/-- del d[y] -/
def sDDel (td ty : TE) : TS := fun D σ H => td σ H fun x H1 => ty σ H1 fun y H2 => ∃ a kvs k, x = .ref a ∧ H2 a = some (.dK kvs) ∧ y = kV k ∧ (valV kvs k).isSome = true ∧ D.nx σ (upd H2 a (.dK (dropK kvs k)))

section
variable {X : Cx} {o i e value : Expr} {pos pos' tpos : Pos} {td ty tv : TE}
theorem pe_dget (hu : X.A.units + 1 < cLine) (ho : PE X o td) (hi : PE X i ty) (hs : NoSl i) : PE X (.Subscript o i pos) (tDGet td ty) := by
  intro pins s σ H Q I h
  refine subD_of PySem.F.slot_dict_getitem.lookup hs (thn (ho pins s σ H _ I h) fun u s1 ⟨x, H1, I1, rx, q1⟩ => thn (hi pins s1 σ H1 _ I1 q1) fun iv s2 ⟨y, H2, I2, ry, a, v, ex, g, q2⟩ => ?_)
  subst ex
  obtain rfl : u = Value.ref a := rx
  exact ⟨dict_typeIs I2 g, d_getItem hu I2 g ry fun w' s3 I3 rw' => ⟨v, H2, I3, rw', q2⟩⟩
end


/-! ### displays -/
theorem dk_empty {P : Program} {w : World} {H : Hp} (h : Heap) (hb : sysModules < h.objs.size) : ObjOk P w H (h.push { cls := .type "dict", data := .dict #[] }) h.objs.size (.dK []) :=
  ⟨Nat.zero_le _, beq_eq_false_iff_ne.mpr (Ne.symm (Nat.ne_of_lt hb)), [], .nil, Heap.DictOf.new h⟩
/-- {}, to be a dict of the kind that is wanted -/
def tDNewK : TE := fun _ H Q => ∀ p, H p = none → Q (.ref p) (upd H p (.dK []))
def tDNewT : TE := fun _ H Q => ∀ p, H p = none → Q (.ref p) (upd H p (.dT []))
section
variable {X : Cx} {pos : Pos}
theorem pe_dnewK : PE X (.Dict [] [] pos) tDNewK := fun pins s σ H Q I h =>
  wpAny_Dict_empty ⟨.ref s.heap.objs.size, _, I.laid (a := s.heap.objs.size) (o := .dK []) (t' := s.toks) (fun _ _ q => Heap.get?_push_of_some _ q) (Nat.le_refl _) (dk_empty s.heap I.big), rfl, h _ (I.hok.fresh (Nat.le_refl _))⟩
end

/-- the pairs of a display, from the left -/
def tPairs : List (TE × TE) → St → Hp → (List (V × V) → Hp → Prop) → Prop
  | [], _, H, Q => Q [] H
  | (tk, tv) :: r, σ, H, Q => tk σ H fun x H1 => tv σ H1 fun y H2 => tPairs r σ H2 fun ps H3 => Q ((x, y) :: ps) H3
abbrev VV : List (V × V) → List (Value × Value) → Prop := Paired fun p q => RelV p.1 q.1 ∧ RelV p.2 q.2
def PPs (X : Cx) (pos : Pos) (keys : List (Option Expr)) (values : List Expr) (trs : List (TE × TE)) : Prop :=
  ∀ (pins : List (Addr × Obj)) (s : Shared) (σ : St) (H : Hp) (Q : List (V × V) → Hp → Prop), Inv X pins σ H s → tPairs trs σ H Q →
    wpAny (model X.prog X.w) X.A (evalPairs (pairTrees keys values X.env pos)) (fun vs s' => ∃ ps H', Inv X pins σ H' s' ∧ VV ps vs ∧ Q ps H') X.xe s
theorem pps_nil {X : Cx} {pos : Pos} : PPs X pos [] [] [] := fun pins s σ H Q I h => pairTrees_nil_walk ⟨[], H, I, .nil, h⟩
theorem pps_cons {X : Cx} {pos : Pos} {k v : Expr} {ks : List (Option Expr)} {vs : List Expr} {tk tv : TE} {trs : List (TE × TE)} (hk : PE X k tk) (hv : PE X v tv) (hr : PPs X pos ks vs trs) :
    PPs X pos (some k :: ks) (v :: vs) ((tk, tv) :: trs) := fun pins s σ H Q I h =>
  pairTrees_cons_walk (thn (hk pins s σ H _ I h) fun u s1 ⟨x, H1, I1, rx, q1⟩ => thn (hv pins s1 σ H1 _ I1 q1) fun w2 s2 ⟨y, H2, I2, ry, q2⟩ =>
    thn (hr pins s2 σ H2 _ I2 q2) fun ws s3 ⟨ps, H3, I3, rel, q3⟩ => ⟨(x, y) :: ps, H3, I3, .cons ⟨rx, ry⟩ rel, q3⟩)

def mergeK (kvs more : List (Key × V)) : List (Key × V) := more.foldl (fun acc kv => putK acc kv.1 kv.2) kvs
theorem KV.merge : ∀ {more : List (Key × V)} {rs : List (Key × Value)} {kvs : List (Key × V)} {vs : List (Key × Value)}, KV more rs → KV kvs vs → KV (mergeK kvs more) (merged vs rs) := by
  intro more rs kvs vs r
  unfold KV at r
  induction r generalizing kvs vs with
  | nil => intro q; exact q
  | @cons p q ps qs h t ih =>
    intro r0
    have e : KV (putK kvs p.1 p.2) (stored vs q.1 q.2) := by
      have := r0.put p.1 h.2
      rw [← h.1]; exact this
    exact ih e
theorem length_mergeK : ∀ (more kvs : List (Key × V)), (mergeK kvs more).length ≤ kvs.length + more.length
  | [], kvs => by show kvs.length ≤ kvs.length + 0; omega
  | p :: r, kvs => by
    have h1 := length_mergeK r (putK kvs p.1 p.2)
    have h2 := length_putK kvs p.1 p.2
    show (mergeK (putK kvs p.1 p.2) r).length ≤ _
    rw [List.length_cons]; omega
theorem carries_of {P : Program} {w : World} : ∀ {kvs : List (Key × V)} {ws : List (Value × Value)}, VV (kvs.map fun kv => (kV kv.1, kv.2)) ws → ∃ rs, Carries (mixKind P w) ws rs ∧ KV kvs rs
  | [], _, r => by rw [List.map_nil] at r; cases r; exact ⟨[], True.intro, .nil⟩
  | p :: kvs, _, r => by
    rw [List.map_cons] at r
    cases r with
    | @cons a b as bs h t =>
      obtain ⟨rs, c, q⟩ := carries_of (P := P) (w := w) t
      obtain ⟨b1, b2⟩ := b
      exact ⟨(p.1, b2) :: rs, ⟨kV_is h.1, rfl, c⟩, .cons ⟨rfl, h.2⟩ q⟩
/-- {k: v, ..} with keys ints and texts; the new dict stands empty while the pairs are made -/
def tDisp (trs : List (TE × TE)) : TE := fun σ H Q => ∀ p, H p = none → tPairs trs σ (upd H p (.dK [])) fun ps H2 => H2 p = some (.dK []) ∧ ∃ kvs : List (Key × V), ps = kvs.map (fun kv => (kV kv.1, kv.2)) ∧ kvs.length ≤ 15 ∧ Q (.ref p) (upd H2 p (.dK (mergeK [] kvs)))
theorem pe_disp {X : Cx} {pos : Pos} {keys : List (Option Expr)} {values : List Expr} {trs : List (TE × TE)} (h : PPs X pos keys values trs) (hall : keys.all (·.isSome) = true) (hl : keys.length = values.length) (h0 : keys ≠ [])
    (h15 : keys.length ≤ 15) : PE X (.Dict keys values pos) (tDisp trs) := by
  intro pins s σ H Q I q
  have hn := I.hok.fresh (Nat.le_refl s.heap.objs.size)
  have I1 := I.laid (a := s.heap.objs.size) (o := .dK []) (h' := s.heap.push { cls := .type "dict", data := .dict #[] }) (t' := s.toks) (fun _ _ q => Heap.get?_push_of_some _ q) (Nat.le_refl _) (dk_empty s.heap I.big)
  refine wpAny_Dict_walk (knd := mixKind X.prog X.w) hall hl h0 h15 (thn (h pins _ σ _ _ I1 (q _ hn)) fun ws s2 ⟨ps, H2, I2, rel, e, kvs, ep, lk, q2⟩ => ?_)
  subst ep
  obtain ⟨rs, c, rk⟩ := carries_of (P := X.prog) (w := X.w) rel
  obtain ⟨z, hd, vs0, r0, dd⟩ := dk_of I2.hok e
  cases r0
  refine ⟨rs, c, dd, fun h' dd' hs => ⟨.ref s.heap.objs.size, _, ?_, rfl, q2⟩⟩
  have hz : (mergeK [] kvs).length ≤ sizeLine := by
    have h1 := length_mergeK kvs []
    rw [List.length_nil] at h1
    rw [sizeLine_eq]; omega
  have he : ∃ q, h'.get? s.heap.objs.size = some q := let ⟨q, _, _, hq, _⟩ := dd'; ⟨q, hq⟩
  exact d_write I2 (by rw [e]; exact True.intro) hs he (dk_new hz hd (rk.merge .nil) dd')


/-! ### methods -/
/-- a method call o.m(e) of a built-in, with one argument: what must be seen of the text -/
structure M1 (X : Cx) (o : Expr) (m : Str) (apos : Pos) (e : Expr) (cpos : Pos) : Prop where
  base : attributeBase o m X.env (eval o X.env) = eval o X.env
  few : ((backTo cpos (starEach [e] X.env)).all (fun x => !x.1) && (backToKw cpos (keywordEach [] X.env)).all (fun x => x.1.isSome)
    && decide (([e] : List Expr).length + ([] : List Keyword).length + (if ([] : List Keyword).isEmpty then 0 else 1) < 30)) = true
  line : (apos.endLine == cpos.line) = true
  trees : backTo cpos (starEach [e] X.env) = [(false, eval e X.env)]
structure M2 (X : Cx) (o : Expr) (m : Str) (apos : Pos) (e f : Expr) (cpos : Pos) : Prop where
  base : attributeBase o m X.env (eval o X.env) = eval o X.env
  few : ((backTo cpos (starEach [e, f] X.env)).all (fun x => !x.1) && (backToKw cpos (keywordEach [] X.env)).all (fun x => x.1.isSome)
    && decide (([e, f] : List Expr).length + ([] : List Keyword).length + (if ([] : List Keyword).isEmpty then 0 else 1) < 30)) = true
  line : (apos.endLine == cpos.line) = true
  trees : backTo cpos (starEach [e, f] X.env) = [(false, eval e X.env), (false, eval f X.env)]

/-- a is a dict, whatever its keys -/
def IsD (H : Hp) (a : Addr) : Prop := (∃ kvs, Rd H a (.dK kvs)) ∨ ∃ kvs, Rd H a (.dT kvs)
section
variable {X : Cx} {pins : List (Addr × Obj)} {σ : St} {H : Hp} {s : Shared} {a : Addr} {y d : V} {u r : Value} {o : Option V} {A : Around} {E : Value → Shared → Prop}
end

def tDGet1 (td ty : TE) : TE := fun σ H Q => td σ H fun x H1 => ∃ a, x = .ref a ∧ IsD H1 a ∧ ty σ H1 fun y H2 => ∃ o, DGet H2 a y o ∧ Q (o.getD .non) H2
def tDGet2 (td ty tx : TE) : TE := fun σ H Q => td σ H fun x H1 => ∃ a, x = .ref a ∧ IsD H1 a ∧ ty σ H1 fun y H2 => tx σ H2 fun z H3 => ∃ o, DGet H3 a y o ∧ Q (o.getD z) H3
/-- d.pop(k): there; d.pop(k, x): there or not -/
def tDPop1 (td ty : TE) : TE := fun σ H Q => td σ H fun x H1 => ∃ a, x = .ref a ∧ IsD H1 a ∧ ty σ H1 fun y H2 => ∃ kvs k v, H2 a = some (.dK kvs) ∧ y = kV k ∧ valV kvs k = some v ∧ Q v (upd H2 a (.dK (dropK kvs k)))
def tDPop2 (td ty tx : TE) : TE := fun σ H Q => td σ H fun x H1 => ∃ a, x = .ref a ∧ IsD H1 a ∧ ty σ H1 fun y H2 => tx σ H2 fun z H3 => ∃ kvs k, H3 a = some (.dK kvs) ∧ y = kV k ∧
  (∀ v, valV kvs k = some v → Q v (upd H3 a (.dK (dropK kvs k)))) ∧ (valV kvs k = none → Q z H3)
section
variable {X : Cx} {o e f : Expr} {apos cpos : Pos} {td ty tx : TE}
end

/-! ### dict(d): a copy -/
section
variable {X : Cx} {pins : List (Addr × Obj)} {σ : St} {H : Hp} {s : Shared} {a : Addr} {kvs : List (Key × V)} {A : Around} {E : Value → Shared → Prop}
end


section
variable {X : Cx} {pins : List (Addr × Obj)} {σ : St} {H : Hp} {s : Shared} {a : Addr} {y : V} {u : Value} {A : Around} {E : Value → Shared → Prop}
end
end L2

namespace Att
open PySem PySem.W PySem.Calls PyProof.Rows

/-! ### the script -/
theorem ints_of_wellAll {P : Params} {h : Heap} : ∀ (ns : List Int) (vs : List Value), WellAll P h vs (ns.map WData.int) → IntsAre vs ns := by
  intro ns
  induction ns with
  | nil =>
    intro vs w
    rw [List.map_nil] at w
    cases w
    exact .nil
  | cons n ns ih =>
    intro vs w
    rw [List.map_cons] at w
    cases w with
    | cons a b =>
      cases a
      exact .cons _ _ (ih _ b)

theorem script_of {l : OpenLaw} {n : Nat} (hn : l.most = some n) {P : Params} {h : Heap} {args : List WData} {vals : List Value}
    (hpre : l.row.toRowW.claim.pre args = true) (hwl : WellAll P h vals args) :
    ∃ a vs ns, vals = [Value.ref a] ∧ args = [WData.list (ns.map WData.int)] ∧ h.get? a = some { cls := .type "list", data := .seq vs.toArray } ∧ IntsAre vs ns ∧ ns.length ≤ n := by
  have hsh : WShape.hasAll [] args [.list .int] = true := (pre_splitW hpre).1
  have hc : l.pre.holds [] { args := args } = true := (pre_splitW hpre).2
  obtain ⟨d, r, rfl, h1, h2⟩ := hasAllW_cons hsh
  obtain rfl := hasAllW_nil h2
  obtain ⟨xs, rfl, h3⟩ := hasW_list h1
  obtain ⟨ns, rfl⟩ := items_int h3
  have hlen : ns.length ≤ n := by
    unfold OpenLaw.pre at hc
    have h4 : (WTm.not (.lt (.lit (.int (n : Int))) (.len (.arg 0)))).holds [] { args := [.list (ns.map .int)] } = true := by
      have h4 := (holds_andW hc).1
      rw [hn] at h4
      exact h4
    have h5 := condW_of h4 (w_not (w_lt w_lit (w_len_list (w_arg rfl))))
    rw [List.length_map] at h5
    refine Nat.le_of_not_lt fun q => ?_
    have q' : (n : Int) < ((ns.length : Nat) : Int) := by omega
    first
      | (rw [decide_eq_true q'] at h5; exact absurd h5 (by decide))
      | (simp at h5; omega)
  cases hwl with
  | cons w1 w2 =>
    cases w2
    cases w1 with
    | list ho hall => exact ⟨_, _, ns, rfl, rfl, ho, ints_of_wellAll ns _ hall, hlen⟩

theorem post_true (l : OpenLaw) (args : List WData) : l.row.toRowW.claim.post args (.bool true) args = true :=
  postW_of (r := l.row.toRowW) (X := (true == true))
    (show WShape.has [] (.bool true) .bool = true by first | rfl | decide | simp [WShape.has, WShape.arms, WShape.armsAll])
    (show (WTm.eq .res (.lit (.bool true))).value [] { args := args, res := some (.bool true), after := args } = some (.bool (true == true)) from w_eq_bool (w_res rfl) w_lit) rfl

/-! ### the attachment: holds_open's last premise (the goal 'hc' behind k_head) from a wpAny of the law's body -/
/-- the same from a codeAny of the CALL (for a layer whose function contracts speak of calls) -/
theorem attach_call {l : OpenLaw} {n : Nat} {q : Program} {loose : List Str} {XP : (Str → Option Value) → Heap → Prop} {YP : World → Heap → Prop} {d : DefRec}
    (hn : l.most = some n) (hdf : d.params.defaults = [])
    (call : ∀ (w : World) (s₀ s₁ : Shared) (mg mb : Str → Option Value) (fa : Addr) (o : Obj) (pm cd doc : Value) (a : Addr) (vs : List Value) (ns : List Int),
      Ground q loose [] XP w s₀ mg mb s₁.heap → YP w s₁.heap →
      s₁.heap.get? fa = some o → o.data = .func (docDef d.name d.params d.body d.scope pm cd doc) → s₁.heap.CodeRec cd d.name → mg d.name = some (.ref fa) →
      s₁.heap.get? a = some { cls := .type "list", data := .seq vs.toArray } → IntsAre vs ns → ns.length ≤ n → s₁.gens = #[] →
      codeAny (model l.prog w) callerA (.call (.ref fa) ⟨[.ref a], []⟩) (fun r s' => r = .ok (.ret (.bool true)) ∧ OldK s₁.heap s'.heap ∧ s'.os = s₁.os ∧ AllBare s'.gens) s₁) :
    WalkO q loose XP YP l.row.toRowW d [] (fun f vs => PySem.call f vs) := by
  intro w s₀ s₁ mg mb G Y fa o pm cd doc dV kV ho hd hcd hD hmg hg args vals as hpre hlay hrd hwl hlo
  obtain rfl : dV = .none := Dflts.none hD hdf
  obtain rfl : kV = .none := Dflts.noKw hD
  obtain ⟨a, vs, ns, rfl, rfl, hobj, hints, hlen⟩ := script_of hn hpre hwl
  refine enter_call (codeAny_mono (call w s₀ s₁ mg mb fa o pm cd doc a vs ns G Y ho (fd_plain hd) hcd hmg hobj hints hlen hg) fun r s' hq => ?_)
  obtain ⟨rfl, h2, h3, h4⟩ := hq
  exact ⟨.inl ⟨.bool true, .bool true, [], rfl, fun _ => rfl, .bool true, post_true l _, fun _ => ⟨List.Pairwise.nil, fun _ hm => (nomatch hm)⟩⟩, h2, h3, h4⟩

/-! ### rules over ANY heap (no ledger) from facts about the written part K: the library's own take a ledger (News) for what they write -/
section
variable {prog : Program} {w : World} {A : Around} {E : Value → Shared → Prop} {s : Shared} {K : Frag}

/-! the whole heap as the ledger: makes every rule that writes through a ledger a rule over any heap -/
def noObjs (h : Heap) : Heap := { h with objs := #[] }
def ledger (h : Heap) (L d : Addr) : List (Addr × Obj) := (List.range h.objs.size).filterMap fun a => if a = L ∨ a = d then none else (h.get? a).map fun o => (a, o)
end
end Att

namespace L2
open PySem PySem.Spec PyProof.Rows

theorem vals_ints : ∀ {vs : List Value} {ns : List Int}, IntsAre vs ns → Vals (ns.map V.int) vs
  | _, _, .nil => .nil
  | _, _, .cons n t h => .cons ⟨t, rfl⟩ (vals_ints h)

/-- nothing is tracked but the script, known to the object (or it is an object of the module) -/
def Only (H : Hp) : Prop := ∀ b, H b = none ∨ ∃ o xs, H b = some (.frz o (.lst xs))

/-- THE HEAD: the law's promise, at the heap behind the top. F, the promise of the law's def, may use that base is part of the heap (so K.In base, base.Ns mainGlobals mg stand in Mod) -/
theorem law_call {P : Program} {w : World} {K : PySem.W.Frag} {mg mb : Str → Option Value} {CX : CXT} {k : Nat} {fa a : Addr} {fd : FuncData} {x : Str} {sp : Sp} {s₁ : Shared} {vs : List Value} {ns : List Int}
    (KX : K.In s₁.heap) (hns : s₁.heap.Ns mainGlobals mg) (hb : s₁.heap.Ns builtinsNs mb) (hbb : ∀ x : Str, x ≠ "__name__" → mb x = bootBuiltins x) (hlim : s₁.heap.NoLimit) (hg : s₁.gens = #[])
    (ha : s₁.heap.get? a = some { cls := .type "list", data := .seq vs.toArray }) (hi : IntsAre vs ns) (hl : ns.length ≤ sizeLine) (hr : Room k callerA)
    (F : ∀ base : Heap, K.In base → base.Ns mainGlobals mg → FnOk P w K mg base CX k fa fd [x] sp) (hbind : ∀ (s : Shared) (u : Value), BindsTo s fd ⟨[u], []⟩ [(x, u)])
    (hsp : ∀ H : Hp, Only H → SqL K H a (ns.map V.int) → sp [.ref a] H (fun v _ => v = .bl true) fun _ _ _ => False)
    (hCX : ∀ H e s', CX [] H s₁ (fun _ _ _ => False) e s' → False) :
    codeAny (model P w) callerA (.call (.ref fa) ⟨[.ref a], []⟩) (fun r s' => r = .ok (.ret (.bool true)) ∧ OldK s₁.heap s'.heap ∧ s'.os = s₁.os ∧ AllBare s'.gens) s₁ := by
  have rv := vals_ints hi
  have lenV := hi.length
  -- from an abstract heap in which nothing but the script may be tracked
  have core : ∀ H : Hp, Only H → SqL K H a (ns.map V.int) → HOk P w H s₁.heap → (∀ b, H b ≠ none → b = a) → (H a ≠ none → K.lookup a = none) →
      codeAny (model P w) callerA (.call (.ref fa) ⟨[.ref a], []⟩) (fun r s' => r = .ok (.ret (.bool true)) ∧ OldK s₁.heap s'.heap ∧ s'.os = s₁.os ∧ AllBare s'.gens) s₁ := by
    intro H hO hS hok hA hK
    have base_of : ∀ {b : Addr} {o : Obj}, s₁.heap.get? b = some o → H b = none → (hidT s₁.heap H).get? b = some o := fun e n => hidT_get e n
    have noA : ∀ {b : Addr} {o : Obj} {es : Array DictEntry} {ep : Nat}, s₁.heap.get? b = some o → o.data = .dict es ep → H b = none := fun {b o es ep} e d => by
      cases q : H b with
      | none => rfl
      | some u =>
        have e' : b = a := hA b (by rw [q]; simp)
        subst e'
        rw [ha] at e; cases e
        have d' : Data.seq vs.toArray _ = Data.dict es ep := d
        cases d'
    have nsK : ∀ {b : Addr} {m : Str → Option Value}, s₁.heap.Ns b m → (hidT s₁.heap H).Ns b m := fun {b m} ⟨o, es, ep, e, d, r⟩ => ⟨o, es, ep, base_of e (noA e d), d, r⟩
    have hKb : K.In (hidT s₁.heap H) := fun b o e => base_of (KX b o e) (by
      cases q : H b with
      | none => rfl
      | some u =>
        have e' : b = a := hA b (by rw [q]; simp)
        subst e'
        rw [hK (by rw [q]; simp)] at e; cases e)
    have hM : Mod K mg (hidT s₁.heap H) := ⟨hKb, nsK hns, ⟨mb, nsK hb, hbb⟩, let ⟨mc, h1, h2⟩ := hlim; ⟨mc, nsK h1, h2⟩⟩
    have e0 : Env0 P w K mg (hidT s₁.heap H) callerA [] s₁ H := ⟨rfl, hM, fun b o e => of_hidT e, Nat.le_of_eq (hidT_size _ _), trivial, fun b hb => absurd (show b ∈ ([] : List Addr) from hb) (by simp), hok, .of_eq hg⟩
    refine codeAny_mono ((F _ hKb (nsK hns)).run callerA [] s₁ H ⟨[.ref a], []⟩ [.ref a] [.ref a] _ _ hr e0 (hbind s₁ (.ref a)) (.cons rfl .nil) (hsp H hO hS)) fun r s' h => ?_
    cases r with
    | error e => exact (hCX H e s' h).elim
    | ok fl =>
      cases fl with
      | next => exact False.elim h
      | brk => exact False.elim h
      | cont => exact False.elim h
      | ret u =>
        obtain ⟨v, H', os, bare, un, hok', r', q⟩ := h
        have q' : v = .bl true := q
        subst q'
        obtain rfl : u = Value.bool true := r'
        refine ⟨rfl, OldK.of_keep fun b o e => ?_, os, bare⟩
        cases q : H b with
        | none => exact un.keep b o e q (by intro z; exact absurd (show b ∈ ([] : List Addr) from z) (by simp)) (by simp)
        | some u =>
          rcases hO b with z | ⟨ob, xs, z⟩
          · rw [q] at z; cases z
          · have z2 := un.frzs b ob _ z
            obtain ⟨e1, _⟩ := hok b _ z
            obtain ⟨e2, _⟩ := hok' b _ z2
            rw [e] at e1; cases e1
            exact e2
  cases hk : K.lookup a with
  | some o =>
    -- the script is one of the module's own objects
    have e := KX a o hk
    rw [ha] at e
    cases e
    refine core (fun _ => none) (fun _ => .inl rfl) (.inr ⟨_, vs.toArray, _, hk, rfl, rfl, rfl, by rw [List.size_toArray, lenV]; exact hl, by simpa using rv⟩) (fun b u z => by have z' : (none : Option HO) = some u := z; cases z') (fun b z => absurd rfl z) fun z => absurd rfl z
  | none =>
    refine core (fun b => if b = a then some (.frz { cls := .type "list", data := .seq vs.toArray } (.lst (ns.map V.int))) else none) (fun b => ?_) (.inl (.inr ⟨{ cls := .type "list", data := .seq vs.toArray }, if_pos rfl⟩)) (fun b u z => ?_) (fun b z => ?_) fun _ => hk
    · by_cases hb : b = a
      · exact .inr ⟨_, _, if_pos hb⟩
      · exact .inl (if_neg hb)
    · by_cases hb : b = a
      · have z' := (if_pos hb).symm.trans z
        cases z'
        subst hb
        exact ⟨ha, by rw [List.length_map]; exact hl, vs, _, rv, ha⟩
      · have z' := (if_neg hb).symm.trans z
        cases z'
    · by_cases hb : b = a
      · exact hb
      · exact absurd (if_neg hb) z
end L2

namespace L2
open PySem PySem.Spec PyProof.Rows

abbrev KOf {K : PySem.W.Frag} {h : Heap} (_ : K.In h) : PySem.W.Frag := K

/-- the goal that k_head leaves (case hc), from the law's promise. F gives the function object fd (K's own) once, then the promise over every base -/
theorem walk_of {l : PySem.W.OpenLaw} {n k : Nat} {q : Program} {loose : List Str} {XP : (Str → Option Value) → Heap → Prop} {YP : World → Heap → Prop} {d : DefRec} {K : Params → PySem.W.Frag} {CX : World → CXT} {sp : World → Sp} {x : Str}
    (hn : l.most = some n) (hn2 : n ≤ sizeLine) (hdf : d.params.defaults = []) (hr : Room k callerA)
    (hY : ∀ (w : World) (h : Heap), YP w h → (K w.params).In h)
    (F : ∀ (w : World) (mg : Str → Option Value) (fa : Addr) (h : Heap), (K w.params).In h → h.Ns mainGlobals mg → mg d.name = some (.ref fa) →
      ∃ fd : FuncData, (∀ (s : Shared) (u : Value), BindsTo s fd ⟨[u], []⟩ [(x, u)]) ∧
        ∀ base : Heap, (K w.params).In base → base.Ns mainGlobals mg → FnOk l.prog w (K w.params) mg base (CX w) k fa fd [x] (sp w))
    (hsp : ∀ (w : World) (H : Hp) (a : Addr) (ns : List Int), ns.length ≤ n → Only H → SqL (K w.params) H a (ns.map V.int) → sp w [.ref a] H (fun v _ => v = .bl true) fun _ _ _ => False)
    (hCX : ∀ (w : World) (H : Hp) (s : Shared) (e : Value) (s' : Shared), CX w [] H s (fun _ _ _ => False) e s' → False) :
    PySem.W.WalkO q loose XP YP l.row.toRowW d [] (fun f vs => PySem.call f vs) := by
  refine Att.attach_call hn hdf fun w s₀ s₁ mg mb fa o pm cd doc a vs ns G Y ho hd hcd hmg hobj hints hlen hg => ?_
  have KX := hY w _ Y
  obtain ⟨fd, hb, hF⟩ := F w mg fa _ KX G.T.g hmg
  exact law_call KX G.T.g G.T.b G.T.builtins G.T.nolimit hg hobj hints (Nat.le_trans hlen hn2) hr hF hb (fun H hO hS => hsp w H a ns hlen hO hS) fun H e s' => hCX w H s₁ e s'
end L2


/-! SHORT WORDS over the layer: a def of the text, its body, what a loop and a test want. -/
namespace L2
open PySem PySem.Spec PyProof.Rows

/-! ### the text by places -/

/-! ### no exception leaves a def -/
abbrev CX0 : CXT := fun _ _ _ _ _ _ => False
abbrev E0 : XK := fun _ _ _ => False
theorem pass0 {X : Cx} : Passes CX0 X E0 := fun _ _ _ _ _ _ _ h => h.elim

/-! ### a def (or method) of the text as it stands behind the top -/
structure Fun (K : PySem.W.Frag) (x qual : Str) (st : Stmt) (f : Addr) (fd : FuncData) : Prop where
  ex : ∃ (oc : Value) (od : Option Addr) (kV doc pm : Value) (an : Option Addr) (cdv ct : Value) (osl : Array (Option Value)),
    fd = PySem.W.fnOf x qual (defArgs st) (defBody st) (defScope st) .none kV doc pm an cdv ct ∧ K.lookup f = some ⟨oc, od, .func fd, osl⟩ ∧ PySem.W.codeIn K cdv qual = true
  kp : PySem.W.keepIn K (.ref f) = true
section
variable {P : Program} {w : World} {K : PySem.W.Frag} {mg : Str → Option Value} {base : Heap}
/-- THE RULE for a def: its body as a term of rules, and the reading of that term -/
theorem Fun.ok {x qual : Str} {st : Stmt} {f : Addr} {fd : FuncData} {N ps : List Str} {k : Nat} {sp : Sp} (F : Fun K x qual st f fd) (S : FnScope N ps (defScope st)) (len : ∀ vs H Q E, sp vs H Q E → vs.length = ps.length)
    (hbody : ∀ (cdv : Value) (A : Around) (outer : List Env) (s : Shared) (H : Hp) (vs : List V) (Q : VK) (E : XK), Room k (A.deeper (envOfC qual (defScope st) s.heap.objs.size f cdv)) → sp vs H Q E →
      ∃ t, PSs (cxOf CX0 P w K mg base N qual (defScope st) f cdv A outer s H E).nox (defBody st) t ∧ t { nx := fun _ H' => Q .non H', rt := Q } (start N vs) H) : FnOk P w K mg base CX0 (k + 1) f fd ps sp := by
  obtain ⟨oc, od, kV, doc, pm, an, cdv, ct, osl, rfl, lk, hcd⟩ := F.ex
  refine fn_of lk hcd S len fun A outer s H vs Q E hr hsp => ?_
  obtain ⟨t, h, q⟩ := hbody cdv A outer s H vs Q E hr hsp
  exact ⟨t, h.nox, q⟩
/-- how its arguments bind (no defaults): h is «fun _ _ _ _ _ _ us hl => match us, hl with | [_, _], _ => rfl», one _ a parameter -/
theorem Fun.binds {x qual : Str} {st : Stmt} {f : Addr} {fd : FuncData} {ps : List Str} (F : Fun K x qual st f fd)
    (h : ∀ (kV doc pm : Value) (an : Option Addr) (cdv ct : Value) (us : List Value), us.length = ps.length → bindArgs (PySem.W.fnOf x qual (defArgs st) (defBody st) (defScope st) .none kV doc pm an cdv ct) ⟨us, []⟩ = pure (ps.zip us)) : Binds K fd ps [] := by
  obtain ⟨oc, od, kV, doc, pm, an, cdv, ct, osl, rfl, lk, hcd⟩ := F.ex
  exact .all (h kV doc pm an cdv ct)
theorem fun_mk {x qual : Str} {st : Stmt} {f : Addr} {oc : Value} {od an : Option Addr} {osl : Array (Option Value)} {kV doc pm cdv ct : Value} (l : K.lookup f = some ⟨oc, od, .func (PySem.W.fnOf x qual (defArgs st) (defBody st) (defScope st) .none kV doc pm an cdv ct), osl⟩)
    (c : PySem.W.codeIn K cdv qual = true) (k : PySem.W.keepIn K (.ref f) = true) : Fun K x qual st f (PySem.W.fnOf x qual (defArgs st) (defBody st) (defScope st) .none kV doc pm an cdv ct) := ⟨⟨oc, od, kV, doc, pm, an, cdv, ct, osl, rfl, l, c⟩, k⟩
end
theorem hu_of {A : Around} {k : Nat} (hr : Room k A) : A.units + 1 < cLine := Nat.lt_of_le_of_lt (Nat.add_le_add_left (by decide : 1 ≤ 64) _) hr.units
/-! ### expressions in short: the name that stands in the i-th slot -/
section
variable {X : Cx}
theorem pv (i : Nat) {x : Str} {pos : Pos} (hN : X.N[i]? = some x := by rfl) (hv : Vis X.env.scope x := by first | exact Or.inl rfl | exact Or.inr (Or.inl rfl) | exact Or.inr (Or.inr rfl)) (hd : (x == ("__debug__" : Str)) = false := by decide)
    (hcd : (x == ("__classdict__" : Str)) = false := by decide) : PE X (.Name x pos) (tVar i) := pe_var hN hv hd hcd
end

/-! ### tests -/
theorem iteF {A B : Prop} (h : B) : if false = true then A else B := by
  rw [if_neg Bool.false_ne_true]
  exact h
theorem iteT {A B : Prop} (h : A) : if true = true then A else B := by
  rw [if_pos rfl]
  exact h
theorem ite2 {c A B : Prop} [Decidable c] (h1 : c → A) (h2 : ¬ c → B) : if c then A else B := by
  by_cases h : c
  · rw [if_pos h]
    exact h1 h
  · rw [if_neg h]
    exact h2 h
/-! ### heaps -/
/-- all that was tracked is as it was -/
def Same (H H' : Hp) : Prop := ∀ b o, H b = some o → H' b = some o
theorem Same.refl (H : Hp) : Same H H := fun _ _ h => h
theorem Same.trans {H H1 H2 : Hp} (a : Same H H1) (b : Same H1 H2) : Same H H2 := fun c o h => b c o (a c o h)
theorem Same.free {H H' : Hp} (e : Same H H') {l : Addr} (h : H' l = Option.none) : H l = Option.none := by
  cases q : H l with
  | none => rfl
  | some o =>
    rw [e l o q] at h
    cases h
theorem Same.seq {K : PySem.W.Frag} {H H' : Hp} {a : Addr} {xs : List V} (e : Same H H') (h : SqL K H a xs) : SqL K H' a xs := by
  rcases h with (h | ⟨o, h⟩) | h
  · exact .inl (.inl (e _ _ h))
  · exact .inl (.inr ⟨o, e _ _ h⟩)
  · exact .inr h

/-! ### a dict's pairs: keys that differ -/
section
variable {κ : Type} [DecidableEq κ]
end
end L2

/-! ### a comprehension of one clause: its block is a context of its own -/
namespace L2
open PySem PySem.Spec PyProof.Rows

/-- the cells that a block draws from around it -/
def clOf (env : Env) : List (Str × NameKind) → List (Str × Addr) → List (Str × Addr)
  | [], acc => acc
  | y :: r, acc => clOf env r (if (y.2 == NameKind.free) = true then (y.1, (env.cells.lookup y.1).getD 0) :: acc else acc)

theorem closure_go {env : Env} : ∀ (ns : List (Str × NameKind)) (acc : List (Str × Addr)), (∀ y ∈ ns, y.2 = .free → ∃ c, env.cells.lookup y.1 = some c) →
    (forIn ns acc fun (x : Str × NameKind) (cs : List (Str × Addr)) => if (x.2 == NameKind.free) = true then (cellOf env x.1 >>= fun a => pure (ForInStep.yield ((x.1, a) :: cs))) else (pure (ForInStep.yield cs) : Sem (ForInStep (List (Str × Addr))))) = pure (clOf env ns acc)
  | [], acc, _ => rfl
  | y :: r, acc, h => by
    rw [List.forIn_cons]
    have ih := fun a => closure_go r a fun z hz => h z (List.mem_cons_of_mem _ hz)
    by_cases hk : (y.2 == NameKind.free) = true
    · obtain ⟨c, hc⟩ := h y List.mem_cons_self (eq_of_beq hk)
      have e : cellOf env y.1 = pure c := by unfold cellOf; rw [hc]
      rw [if_pos hk, e]
      show (forIn r ((y.1, c) :: acc) _ : Sem (List (Str × Addr))) = _
      rw [ih]
      show pure (clOf env r ((y.1, c) :: acc)) = pure (clOf env r (if (y.2 == NameKind.free) = true then (y.1, (env.cells.lookup y.1).getD 0) :: acc else acc))
      rw [if_pos hk, hc]
      rfl
    · rw [if_neg hk]
      show (forIn r acc _ : Sem (List (Str × Addr))) = _
      rw [ih]
      show pure (clOf env r acc) = pure (clOf env r (if (y.2 == NameKind.free) = true then (y.1, (env.cells.lookup y.1).getD 0) :: acc else acc))
      rw [if_neg hk]

theorem closure_of {scope : Scope} {env : Env} (h : ∀ y ∈ scope.names, y.2 = .free → ∃ c, env.cells.lookup y.1 = some c) : closureFor scope env = pure (clOf env scope.names []) := by
  have q := closure_go (env := env) scope.names [] h
  have e : closureFor scope env = ((forIn scope.names ([] : List (Str × Addr)) fun (x : Str × NameKind) (cs : List (Str × Addr)) => if (x.2 == NameKind.free) = true then (cellOf env x.1 >>= fun a => pure (ForInStep.yield ((x.1, a) :: cs))) else (pure (ForInStep.yield cs) : Sem (ForInStep (List (Str × Addr))))) >>= fun cs => pure cs) := rfl
  rw [e, q]
  rfl

theorem clOf_from {env : Env} : ∀ (ns : List (Str × NameKind)) (acc : List (Str × Addr)) {x : Str} {c : Addr}, (∀ y ∈ ns, y.2 = .free → ∃ c, env.cells.lookup y.1 = some c) → (clOf env ns acc).lookup x = some c → env.cells.lookup x = some c ∨ acc.lookup x = some c
  | [], acc, x, c, _, h => .inr h
  | y :: r, acc, x, c, h, e => by
    have e : (clOf env r (if (y.2 == NameKind.free) = true then (y.1, (env.cells.lookup y.1).getD 0) :: acc else acc)).lookup x = some c := e
    rcases clOf_from r _ (fun z hz => h z (List.mem_cons_of_mem _ hz)) e with q | q
    · exact .inl q
    · by_cases hk : (y.2 == NameKind.free) = true
      · rw [if_pos hk, List.lookup_cons] at q
        obtain ⟨d, hd⟩ := h y List.mem_cons_self (eq_of_beq hk)
        cases hx : x == y.1 with
        | true =>
          rw [hx] at q
          dsimp only at q
          rw [hd] at q
          have hxy : x = y.1 := eq_of_beq hx
          subst hxy
          exact .inl (hd.trans q)
        | false =>
          rw [hx] at q
          exact .inr q
      · rw [if_neg hk] at q
        exact .inr q
theorem clOf_some {env : Env} : ∀ (ns : List (Str × NameKind)) (acc : List (Str × Addr)) {x : Str}, ((x, NameKind.free) ∈ ns ∨ ∃ c, acc.lookup x = some c) → ∃ c, (clOf env ns acc).lookup x = some c
  | [], acc, x, h => by
    rcases h with h | h
    · cases h
    · exact h
  | y :: r, acc, x, h => by
    show ∃ c, (clOf env r (if (y.2 == NameKind.free) = true then (y.1, (env.cells.lookup y.1).getD 0) :: acc else acc)).lookup x = some c
    refine clOf_some r _ ?_
    rcases h with h | ⟨c, hc⟩
    · rcases List.mem_cons.mp h with e | h
      · subst e
        refine .inr ⟨(env.cells.lookup x).getD 0, ?_⟩
        rw [if_pos (by rfl), List.lookup_cons, beq_self_eq_true]
      · exact .inl h
    · by_cases hk : (y.2 == NameKind.free) = true
      · rw [if_pos hk]
        cases hx : x == y.1 with
        | true => exact .inr ⟨_, by rw [List.lookup_cons, hx]⟩
        | false => exact .inr ⟨c, by rw [List.lookup_cons, hx]; exact hc⟩
      · rw [if_neg hk]
        exact .inr ⟨c, hc⟩

theorem relabel_from {env : Env} {x : Str} {k : NameKind} : ∀ (ns : List (Str × NameKind)), (ns.map fun (n, k) => if (k == NameKind.free && env.scope.kind == .function && env.kindOf n == some .cell) then (n, NameKind.cell) else (n, k)).lookup x = some k →
    ns.lookup x = some k ∨ (ns.lookup x = some .free ∧ k = .cell)
  | [], h => by cases h
  | (n, j) :: r, h => by
    have ih := relabel_from (env := env) (x := x) (k := k) r
    rw [List.map_cons] at h
    dsimp only at h
    by_cases hc : (j == NameKind.free && env.scope.kind == .function && env.kindOf n == some .cell) = true
    · rw [if_pos hc, List.lookup_cons] at h
      rw [List.lookup_cons]
      cases hx : x == n with
      | true =>
        rw [hx] at h
        have hj : (j == NameKind.free) = true := by
          rw [Bool.and_eq_true, Bool.and_eq_true] at hc
          exact hc.1.1
        have hj := eq_of_beq hj
        subst hj
        exact .inr ⟨rfl, (Option.some.inj h).symm⟩
      | false =>
        rw [hx] at h
        exact ih h
    · rw [if_neg hc, List.lookup_cons] at h
      rw [List.lookup_cons]
      cases hx : x == n with
      | true =>
        rw [hx] at h
        exact .inl h
      | false =>
        rw [hx] at h
        exact ih h
theorem relabel_free {env : Env} {x : Str} : ∀ (ns : List (Str × NameKind)), ns.lookup x = some .free →
    (ns.map fun (n, k) => if (k == NameKind.free && env.scope.kind == .function && env.kindOf n == some .cell) then (n, NameKind.cell) else (n, k)).lookup x = some .cell ∨
    (ns.map fun (n, k) => if (k == NameKind.free && env.scope.kind == .function && env.kindOf n == some .cell) then (n, NameKind.cell) else (n, k)).lookup x = some .free
  | [], h => by cases h
  | (n, j) :: r, h => by
    have ih := relabel_free (env := env) (x := x) r
    rw [List.map_cons]
    dsimp only
    rw [List.lookup_cons] at h
    by_cases hc : (j == NameKind.free && env.scope.kind == .function && env.kindOf n == some .cell) = true
    · rw [if_pos hc, List.lookup_cons]
      cases hx : x == n with
      | true => exact .inl rfl
      | false =>
        rw [hx] at h
        exact ih h
    · rw [if_neg hc, List.lookup_cons]
      cases hx : x == n with
      | true =>
        rw [hx] at h
        exact .inr h
      | false =>
        rw [hx] at h
        exact ih h

/-- the context of the block: C its names' place, s and H ahead of it, fp what its iterator turns -/
def cxComp (X : Cx) (N : List Str) (scope : Scope) (cl : List (Str × Addr)) (C : Addr) (s : Shared) (H : Hp) (fp : List Addr) : Cx where
  prog := X.prog
  w := X.w
  K := X.K
  mg := X.mg
  base := X.base
  A := X.A
  N := N
  s₀ := s
  H₀ := H
  env := compEnvC scope cl C X.env
  outer := X.stack
  stack := X.stack
  ex := fp
  fn := fun _ => false
  calm := X.calm
  pn := []
  xe := fun _ _ => False

/-- the block's values at the beginning of a turn: k names of its own, and those from around (by their places there) -/
def cσ (k : Nat) (js : List Nat) (σ : St) : St := List.replicate k none ++ js.map fun j => σ.getD j none

/-- what the scope of a block must have -/
structure CScope (X : Cx) (N : List Str) (scope : Scope) (k : Nat) (js : List Nat) : Prop where
  kind : scope.kind = .function
  cell : ∀ y ∈ scope.names, y.2 ≠ .cell
  loc : ∀ y ∈ scope.names, y.2 = .local → scope.names.lookup y.1 = some .local
  free : ∀ y ∈ scope.names, y.2 = .free → X.env.kindOf y.1 = some .cell ∨ X.env.kindOf y.1 = some .free
  len : N.length = k + js.length
  names : ∀ (i j : Nat), js[i]? = some j → X.N[j]? = N[k + i]?
  js : ∀ (i : Nat) (x : Str), N[k + i]? = some x → scope.names.lookup x = some .free

section
variable {X : Cx} {pins : List (Addr × Obj)} {σ : St} {H : Hp} {s : Shared} {N : List Str} {scope : Scope} {k : Nat} {js : List Nat}

theorem CScope.cells (S : CScope X N scope k js) (ok : X.Ok) : ∀ y ∈ scope.names, y.2 = .free → ∃ c, X.env.cells.lookup y.1 = some c := fun y hy hf => ok.has _ (S.free y hy hf)

theorem inv_comp {fp : List Addr} {h1 : Heap} {t1 : Nat} (I : Inv X pins σ H s) (S : CScope X N scope k js) (f : ∀ b ∈ fp, FpOk X pins H b) (fo : ∀ b ∈ fp, ∃ o, s.heap.get? b = some o)
    (hn : h1.Ns s.heap.objs.size fun _ => none) (hk : ∀ b o, s.heap.get? b = some o → h1.get? b = some o) :
    Inv (cxComp X N scope (clOf X.env scope.names []) s.heap.objs.size s H fp) [] (cσ k js σ) H { s with heap := h1, toks := t1 } := by
  have cs := S.cells I.ok
  have clE : ∀ {x : Str} {c : Addr}, (clOf X.env scope.names []).lookup x = some c → X.env.cells.lookup x = some c := fun {x c} e => by
    rcases clOf_from scope.names [] cs e with q | q
    · exact q
    · cases q
  refine ⟨⟨I.ok.mod, S.kind, I.ok.glob, I.ok.blt, Nat.le_refl _, fun x y c e1 e2 => I.ok.inj x y c (clE e1) (clE e2), fun x hx => ?_, fun x c hf _ => (nomatch hf), I.ok.hd, I.ok.frames, .inl rfl, fun b hb => ⟨?_, fun x c e => ?_⟩, I.bs,
    Nat.le_trans I.ok.bsz I.sz, fun b o e hb => ?_, fun b hb z => ?_, I.stack, I.stkFree⟩, rfl, I.bare, Un.kept hk, ⟨_, hn, fun i x v e1 e2 e3 => ?_⟩, fun x c e => ?_, I.hok.fresh (Nat.le_refl _), fun x c e => I.freeC x c (clE e), fun p hp => ?_, I.hok.kept hk, ?_⟩
  · have hx : (relabel scope X.env).names.lookup x = some .cell ∨ (relabel scope X.env).names.lookup x = some .free := hx
    have fr : scope.names.lookup x = some .free := by
      rcases hx with q | q
      · rcases relabel_from scope.names q with z | z
        · exact absurd rfl (S.cell _ (PySem.mem_of_lookup z))
        · exact z.1
      · rcases relabel_from scope.names q with z | z
        · exact z
        · exact z.1
    exact clOf_some scope.names [] (.inl (PySem.mem_of_lookup fr))
  · obtain ⟨o, ho⟩ := fo b hb
    exact Nat.ne_of_lt (Heap.lt_size ho)
  · exact (f b hb).2.2.2.2.1 x c (clE e)
  · rcases (f b hb).2.2.2.1 with z | z
    · exact I.ok.noex b o e z
    · exact absurd (Nat.lt_of_lt_of_le (Nat.lt_of_lt_of_le (Heap.lt_size e) I.ok.bsz) z) (Nat.lt_irrefl _)
  · rcases List.mem_cons.mp (I.stkSub b z) with q | q
    · exact (f b hb).2.1 q
    · exact (f b hb).2.2.1 q
  · have e1 : N[i]? = some x := e1
    have hi : k ≤ i := by
      by_cases hi : i < k
      · unfold cσ at e2
        rw [List.getElem?_append_left (by rw [List.length_replicate]; exact hi), List.getElem?_replicate, if_pos hi] at e2
        cases e2
      · omega
    obtain ⟨d, rfl⟩ : ∃ d, i = k + d := ⟨i - k, by omega⟩
    unfold cσ at e2
    rw [List.getElem?_append_right (by rw [List.length_replicate]; omega), List.length_replicate, List.getElem?_map] at e2
    have ed : k + d - k = d := by omega
    rw [ed] at e2
    cases ej : js[d]? with
    | none => rw [ej] at e2; cases e2
    | some j =>
      rw [ej] at e2
      have e2 : σ.getD j none = some v := Option.some.inj e2
      have e2' : σ[j]? = some (some v) := by
        rw [List.getD_eq_getElem?_getD] at e2
        cases q : σ[j]? with
        | none => rw [q] at e2; cases e2
        | some z => rw [q] at e2; rw [show z = some v from e2]
      have en : X.N[j]? = some x := (S.names d j ej).trans e1
      have fr := S.js d x e1
      have kx := S.free _ (PySem.mem_of_lookup fr) rfl
      obtain ⟨m, _, hl⟩ := I.loc
      obtain ⟨u, r, l⟩ := hl j x v en e2' (by rcases kx with q | q; exact .inr (.inl q); exact .inr (.inr q))
      refine ⟨u, r, .inr ⟨?_, ?_⟩⟩
      · exact relabel_free (env := X.env) scope.names fr
      · rcases l with ⟨l, _⟩ | ⟨_, c, ec, ic⟩
        · rcases kx with q | q
          · dsimp only at q; rw [q] at l; cases l
          · dsimp only at q; rw [q] at l; cases l
        · obtain ⟨c', e'⟩ := clOf_some (env := X.env) scope.names [] (.inl (PySem.mem_of_lookup fr))
          have e'' := clE e'
          rw [ec] at e''
          cases e''
          exact ⟨c, e', ic.keeps hk⟩
  · obtain ⟨v, q⟩ := I.cell x c (clE e)
    exact ⟨v, q.keeps hk⟩
  · have hp : p ∈ ([] : List (Addr × Obj)) := hp
    cases hp
  · show (cσ k js σ).length = N.length
    unfold cσ
    rw [List.length_append, List.length_replicate, List.length_map, S.len]
end

/-- what is known there is known here -/
def SubS (σ σ' : St) : Prop := ∀ (i : Nat) v, σ[i]? = some (some v) → σ'[i]? = some (some v)
theorem SubS.refl (σ : St) : SubS σ σ := fun _ _ h => h
/-- a name of the block's own is stored -/
theorem SubS.own {σ σ' : St} {k i : Nat} {js : List Nat} {v : Option V} (h : SubS (cσ k js σ) σ') (hi : i < k) : SubS (cσ k js σ) (σ'.set i v) := fun j u e => by
  have hj : j ≠ i := fun z => by
    subst z
    unfold cσ at e
    rw [List.getElem?_append_left (by rw [List.length_replicate]; exact hi), List.getElem?_replicate, if_pos hi] at e
    cases e
  rw [List.getElem?_set_ne (Ne.symm hj)]
  exact h j u e

/-- a comprehension: what its clause walks; its own names, those from around; the target, the test, the element -/
def CompGoal (J : It) (k : Nat) (js : List Nat) (g : TG) (tt : TT) (te : TE) (σ : St) (H1 : Hp) (Q : VK) : Prop := ∀ p, H1 p = none → ∃ W : Nat → Nat → List V → Hp → Prop, (∃ m, W 0 m [] (upd H1 p (.lst []))) ∧
  ∀ i m ys H, W i m ys H → H p = some (.lst ys) ∧ ((J.stop i H ∧ Q (.ref p) H) ∨ (J.go i H ∧ ys.length < sizeLine ∧ ∀ x H', J.yld i H x H' → g x (cσ k js σ) H' fun σ2 H2 => SubS (cσ k js σ) σ2 ∧ tt σ2 H2 fun b H3 =>
    if b = true then te σ2 H3 fun y H4 => H4 p = some (.lst ys) ∧ ∃ m', m' < m ∧ W (i + 1) m' (ys ++ [y]) (upd H4 p (.lst (ys ++ [y]))) else ∃ m', m' < m ∧ W (i + 1) m' ys H3))
def tComp (wi : TI) (k : Nat) (js : List Nat) (g : TG) (tt : TT) (te : TE) : TE := fun σ H Q => wi σ H fun J H1 => CompGoal J k js g tt te σ H1 Q

/-- no test -/
def tYes : TT := fun _ H Q => Q true H

/-- the tests of a clause -/
def PIfs (Y : Cx) (ifs : List Expr) (t : TT) : Prop :=
  ∀ (pins : List (Addr × Obj)) (s : Shared) (σ : St) (H : Hp) (Q : Bool → Hp → Prop), Inv Y pins σ H s → t σ H Q →
    wpAny (model Y.prog Y.w) Y.A (forIn ifs true fun c r => if r = true then do let ok ← isTrue c Y.env (eval c Y.env); pure (ForInStep.yield ok) else pure (ForInStep.yield r)) (TP Y pins σ Q) Y.xe s
theorem pif0 {Y : Cx} : PIfs Y [] tYes := fun _ _ _ H _ I h => wpAny_tests_nil ⟨H, I, h⟩
theorem pif1 {Y : Cx} {c : Expr} {t : TT} (h : PT Y c t) : PIfs Y [c] t := fun pins s σ H Q I hq => wpAny_tests_one (h pins s σ H Q I hq)

section
variable {prog : Program} {w : World} {A : Around} {R : Result → Shared → Prop} {s : Shared}
theorem compLoop_any {elt target iter : Expr} {ifs : List Expr} {scope : Scope} {pos : Pos} {it acc : Value} {env : Env} (I : Nat → Shared → Prop)
    (turn : ∀ n s, I n s → wpAny (model prog w) A (pyNext it) (fun r s₁ => match r with
      | none => R (.ok .next) s₁
      | some v => wpAny (model prog w) A (letOwnedTupleGo target it v) (fun _ s₀ => wpAny (model prog w) A (assign target env v) (fun _ s₂ =>
          wpAny (model prog w) A (forIn ifs true fun c r => if r = true then do let ok ← isTrue c env (eval c env); pure (ForInStep.yield ok) else pure (ForInStep.yield r)) (fun ok s₃ =>
            if ok = true then wpAny (model prog w) A (eval elt env) (fun x s₄ =>
              wpAny (model prog w) A (call (.builtin "list.append") [acc, x]) (fun _ s₅ => ∃ m, m < n ∧ I m s₅) (fun _ _ => False) s₄) (fun _ _ => False) s₃
            else ∃ m, m < n ∧ I m s₃) (fun _ _ => False) s₂) (fun _ _ => False) s₀) (fun _ _ => False) s₁) (fun _ _ => False) s)
    (n : Nat) (h : I n s) :
    codeAny (model prog w) A (.compLoop (.ListComp elt [⟨target, iter, ifs, 0⟩] scope pos) 0 it acc env) R s := by
  refine codeAny_loop rfl I (fun n s hI => ?_) n h
  show wpAny _ A ((compTurn (.ListComp elt [⟨target, iter, ifs, 0⟩] scope pos) 0 it acc env).onRaise (fun x => do noteFrame x env; theTreesLotGoes x)) _ _ s
  refine wpAny_noted ?_
  rw [compTurn_list]
  refine wpAny_bind (wpAny_standAt (wpAny_bind (wpAny_mono (turn n s hI) (fun r s₁ h₁ => ?_) fun _ _ h' => h'.elim)))
  cases r with
  | none => exact wpAny_pure h₁
  | some v =>
    refine wpAny_bind (wpAny_mono h₁ (fun _ s₀ h₀ => ?_) fun _ _ h' => h'.elim)
    refine wpAny_bind (wpAny_mono h₀ (fun _ s₂ h₂ => wpAny_bind (wpAny_mono h₂ (fun ok s₃ h₃ => ?_) fun _ _ h' => h'.elim)) fun _ _ h' => h'.elim)
    cases ok with
    | false => exact wpAny_pure ⟨rfl, h₃⟩
    | true =>
      exact wpAny_bind (wpAny_bind (wpAny_mono h₃ (fun x s₄ h₄ => wpAny_bind (wpAny_mono h₄ (fun _ s₅ h₅ => wpAny_pure (wpAny_pure ⟨rfl, h₅⟩)) fun _ _ h' => h'.elim)) fun _ _ h' => h'.elim))
end

section
variable {X : Cx} {tg iter elt : Expr} {ifs : List Expr} {scope : Scope} {pos : Pos} {N : List Str} {k : Nat} {js : List Nat} {wi : TI} {g : TG} {tt : TT} {te : TE}

/-- behind the block: what the context around it holds -/
theorem comp_core {pins : List (Addr × Obj)} {s2 : Shared} {σ : St} {H2 : Hp} {it : Addr} {fp : List Addr} {tn : Nat → Heap → Prop} {J : It} {Q : VK} {RR : Value → Addr → Result → Shared → Prop} {E : Value → Shared → Prop} (hc : X.calm = true) (S : CScope X N scope k js)
    (hb : ∀ (cl : List (Str × Addr)) (C : Addr) (s : Shared) (H : Hp) (fp : List Addr), PG (cxComp X N scope cl C s H fp) tg g ∧ PIfs (cxComp X N scope cl C s H fp) ifs tt ∧ PE (cxComp X N scope cl C s H fp) elt te)
    (I2 : Inv X pins σ H2 s2) (T : Turn X.prog X.w X.K tg J fp it tn) (st2 : tn 0 s2.heap) (f2 : ∀ b ∈ fp, FpOk X pins H2 b)
    (h : ∀ p, H2 p = none → ∃ W : Nat → Nat → List V → Hp → Prop, (∃ m, W 0 m [] (upd H2 p (.lst []))) ∧
      ∀ i m ys H, W i m ys H → H p = some (.lst ys) ∧ ((J.stop i H ∧ Q (.ref p) H) ∨ (J.go i H ∧ ys.length < sizeLine ∧ ∀ x H', J.yld i H x H' → g x (cσ k js σ) H' fun σ2 H2 => SubS (cσ k js σ) σ2 ∧ tt σ2 H2 fun b H3 =>
        if b = true then te σ2 H3 fun y H4 => H4 p = some (.lst ys) ∧ ∃ m', m' < m ∧ W (i + 1) m' (ys ++ [y]) (upd H4 p (.lst (ys ++ [y]))) else ∃ m', m' < m ∧ W (i + 1) m' ys H3)))
    (hR : ∀ (p C : Addr) (s' : Shared) (H' : Hp) (m : Str → Option Value), Inv X pins σ H' s' → Q (.ref p) H' → s'.heap.Ns C m → H' C = none → C ≠ X.env.locals → X.s₀.heap.objs.size ≤ C → (∀ x c, X.env.cells.lookup x = some c → c ≠ C) → (∀ q ∈ X.pn ++ pins, q.1 ≠ C) → RR (.ref p) C (.ok .next) s') :
    wpAny (model X.prog X.w) X.A (newList []) (fun acc s₃ => wpAny (model X.prog X.w) X.A (newFunctionEnv scope X.env.globals (clOf X.env scope.names []) [] X.env.qual none .none (some X.env)) (fun cenv s₄ =>
      codeAny (model X.prog X.w) X.A (.compStart (.ListComp elt [⟨tg, iter, ifs, 0⟩] scope pos) 0 (.ref it) acc { cenv with scope := relabel scope X.env }) (RR acc cenv.locals) s₄) E s₃) E s2 := by
  have hf : H2 s2.heap.objs.size = none := I2.hok.fresh (Nat.le_refl _)
  obtain ⟨W, ⟨m0, w0⟩, turn⟩ := h s2.heap.objs.size hf
  have I3 : Inv X pins σ (upd H2 s2.heap.objs.size (.lst [])) { s2 with heap := s2.heap.push { cls := .type "list", dict := none, data := .seq ([] : List Value).toArray }, toks := s2.toks } := I2.lnew (ys := []) .nil (Nat.zero_le _)
  refine wpAny_newObj_type (wpAny_newFunctionEnv S.cell (by intro y hy; simp at hy) (fun h₁ hns₁ hsb₁ => ?_) S.kind)
  dsimp only at hns₁ hsb₁ ⊢
  generalize hp : s2.heap.objs.size = p at *
  generalize hH3 : s2.heap.push { cls := .type "list", dict := none, data := .seq ([] : List Value).toArray } = g3 at hns₁ hsb₁ I3 ⊢
  have k23 : ∀ b o, s2.heap.get? b = some o → g3.get? b = some o := fun b o e => hH3 ▸ Heap.get?_push_of_some _ e
  have k34 : ∀ b o, g3.get? b = some o → h₁.get? b = some o := fun b o e => hsb₁.extBut b o (Nat.ne_of_lt (Heap.lt_size e)) (Heap.get?_push_of_some _ e)
  have npf : ∀ b ∈ fp, b ≠ p := fun b hb z => by
    obtain ⟨o, ho, _⟩ := T.obj _ _ st2 b hb
    have := Heap.lt_size ho
    rw [hp, z] at this
    exact Nat.lt_irrefl _ this
  have f3 : ∀ b ∈ fp, FpOk X pins (upd H2 p (.lst [])) b := fun b hb => ⟨by rw [upd_ne (npf b hb)]; exact (f2 b hb).1, (f2 b hb).2⟩
  have fo3 : ∀ b ∈ fp, ∃ o, g3.get? b = some o := fun b hb => by
    obtain ⟨o, ho, _⟩ := T.obj _ _ st2 b hb
    exact ⟨o, k23 b o ho⟩
  have J0 := inv_comp (s := { s2 with heap := g3, toks := s2.toks }) (h1 := h₁) (t1 := s2.toks + ([] : List (Str × Value)).length) I3 S f3 fo3 hns₁ k34
  have st4 : tn 0 h₁ := T.keep _ _ _ st2 fun b hb o e => k34 b o (k23 b o e)
  obtain ⟨hG, hT, hE⟩ := hb (clOf X.env scope.names []) g3.objs.size { s2 with heap := g3, toks := s2.toks } (upd H2 p (.lst [])) fp
  generalize hY : cxComp X N scope (clOf X.env scope.names []) g3.objs.size { s2 with heap := g3, toks := s2.toks } (upd H2 p (.lst [])) fp = Y at *
  have yp : Y.prog = X.prog := by rw [← hY]; rfl
  have yw : Y.w = X.w := by rw [← hY]; rfl
  have yK : Y.K = X.K := by rw [← hY]; rfl
  have yA : Y.A = X.A := by rw [← hY]; rfl
  have yc : Y.calm = true := by rw [← hY]; exact hc
  have yx : Y.xe = fun _ _ => False := by rw [← hY]; rfl
  have ye : Y.env = compEnvC scope (clOf X.env scope.names []) g3.objs.size X.env := by rw [← hY]; rfl
  have ypn : Y.pn = [] := by rw [← hY]; rfl
  have yex : Y.ex = fp := by rw [← hY]; rfl
  have yfs : Y.fs = frs X.stack := by rw [← hY]; rfl
  -- the iterator's records, seen from the block
  have clE : ∀ {x : Str} {c : Addr}, (clOf X.env scope.names []).lookup x = some c → X.env.cells.lookup x = some c := fun {x c} e => by
    rcases clOf_from scope.names [] (S.cells I2.ok) e with q | q
    · exact q
    · cases q
  have stat : ∀ {H' : Hp}, (∀ b ∈ fp, H' b = none) → ∀ b ∈ fp, FpOk Y [] H' b := fun hn b hb => by
    refine ⟨hn b hb, ?_, ?_, ?_, fun x c e => ?_, fun q hq => ?_⟩
    · rw [ye]
      obtain ⟨o, ho⟩ := fo3 b hb
      exact Nat.ne_of_lt (Heap.lt_size ho)
    · rw [yfs]
      intro z
      rcases List.mem_cons.mp (I2.stkSub b z) with q | q
      · exact (f2 b hb).2.1 q
      · exact (f2 b hb).2.2.1 q
    · rw [yex]; exact .inl hb
    · rw [ye] at e
      exact (f2 b hb).2.2.2.2.1 x c (clE e)
    · rw [ypn] at hq; cases hq
  have endH : ∀ {σ' : St} {H' : Hp} {s' : Shared}, Inv Y [] σ' H' s' → Q (.ref p) H' → RR (.ref p) g3.objs.size (.ok .next) s' := fun {σ' H' s'} I' q => by
    have u := I'.base
    have ho := I'.os
    rw [yfs, yex] at u
    subst hY
    have IX : Inv X pins σ H' s' := I3.call' (ch := fp) ho u I'.hok I'.bare fun b hb => ⟨(f2 b hb).2.2.2.1, (f2 b hb).2.1, (f2 b hb).2.2.2.2.1, (f2 b hb).2.2.2.2.2⟩
    obtain ⟨m, hn, _⟩ := I'.loc
    refine hR p g3.objs.size s' H' m IX q hn I'.free (fun z => ?_) (Nat.le_trans I3.sz (Nat.le_refl _)) (fun x c e z => ?_) fun r hr z => ?_
    · exact absurd (z ▸ I3.lt) (Nat.lt_irrefl _)
    · obtain ⟨v, o, ho, _⟩ := I3.cell x c e
      exact absurd (z ▸ Heap.lt_size ho) (Nat.lt_irrefl _)
    · obtain ⟨ho, _⟩ := I3.pin r hr
      exact absurd (z ▸ Heap.lt_size ho) (Nat.lt_irrefl _)
  have loop : codeAny (model X.prog X.w) X.A (.compLoop (.ListComp elt [⟨tg, iter, ifs, 0⟩] scope pos) 0 (.ref it) (.ref p) (compEnvC scope (clOf X.env scope.names []) g3.objs.size X.env)) (RR (.ref p) g3.objs.size) { s2 with heap := h₁, toks := s2.toks + ([] : List (Str × Value)).length } := by
    refine compLoop_any (fun n s' => ∃ i ys H', Inv Y [] (cσ k js σ) H' s' ∧ tn i s'.heap ∧ (∀ b ∈ fp, H' b = none) ∧ W i n ys H') ?_ m0 ⟨0, [], _, J0, st4, fun b hb => (f3 b hb).1, w0⟩
    rintro n s5 ⟨i, ys, H5, I5, st5, fr5, w5⟩
    obtain ⟨hys, w5⟩ := turn i n ys H5 w5
    rw [← yp, ← yw, ← yA, ← ye]
    have T' : Turn Y.prog Y.w Y.K tg J fp it tn := by rw [yp, yw, yK]; exact T
    rcases w5 with ⟨stop, q⟩ | ⟨go, hz, step⟩
    · refine thn (T'.done Y rfl rfl rfl yc i [] s5 _ H5 _ I5 (stat fr5) st5 stop) fun r s6 ⟨hr, I6⟩ => ?_
      subst hr
      exact endH I6 q
    · refine thn (T'.item Y rfl rfl rfl yc i [] s5 _ H5 _ I5 (stat fr5) st5 go) fun r s6 ⟨u, hr, h6⟩ => ?_
      subst hr
      refine thn h6 fun _ s7 ⟨x, H7, I7, r7, y7, st7, fr7⟩ => ?_
      have I7' := I7.pinned (stat fr7) (T.obj _ _ st7)
      have fin : ∀ {σ8 : St} {H8 : Hp} {s8 : Shared}, SubS (cσ k js σ) σ8 → Inv Y ([] ++ pinsAt fp s7.heap) σ8 H8 s8 → Inv Y [] (cσ k js σ) H8 s8 ∧ tn (i + 1) s8.heap ∧ ∀ b ∈ fp, H8 b = none := fun {σ8 H8 s8} sb I8 => by
        refine ⟨?_, T.keep _ _ _ st7 fun b hb o e => (I8.pin (b, o) (List.mem_append_right _ (List.mem_append_right _ (mem_pinsAt hb e)))).1, fun b hb => ?_⟩
        · exact (I8.unpinned (pins := [])).weak (by rw [I5.len, I8.len]) sb
        · obtain ⟨o, e, d⟩ := T.obj _ _ st7 b hb
          exact (I8.pin (b, o) (List.mem_append_right _ (List.mem_append_right _ (mem_pinsAt hb e)))).2.1
      have wE : ∀ {α : Type} {t : Sem α} {P : α → Shared → Prop} {s' : Shared}, wpAny (model Y.prog Y.w) Y.A t P Y.xe s' → wpAny (model Y.prog Y.w) Y.A t P (fun _ _ => False) s' := fun {α t P s'} h => by rw [yx] at h; exact h
      refine thn (wE (hG _ s7 _ H7 x u _ I7' r7 (step x H7 y7))) fun _ s8 ⟨σ8, H8, I8, sb, q8⟩ => ?_
      refine thn (wE (hT _ s8 σ8 H8 _ I8 q8)) fun b s9 ⟨H9, I9, q9⟩ => ?_
      cases b with
      | false =>
        have q9 : ∃ m', m' < n ∧ W (i + 1) m' ys H9 := q9
        obtain ⟨m', hm, w9⟩ := q9
        obtain ⟨a1, a2, a3⟩ := fin sb I9
        exact ⟨m', hm, i + 1, ys, H9, a1, a2, a3, w9⟩
      | true =>
        refine thn (wE (hE _ s9 σ8 H9 _ I9 q9)) fun y s10 ⟨v, H10, I10, r10, e10, m', hm, w10⟩ => ?_
        refine thn (wE (mt_append _ s10 σ8 H10 (.ref p) [v] (.ref p) [y] (fun _ H11 => ∃ m', m' < n ∧ W (i + 1) m' (ys ++ [v]) H11) I10 rfl (.cons r10 .nil) ⟨p, ys, v, rfl, rfl, e10, hz, m', hm, w10⟩)) fun z s11 ⟨_, H11, I11, _, m2, hm2, w11⟩ => ?_
        obtain ⟨a1, a2, a3⟩ := fin sb I11
        exact ⟨m2, hm2, i + 1, ys ++ [v], H11, a1, a2, a3, w11⟩
  refine codeAny_compStart_list loop ?_
  exact T.self _ _ _ _ _ st4 loop

theorem pe_comp (hc : X.calm = true) (S : CScope X N scope k js) (hi : PI X tg iter wi)
    (hb : ∀ (cl : List (Str × Addr)) (C : Addr) (s : Shared) (H : Hp) (fp : List Addr), PG (cxComp X N scope cl C s H fp) tg g ∧ PIfs (cxComp X N scope cl C s H fp) ifs tt ∧ PE (cxComp X N scope cl C s H fp) elt te)
    (hs : ∀ x, foldedSetIterable iter X.env x = pure x := by intro _; rfl) : PE X (.ListComp elt [⟨tg, iter, ifs, 0⟩] scope pos) (tComp wi k js g tt te) := by
  intro pins s σ H Q I h
  rw [eval_ListComp]
  refine wpAny_comprehension_free (use := none) rfl hs (closure_of (S.cells I.ok)) S.kind S.loc (thn (hi pins s σ H _ I h) fun v s1 h1 => thn h1 fun itv s2 h2 => ?_)
  obtain ⟨it, fp, tn, J, H2, e, I2, T, st2, f2, q⟩ := h2
  subst e
  refine comp_core (RR := fun acc C => compPost (model X.prog X.w) X.A X.xe none (EP X pins σ Q) acc C) hc S hb I2 T st2 f2 q ?_
  intro p C s' H' m IX q' hn hC hL h0 hcl hpn
  refine ⟨m, hn, fun h' sb => ⟨.ref p, H', ?_, rfl, q'⟩⟩
  exact IX.turned (t' := s'.toks) (fun b o hb e => (sb.2 b hb).trans e) hC (Ne.symm hL).symm (.inr h0) hcl hpn

/-- name = [.. for ..] on one row: the name is stored ahead of the block's end -/
theorem ps_setC {i : Nat} {x : Str} {pos' cpos : Pos} (hN : X.N.Nodup) (hi' : X.N[i]? = some x) (hx : Loc X.env.scope x) (hc : X.calm = true) (S : CScope X N scope k js) (hi : PI X tg iter wi)
    (hb : ∀ (cl : List (Str × Addr)) (C : Addr) (s : Shared) (H : Hp) (fp : List Addr), PG (cxComp X N scope cl C s H fp) tg g ∧ PIfs (cxComp X N scope cl C s H fp) ifs tt ∧ PE (cxComp X N scope cl C s H fp) elt te)
    (hsw : swapsWith (.ListComp elt [⟨tg, iter, ifs, 0⟩] scope cpos) (some (.Name x pos')) pos.line X.env = pure true := by rfl)
    (hs : ∀ x, foldedSetIterable iter X.env x = pure x := by intro _; rfl) (hf : X.fn x = true ∨ X.env.scope.names.lookup x = some .local := by first | exact .inl rfl | exact .inr rfl | assumption) :
    PS X (.Assign [.Name x pos'] (.ListComp elt [⟨tg, iter, ifs, 0⟩] scope cpos) pos) (tAsg (tComp wi k js g tt te) (gName i)) := by
  intro pins s σ H D I h
  rw [exec_Assign_Name_used _ _ _ _ hsw]
  refine wpAny_bind (wpAny_standAt (wpAny_bind ?_))
  show wpAny _ X.A (do let _ ← comprehension (.ListComp elt [⟨tg, iter, ifs, 0⟩] scope cpos) scope X.env _ (newList []) false (eval iter X.env) (some (assign (.Name x pos') X.env))) _ _ s
  refine wpAny_bind (wpAny_mono (wpAny_comprehension_free (use := some (assign (.Name x pos') X.env)) (Q := fun _ s' => SP X pins D .next s') rfl hs (closure_of (S.cells I.ok)) S.kind S.loc (thn (hi pins s σ H _ I h) fun v s1 h1 => thn h1 fun itv s2 h2 => ?_))
    (fun _ s' hq => wpAny_pure (wpAny_pure hq)) fun _ _ e => e)
  obtain ⟨it, fp, tn, J, H2, e, I2, T, st2, f2, q⟩ := h2
  subst e
  refine comp_core (Q := fun v H' => D.nx (σ.set i (some v)) H') (RR := fun acc C => compPost (model X.prog X.w) X.A X.xe (some (assign (.Name x pos') X.env)) (fun _ s' => SP X pins D .next s') acc C) hc S hb I2 T st2 f2 q ?_
  intro p C s' H' m IX q' hn hC hL h0 hcl hpn
  show wpAny _ X.A (assign (.Name x pos') X.env (.ref p)) _ _ s'
  refine wpAny_assign_Name (store_ok2 (v := .ref p) IX hN hi' hx rfl (fun s'' I'' ⟨a, sb, ha⟩ => ?_) hf)
  have hCa : C ≠ a := by
    rcases ha with z | z
    · rw [z]; exact hL
    · exact fun e => hcl x a z e.symm
  refine ⟨m, hn.sameBut sb hCa, fun h' sb' => ⟨σ.set i (some (.ref p)), H', ?_, q'⟩⟩
  exact I''.turned (t' := s''.toks) (fun b o hb e => (sb'.2 b hb).trans e) hC hL (.inr h0) hcl hpn
end

/-- the look at a block's scope, by reckoning -/
def cOk (osc : Scope) (ON N : List Str) (scope : Scope) (k : Nat) (js : List Nat) : Bool :=
  (scope.kind == .function) && scope.names.all (fun y => !(y.2 == .cell)) && scope.names.all (fun y => !(y.2 == .local) || scope.names.lookup y.1 == some .local) &&
  scope.names.all (fun y => !(y.2 == .free) || (osc.names.lookup y.1 == some .cell || osc.names.lookup y.1 == some .free)) && (N.length == k + js.length) &&
  (List.range js.length).all (fun i => ON[js.getD i 0]? == N[k + i]?) && (N.drop k).all fun x => scope.names.lookup x == some .free
theorem cscope_of {X : Cx} {N : List Str} {scope : Scope} {k : Nat} {js : List Nat} (h : cOk X.env.scope X.N N scope k js = true) : CScope X N scope k js := by
  unfold cOk at h
  simp only [Bool.and_eq_true] at h
  obtain ⟨⟨⟨⟨⟨⟨h1, h2⟩, h3⟩, h4⟩, h5⟩, h6⟩, h7⟩ := h
  have h5 := eq_of_beq h5
  rw [List.all_eq_true] at h2 h3 h4 h6 h7
  refine ⟨eq_of_beq h1, fun y hy e => ?_, fun y hy e => ?_, fun y hy e => ?_, h5, fun i j e => ?_, fun i x e => ?_⟩
  · have q := h2 y hy
    rw [e] at q
    exact absurd q (by decide)
  · have q := h3 y hy
    rw [e] at q
    exact eq_of_beq (by simpa using q)
  · have q := h4 y hy
    rw [e] at q
    have q : (X.env.scope.names.lookup y.1 == some .cell || X.env.scope.names.lookup y.1 == some .free) = true := by simpa using q
    rw [Bool.or_eq_true] at q
    rcases q with q | q
    · exact .inl (eq_of_beq q)
    · exact .inr (eq_of_beq q)
  · have hi : i < js.length := (List.getElem?_eq_some_iff.mp e).1
    have q := eq_of_beq (h6 i (List.mem_range.mpr hi))
    rw [List.getD_eq_getElem?_getD, e] at q
    exact q
  · refine eq_of_beq (h7 x ?_)
    rw [List.mem_iff_getElem?]
    exact ⟨i, by rw [List.getElem?_drop]; exact e⟩
end L2

/-! ### more of Python's own: isinstance, all, any, repr, texts walked and cut, lists compared -/
namespace L2
open PySem PySem.Spec PyProof.Rows
section
variable {X : Cx}
/-- isinstance(x, T), T one of Python's own -/
theorem call_isinst : CallR X (.builtin "isinstance") (fun xs H Q => ∃ x T t b, xs = [x, .ty T] ∧ TyOf X.K H x t ∧ PySem.W.kitOne X.K t (.type T) = some b ∧ Q (.bl b) H) := by
  intro pins s σ H xs us Q I r h
  obtain ⟨x, T, t, b, rfl, ty, e, q⟩ := h
  obtain ⟨u, c, rfl, ru, rc⟩ := vals2 r
  cases rc
  exact isinst_ok I ru ty e fun tk => ⟨.bl b, H, I.tok tk, rfl, q⟩
/-- a text's cut -/
def rSlS : V → Option Int → Option Int → Hp → VK → Prop := fun x lo hi H Q => ∃ z, x = .str z ∧ z.length ≤ sizeLine ∧ Q (.str (Txt.slice z lo hi)) H
end

/-! ### a text walked -/
def Its (x : Str) : It := ⟨fun i _ => i < x.length, fun i H v H' => H' = H ∧ ∃ c, x.cps[i]? = some c ∧ v = .str ⟨#[c]⟩, fun i _ => x.length ≤ i⟩
section
variable {X : Cx} {tg : Expr}
def iStr (tl : TE) : TI := fun σ H R => tl σ H fun x H1 => ∃ z, x = .str z ∧ R (Its z) H1
end

/-! ### all, any of a list of truths -/
section
variable {X : Cx}
/-! ### two lists compared -/
def eqVs : List V → List V → Bool
  | [], [] => true
  | x :: xs, y :: ys => eqV x y && eqVs xs ys
  | _, _ => false
theorem eqVs_range : ∀ (xs ys : List V), xs.length = ys.length → (List.range xs.length).all (fun j => eqV (xs.getD j .non) (ys.getD j .non)) = eqVs xs ys
  | [], [], _ => rfl
  | x :: xs, y :: ys, h => by
    rw [List.length_cons, List.range_succ_eq_map, List.all_cons, List.all_map]
    have h' : xs.length = ys.length := by simpa using h
    rw [← (show (eqV x y && eqVs xs ys) = eqVs (x :: xs) (y :: ys) from rfl), ← eqVs_range xs ys h']
    rfl
  | [], _ :: _, h => by simp at h
  | _ :: _, [], h => by simp at h
def rEqL (neg : Bool) : R2 := fun x y H Q => ∃ a b xs ys, x = .ref a ∧ y = .ref b ∧ H a = some (.lst xs) ∧ H b = some (.lst ys) ∧
  ((xs.length ≠ ys.length ∧ Q (.bl neg) H) ∨ (xs.length = ys.length ∧ xs.all flatV = true ∧ ys.all flatV = true ∧ Q (.bl (if neg then !eqVs xs ys else eqVs xs ys)) H))
theorem flat_get {xs : List V} {us : List Value} {j : Nat} (r : Vals xs us) (f : xs.all flatV = true) (hj : j < us.length) : ∃ x, xs[j]? = some x ∧ RelV x us[j] ∧ flatV x = true := by
  have hl := r.length
  have hx : xs[j]? = some xs[j] := by simp [hl, hj]
  obtain ⟨u, hu, ru⟩ := r.get hx
  have e : us[j]? = some us[j] := by simp [hj]
  rw [e] at hu
  cases hu
  exact ⟨_, hx, ru, List.all_eq_true.mp f _ (List.getElem_mem _)⟩
theorem op_eq_list (hu : X.A.units < cLine) : OpR X (compareOp .Eq) (rEqL false) := by
  intro pins s σ H x y v u Q I rx ry h
  obtain ⟨a, b, xs, ys, rfl, rfl, ha, hb, h⟩ := h
  cases rx
  cases ry
  obtain ⟨its, r, pl, hz⟩ := I.list (SqL.of ha)
  obtain ⟨its2, r2, pl2, hz2⟩ := I.list (SqL.of hb)
  have hl := r.length
  have hl2 := r2.length
  rcases h with ⟨hne, q⟩ | ⟨he, f1, f2, q⟩
  · exact SeqAt.eq_list_lengthsAt pl.isList pl2.isList (by simp; omega) hu ⟨.bl false, H, I, rfl, q⟩
  · refine SeqAt.eq_listAt (e := fun j => eqV (xs.getD j .non) (ys.getD j .non)) pl.isList pl2.isList (by simp; omega) hu (fun j h1 h2 => ?_) ⟨.bl (eqVs xs ys), H, I, ?_, q⟩
    · have h1 : j < its.length := by simpa using h1
      have h2 : j < its2.length := by simpa using h2
      obtain ⟨x, e1, rx, fx⟩ := flat_get r f1 h1
      obtain ⟨y, e2, ry, fy⟩ := flat_get r2 f2 h2
      have g1 : xs.getD j .non = x := by rw [List.getD_eq_getElem?_getD, e1]; rfl
      have g2 : ys.getD j .non = y := by rw [List.getD_eq_getElem?_getD, e2]; rfl
      show SeqAt.EqAt _ _ its.toArray[j] its2.toArray[j] (eqV (xs.getD j .non) (ys.getD j .non))
      rw [g1, g2]
      exact eqAt_V rx ry fx fy
    · show Value.bool _ = Value.bool _
      rw [← eqVs_range xs ys he, List.size_toArray, hl]
end
end L2

/-! ### what one uses of comprehensions -/
namespace L2
open PySem PySem.Spec PyProof.Rows
theorem Same.upd {H : Hp} {p : Addr} {o : HO} (h : H p = none) : Same H (upd H p o) := fun b u e => by
  rw [upd_ne (ne_of_none e h)]
  exact e
/-- what an iterator yields, whatever is laid beside -/
structure Feeds (J : It) (H : Hp) (xs : List V) : Prop where
  go : ∀ i H', Same H H' → i < xs.length → J.go i H'
  yld : ∀ i H' x H'', Same H H' → J.yld i H' x H'' → H'' = H' ∧ (i < xs.length → xs[i]? = some x)
  stop : ∀ i H', Same H H' → xs.length ≤ i → J.stop i H'
theorem feeds_list {K : PySem.W.Frag} {a : Addr} {xs : List V} {H : Hp} (h : SqL K H a xs) : Feeds (Itl K a) H xs where
  go := fun i H' s hi => ⟨xs, xs[i], s.seq h, by simp [hi]⟩
  yld := fun i H' x H'' s q => ⟨q.1, fun _ => q.2 xs (s.seq h)⟩
  stop := fun i H' s hi => ⟨xs, s.seq h, hi⟩
theorem feeds_range (lo : Int) (n : Nat) (H : Hp) : Feeds (Itr lo n) H ((List.range n).map fun (i : Nat) => V.int (lo + (i : Int))) where
  go := fun i H' _ h => by
    show i < n
    simpa using h
  yld := fun i H' x H'' _ q => by
    obtain ⟨e, rfl⟩ := q
    refine ⟨e, fun h => ?_⟩
    have h : i < n := by simpa using h
    simp [List.getElem?_map, List.getElem?_range h]
  stop := fun i H' _ h => by
    show n ≤ i
    simpa using h
/-- a cut: what the rest of a block asks is said by a word of one's own -/
theorem pss_imp {X : Cx} {sts : List Stmt} {t : TS} (R : TS) (h : PSs X sts t) (hR : ∀ D σ H, R D σ H → t D σ H) : PSs X sts R := fun pins s σ H D I hq => h pins s σ H D I (hR D σ H hq)
end L2

/-! ### reversed(xs), enumerate(xs), walked -/
namespace L2
open PySem PySem.Spec PyProof.Rows
/-- the list at a, from behind; n its length when the walk began -/
def Itv (K : PySem.W.Frag) (a : Addr) (n : Nat) : It :=
  ⟨fun i H => i < n ∧ ∃ xs, SqL K H a xs ∧ xs.length = n, fun i H x H' => H' = H ∧ ∀ xs, SqL K H a xs → xs[n - 1 - i]? = some x, fun i _ => n ≤ i⟩
theorem turn_rev {P : Program} {w : World} {K : PySem.W.Frag} {tg : Expr} (a it : Addr) (n : Nat) : Turn P w K tg (Itv K a n) [it] it (fun i h => i ≤ n ∧ h.IsRevIter it a ((n : Int) - 1 - (i : Int))) where
  mem := by simp
  obj := fun i h st b hb => by
    have e : b = it := by simpa using hb
    subst e
    obtain ⟨_, o, e, c, d⟩ := st
    exact ⟨o, e, fun v z => by rw [d] at z; cases z⟩
  keep := fun i h h' st k => ⟨st.1, st.2.at fun o e => k it (by simp) o e⟩
  item := by
    intro X hP hw hK hc i pins s σ H E I hf st hg
    subst hP hw hK
    obtain ⟨hi, xs, hq, hlen⟩ := hg
    obtain ⟨its, rv, p, hz⟩ := I.list hq
    have hl := rv.length
    have hx : xs[n - 1 - i]? = some xs[n - 1 - i] := by simp [show n - 1 - i < xs.length by omega]
    obtain ⟨u, hu, ru⟩ := rv.get hx
    obtain ⟨f0, f1, f2, f3, f4, f5⟩ := hf it (by simp)
    have e : (n : Int) - 1 - (i : Int) = ((n - 1 - i : Nat) : Int) := by omega
    have hit := st.2
    rw [e] at hit
    refine wpAny_pyNext_rev_item hit p.isList (x := u) (by simpa using hu) fun h' st' sb => ?_
    have I1 : Inv X pins σ H { s with heap := h' } := I.turned (t' := s.toks) (fun b o hb e => (sb.2 b hb).trans e) f0 f1 f3 f4 f5
    have e2 : ((n - 1 - i : Nat) : Int) - 1 = (n : Int) - 1 - ((i + 1 : Nat) : Int) := by omega
    rw [e2] at st'
    obtain ⟨o, eo, c, d⟩ := id st'
    exact ⟨u, rfl, go_of (s := { s with heap := h' }) eo c d (by decide) ⟨_, H, I1, ru, ⟨rfl, fun ys hy => by rw [I.list_inj hy hq]; exact hx⟩, ⟨hi, st'⟩, fun b hb => (hf b hb).1⟩⟩
  done := by
    intro X hP hw hK hc i pins s σ H E I hf st hg
    subst hP hw hK
    obtain ⟨f0, f1, f2, f3, f4, f5⟩ := hf it (by simp)
    have ei : i = n := Nat.le_antisymm st.1 hg
    subst ei
    have hit := st.2
    have e : (i : Int) - 1 - (i : Int) = -1 := by omega
    rw [e] at hit
    exact wpAny_pyNext_rev_end (I.ok.hd hc) hit fun h' eb => ⟨rfl, I.turned (t' := s.toks) (fun b o hb e => eb b o hb e) f0 f1 f3 f4 f5⟩
  self := fun _ _ _ _ _ st h => wpAny_pyIter_revIter st.2 h
/-- pairs (number, item) of the list at a: each a new tuple -/
def Ite (K : PySem.W.Frag) (a : Addr) : It :=
  ⟨fun i H => ∃ xs x, SqL K H a xs ∧ xs[i]? = some x, fun i H v H' => ∃ T x, v = .ref T ∧ H T = none ∧ H' = upd H T (.tup [.int i, x]) ∧ ∀ xs, SqL K H a xs → xs[i]? = some x, fun i H => ∃ xs, SqL K H a xs ∧ xs.length ≤ i⟩
theorem turn_enum {P : Program} {w : World} {K : PySem.W.Frag} {elts : List Expr} {kt : Nat} {pt : Pos} (a e it : Addr) (hei : e ≠ it) : Turn P w K (.Tuple elts kt pt) (Ite K a) [e, it] e (fun i h => (∃ old, IsEnum h e it i old) ∧ h.IsListIter it a i) where
  mem := by simp
  obj := fun i h st b hb => by
    obtain ⟨⟨old, he⟩, o, ho, c, d⟩ := st
    have hb : b = e ∨ b = it := by simpa using hb
    rcases hb with rfl | rfl
    · exact ⟨_, he, fun v z => by cases z⟩
    · exact ⟨o, ho, fun v z => by rw [d] at z; cases z⟩
  keep := fun i h h' st k => by
    obtain ⟨⟨old, he⟩, hit⟩ := st
    exact ⟨⟨old, k e (by simp) _ he⟩, hit.at fun o x => k it (by simp) o x⟩
  item := by
    intro X hP hw hK hc i pins s σ H E I hf st hg
    subst hP hw hK
    obtain ⟨xs, x, hq, hx⟩ := hg
    obtain ⟨its, rv, p, hz⟩ := I.list hq
    obtain ⟨u, hu, ru⟩ := rv.get hx
    obtain ⟨⟨old, he⟩, hit⟩ := st
    obtain ⟨f0, f1, f2, f3, f4, f5⟩ := hf e (by simp)
    obtain ⟨g0, g1, g2, g3, g4, g5⟩ := hf it (by simp)
    have helt : e < s.heap.objs.size := Heap.lt_size he
    have hilt : it < s.heap.objs.size := by obtain ⟨_, x, _⟩ := hit; exact Heap.lt_size x
    refine wpAny_pyNext_enum_item he hit p.isList (x := u) (by simpa using hu) hei fun h' ho hit' hT hsz hk => ?_
    refine ⟨.ref s.heap.objs.size, rfl, ?_⟩
    refine wpAny_letOwnedTupleGo_enum ho fun h'' he'' hs'' => ?_
    have hTn : H s.heap.objs.size = none := I.hok.fresh (Nat.le_refl _)
    have hTe : s.heap.objs.size ≠ e := Nat.ne_of_gt helt
    have kk : ∀ b o, b ≠ e → b ≠ it → s.heap.get? b = some o → h''.get? b = some o := fun b o hbe hbi q => (hs''.2 b hbe).trans (hk b o hbe hbi q)
    have hT'' : h''.get? s.heap.objs.size = some { cls := .type "tuple", data := .seq #[.int i s.toks, u] } := (hs''.2 _ hTe).trans hT
    have hne : ∀ b u, H b = some u → b ≠ e ∧ b ≠ it := fun b u q => ⟨(fun z => by rw [z, f0] at q; cases q), (fun z => by rw [z, g0] at q; cases q)⟩
    have I2 : Inv X pins σ (upd H s.heap.objs.size (.tup [.int i, x])) { s with heap := h'', toks := s.toks + 1 } := by
      have new : ObjOk X.prog X.w (upd H s.heap.objs.size (.tup [.int i, x])) h'' s.heap.objs.size (.tup [.int i, x]) := ⟨(show 2 ≤ sizeLine by decide), [.int i s.toks, u], .cons ⟨_, rfl⟩ (.cons ru .nil), ⟨_, hT'', rfl, _, rfl⟩⟩
      refine I.step (g' := s.gens) (d' := s.drawn) (ch := [e, it]) (fun b hb => ?_) (fun b o _ _ hc q _ => kk b o (fun z => hc (by simp [z])) (fun z => hc (by simp [z])) q) (fun b o _ _ hc q _ => ⟨o.slots, kk b o (fun z => hc (by simp [z])) (fun z => hc (by simp [z])) q⟩)
        (fun b o _ q n => ?_) (fun b o hc q => ⟨o, kk b o (fun z => hc (by simp [z])) (fun z => hc (by simp [z])) q⟩) (fun b ys q => ?_) (fun b o ys q => ?_) (fun b ps q => ⟨#[], ?_⟩) (fun m hm => ?_) (fun b u q => ?_) I.bare
      · have hb : b = e ∨ b = it := by simpa using hb
        rcases hb with rfl | rfl
        · exact ⟨f3, f1, f4, f5⟩
        · exact ⟨g3, g1, g4, g5⟩
      · rw [upd_ne (Nat.ne_of_lt (Heap.lt_size q))]; exact n
      · rw [upd_ne (ne_of_none q hTn)]; exact q
      · rw [upd_ne (ne_of_none q hTn)]; exact q
      · rw [upd_ne (ne_of_none q hTn), q]; simp
      · obtain ⟨o, es, ep, q, r⟩ := hm
        exact ⟨o, es, ep, kk _ o (Ne.symm f1) (Ne.symm g1) q, r⟩
      · by_cases hb : b = s.heap.objs.size
        · subst hb
          rw [upd_same] at q
          cases q
          exact new
        · rw [upd_ne hb] at q
          refine (I.hok b u q).stay (fun c v hc q' => kk c v ?_ ?_ q') (fun c q' => ?_) fun c ys q' => ?_
          · rcases hc with z | z
            · rw [z]; exact (hne b u q).1
            · exact (hne c _ z).1
          · rcases hc with z | z
            · rw [z]; exact (hne b u q).2
            · exact (hne c _ z).2
          · rw [upd_ne (ne_of_none q' hTn)]; exact q'
          · rw [upd_ne (ne_of_none q' hTn)]; exact q'
    refine ⟨.ref s.heap.objs.size, _, I2, rfl, ⟨_, x, rfl, hTn, rfl, fun ys hy => by rw [I.list_inj hy hq]; exact hx⟩, ⟨⟨_, by simpa using he''⟩, hit'.at fun o q => (hs''.2 it hei.symm).trans q⟩, fun b hb => ?_⟩
    have hb : b = e ∨ b = it := by simpa using hb
    rcases hb with rfl | rfl
    · rw [upd_ne (Ne.symm hTe)]; exact f0
    · rw [upd_ne (Nat.ne_of_lt hilt)]; exact g0
  done := by
    intro X hP hw hK hc i pins s σ H E I hf st hg
    subst hP hw hK
    obtain ⟨xs, hq, hx⟩ := hg
    obtain ⟨its, rv, p, hz⟩ := I.list hq
    obtain ⟨⟨old, he⟩, hit⟩ := st
    obtain ⟨g0, g1, g2, g3, g4, g5⟩ := hf it (by simp)
    have hl := rv.length
    exact wpAny_pyNext_enum_end (I.ok.hd hc) he hit p.isList (by simp; omega) fun h' eb => ⟨rfl, I.turned (t' := s.toks) (fun b o hb e => eb b o hb e) g0 g1 g3 g4 g5⟩
  self := fun _ _ _ _ _ st h => by
    obtain ⟨⟨old, he⟩, _⟩ := st
    exact wpAny_pyIter_enum he h
section
variable {X : Cx} {tg : Expr}
/-- reversed(xs) behind a for's or a comprehension's in -/
def iRev (K : PySem.W.Frag) (ta : TA) : TI := fun σ H R => ta σ H fun vs H1 => ∃ a xs, vs = [.ref a] ∧ SqL K H1 a xs ∧ R (Itv K a xs.length) H1
theorem pi_reversed {a : Expr} {ta : TA} {p pos : Pos} (hg : Gl X "reversed") (hm : X.mg "reversed" = none) (ha : PA X [a] ta) (hs : starEach [a] X.env = [(false, eval a X.env)] := by rfl) : PI X tg (.Call (.Name "reversed" p) [a] [] pos) (iRev X.K ta) := by
  intro pins s σ H R I h
  refine Call_ (ld_blt I hg hm Boot.«reversed» (PyProof.Rows.callWith_type1 (thn (ha pos pins s σ H _ I h) fun us s1 ⟨vs, H1, I1, r1, q1⟩ => ?_) hs rfl))
  obtain ⟨l, xs, e, hq, q⟩ := q1
  subst e
  obtain ⟨u, rfl, ru⟩ := vals1 r1
  cases ru
  obtain ⟨its, rv, pl, hz⟩ := I1.list hq
  have hl := rv.length
  refine call_reversed_list pl.isList ?_
  have I2 : Inv X pins σ H1 { s1 with heap := s1.heap.push (revObj l ((its.toArray.size : Int) - 1)) } := I1.kept (t' := s1.toks) fun b o e => Heap.get?_push_of_some _ e
  have hit : (s1.heap.push (revObj l ((its.toArray.size : Int) - 1))).IsRevIter s1.heap.objs.size l ((xs.length : Int) - 1 - ((0 : Nat) : Int)) := by
    have e : ((xs.length : Int) - 1 - ((0 : Nat) : Int)) = ((its.toArray.size : Int) - 1) := by rw [List.size_toArray, hl]; simp
    rw [e]
    exact ⟨_, Heap.get?_push_size _ rfl, rfl, rfl⟩
  refine wpAny_pyIter_revIter (s := { s1 with heap := s1.heap.push (revObj l ((its.toArray.size : Int) - 1)) }) hit ?_
  refine ⟨s1.heap.objs.size, [s1.heap.objs.size], _, _, H1, rfl, I2, turn_rev l _ xs.length, ⟨Nat.zero_le _, hit⟩, fun b hb => ?_, q⟩
  have e : b = s1.heap.objs.size := by simpa using hb
  subst e
  exact I1.fpOk (Nat.le_refl _) (I1.hok.fresh (Nat.le_refl _))
/-- enumerate(xs), the list tracked -/
def iEnum (K : PySem.W.Frag) (ta : TA) : TI := fun σ H R => ta σ H fun vs H1 => ∃ a xs, vs = [.ref a] ∧ H1 a = some (.lst xs) ∧ R (Ite K a) H1
theorem pi_enumerate {a : Expr} {ta : TA} {p pos : Pos} {elts : List Expr} {kt : Nat} {pt : Pos} (hg : Gl X "enumerate") (hm : X.mg "enumerate" = none) (ha : PA X [a] ta) (hs : starEach [a] X.env = [(false, eval a X.env)] := by rfl) :
    PI X (.Tuple elts kt pt) (.Call (.Name "enumerate" p) [a] [] pos) (iEnum X.K ta) := by
  intro pins s σ H R I h
  refine Call_ (ld_blt I hg hm Boot.«enumerate» (PyProof.Rows.callWith_type1 (thn (ha pos pins s σ H _ I h) fun us s1 ⟨vs, H1, I1, r1, q1⟩ => ?_) hs rfl))
  obtain ⟨l, xs, e, hq, q⟩ := q1
  subst e
  obtain ⟨u, rfl, ru⟩ := vals1 r1
  cases ru
  obtain ⟨its, n, rv, ho, hz⟩ := I1.lst hq
  refine call_enumerate_1 ho fun h' he hit hsz hk => ?_
  have I2 : Inv X pins σ H1 { s1 with heap := h' } := I1.kept (t' := s1.toks) hk
  refine wpAny_pyIter_enum (s := { s1 with heap := h' }) he ?_
  refine ⟨s1.heap.objs.size + 1, [s1.heap.objs.size + 1, s1.heap.objs.size], _, _, H1, rfl, I2, turn_enum l _ _ (Nat.succ_ne_self _), ⟨⟨_, he⟩, hit⟩, fun b hb => ?_, q⟩
  have hb : b = s1.heap.objs.size + 1 ∨ b = s1.heap.objs.size := by simpa using hb
  rcases hb with rfl | rfl
  · exact I1.fpOk (Nat.le_succ _) (I1.hok.fresh (Nat.le_succ _))
  · exact I1.fpOk (Nat.le_refl _) (I1.hok.fresh (Nat.le_refl _))
end
/-! ### what an iterator yields where the heap may grow -/
structure FeedsG (J : It) (H : Hp) (n : Nat) (Y : Nat → V → Hp → Prop) : Prop where
  go : ∀ i H', Same H H' → i < n → J.go i H'
  yld : ∀ i H' x H'', Same H H' → i < n → J.yld i H' x H'' → Same H' H'' ∧ Y i x H''
  stop : ∀ i H', Same H H' → n ≤ i → J.stop i H'
theorem Feeds.g {J : It} {H : Hp} {xs : List V} (F : Feeds J H xs) : FeedsG J H xs.length (fun i x _ => xs[i]? = some x) where
  go := F.go
  yld := fun i H' x H'' s hi h => by
    obtain ⟨e, q⟩ := F.yld i H' x H'' s h
    exact ⟨e ▸ Same.refl H', q hi⟩
  stop := F.stop
theorem feeds_rev {K : PySem.W.Frag} {a : Addr} {xs : List V} {H : Hp} (h : SqL K H a xs) : Feeds (Itv K a xs.length) H xs.reverse where
  go := fun i H' s hi => ⟨by simpa using hi, xs, s.seq h, rfl⟩
  yld := fun i H' x H'' s q => ⟨q.1, fun hi => by
    have hi : i < xs.length := by simpa using hi
    rw [List.getElem?_reverse hi]
    exact q.2 xs (s.seq h)⟩
  stop := fun i H' s hi => by
    show xs.length ≤ i
    simpa using hi
theorem feeds_enum {K : PySem.W.Frag} {a : Addr} {xs : List V} {H : Hp} (h : SqL K H a xs) : FeedsG (Ite K a) H xs.length (fun i x H' => ∃ T y, x = .ref T ∧ H' T = some (.tup [.int i, y]) ∧ xs[i]? = some y) where
  go := fun i H' s hi => ⟨xs, xs[i], s.seq h, by simp [hi]⟩
  yld := fun i H' x H'' s hi q => by
    obtain ⟨T, y, rfl, hT, rfl, hy⟩ := q
    exact ⟨Same.upd hT, T, y, rfl, upd_same, hy xs (s.seq h)⟩
  stop := fun i H' s hi => ⟨xs, s.seq h, hi⟩
/-- a comprehension over n turns; its test and element may lay new things -/
theorem comp_grow {J : It} {n k : Nat} {js : List Nat} {Y : Nat → V → Hp → Prop} {g : TG} {tt : TT} {te : TE} {σ : St} {H : Hp} {Q : VK} (pb : Nat → Bool) (fe : Nat → V) (F : FeedsG J H n Y) (hlen : n ≤ sizeLine)
    (hbody : ∀ (i : Nat) (x : V) (H' : Hp) (C1 : V → Hp → Prop) (C0 : Hp → Prop), i < n → Same H H' → Y i x H' → (pb i = true → ∀ H'', Same H' H'' → C1 (fe i) H'') → (pb i = false → ∀ H'', Same H' H'' → C0 H'') →
      g x (cσ k js σ) H' fun σ2 H2 => SubS (cσ k js σ) σ2 ∧ tt σ2 H2 fun b H3 => if b = true then te σ2 H3 C1 else C0 H3)
    (hq : ∀ p H', H p = none → Same H H' → H' p = some (.lst (((List.range n).filter pb).map fe)) → Q (.ref p) H') :
    CompGoal J k js g tt te σ H Q := by
  intro p hp
  refine ⟨fun i m ys H' => m = n - i ∧ i ≤ n ∧ ys = ((List.range i).filter pb).map fe ∧ H' p = some (.lst ys) ∧ Same H H', ⟨n, rfl, Nat.zero_le _, rfl, upd_same, Same.upd hp⟩, ?_⟩
  rintro i m ys H' ⟨rfl, hi, rfl, hl, hs⟩
  refine ⟨hl, ?_⟩
  by_cases hlt : i < n
  · refine .inr ⟨F.go i _ hs hlt, ?_, fun x H'' hy => ?_⟩
    · rw [List.length_map]
      have h1 : ((List.range i).filter pb).length ≤ (List.range i).length := List.length_filter_le _ _
      rw [List.length_range] at h1
      omega
    · obtain ⟨s1, y1⟩ := F.yld i _ x H'' hs hlt hy
      have et : (List.range (i + 1)).filter pb = (List.range i).filter pb ++ (if pb i = true then [i] else []) := by
        rw [List.range_succ, List.filter_append]
        cases hb : pb i <;> simp [hb]
      refine hbody i x H'' _ _ hlt (hs.trans s1) y1 (fun hb H3 s3 => ⟨s3 _ _ (s1 _ _ hl), n - (i + 1), by omega, rfl, hlt, ?_, upd_same, ?_⟩) (fun hb H3 s3 => ⟨n - (i + 1), by omega, rfl, hlt, ?_, s3 _ _ (s1 _ _ hl), (hs.trans s1).trans s3⟩)
      · rw [et, if_pos hb, List.map_append]
        rfl
      · intro c o e
        rw [upd_ne (ne_of_none e hp)]
        exact s3 _ _ (s1 _ _ (hs _ _ e))
      · rw [et, hb]
        simp
  · have e : i = n := by omega
    subst e
    exact .inl ⟨F.stop _ _ hs (Nat.le_refl _), hq p H' hp hs hl⟩
end L2

/-! ### repr of lists and tuples: the text of what they hold -/
namespace L2
open PySem PySem.Spec PyProof.Rows
mutual
/-- what a value is, whole (lists and tuples within) -/
inductive Dat (H : Hp) : V → PyData → Prop
  | non : Dat H .non .none
  | bl (b : Bool) : Dat H (.bl b) (.bool b)
  | int (i : Int) : Dat H (.int i) (.int i)
  | str (x : Str) : Dat H (.str x) (.str x)
  | lst {a : Addr} {xs : List V} {ds : List PyData} (e : H a = some (.lst xs)) (h : DatAll H xs ds) : Dat H (.ref a) (.list ds)
  | tup {a : Addr} {xs : List V} {ds : List PyData} (e : H a = some (.tup xs)) (h : DatAll H xs ds) : Dat H (.ref a) (.tuple ds)
inductive DatAll (H : Hp) : List V → List PyData → Prop
  | nil : DatAll H [] []
  | cons {x : V} {xs : List V} {d : PyData} {ds : List PyData} (h : Dat H x d) (t : DatAll H xs ds) : DatAll H (x :: xs) (d :: ds)
end
mutual
theorem Dat.reads {P : Program} {w : World} {H : Hp} {h : Heap} (ok : HOk P w H h) : ∀ {v : V} {d : PyData} {u : Value}, Dat H v d → RelV v u → (∃ as, Reads h u d as) ∧ d.hasDict = false
  | _, _, _, .non, r => by cases r; exact ⟨⟨_, .none⟩, by simp only [PyData.hasDict]⟩
  | _, _, _, .bl b, r => by cases r; exact ⟨⟨_, .bool b⟩, by simp only [PyData.hasDict]⟩
  | _, _, _, .int i, r => by obtain ⟨t, rfl⟩ := r; exact ⟨⟨_, .int i t⟩, by simp only [PyData.hasDict]⟩
  | _, _, _, .str x, r => by obtain ⟨t, rfl⟩ := r; exact ⟨⟨_, .str x t⟩, by simp only [PyData.hasDict]⟩
  | _, _, _, .lst e hd, r => by
    cases r
    obtain ⟨z, its, n, rv, ho⟩ := (show ObjOk P w H h _ (.lst _) from ok _ _ e)
    obtain ⟨⟨as, q⟩, hh⟩ := DatAll.reads ok hd rv
    exact ⟨⟨_, .list ho rfl rfl (by simpa using q)⟩, by simp only [PyData.hasDict]; exact hh⟩
  | _, _, _, .tup e hd, r => by
    cases r
    obtain ⟨z, its, rv, o, ho, hc, n, hdt⟩ := (show ObjOk P w H h _ (.tup _) from ok _ _ e)
    obtain ⟨⟨as, q⟩, hh⟩ := DatAll.reads ok hd rv
    exact ⟨⟨_, .tuple ho hc hdt (by simpa using q)⟩, by simp only [PyData.hasDict]; exact hh⟩
theorem DatAll.reads {P : Program} {w : World} {H : Hp} {h : Heap} (ok : HOk P w H h) : ∀ {xs : List V} {ds : List PyData} {us : List Value}, DatAll H xs ds → Vals xs us → (∃ as, ReadsAll h us ds as) ∧ PyData.hasDictAll ds = false
  | _, _, _, .nil, .nil => ⟨⟨_, .nil⟩, by simp only [PyData.hasDictAll]⟩
  | _, _, _, .cons hd t, .cons r rr => by
    obtain ⟨⟨as, q⟩, h1⟩ := Dat.reads ok hd r
    obtain ⟨⟨bs, q'⟩, h2⟩ := DatAll.reads ok t rr
    exact ⟨⟨_, .cons q q'⟩, by simp only [PyData.hasDictAll, h1, h2, Bool.or_self]⟩
end
mutual
theorem Dat.same {H H' : Hp} (s : Same H H') : ∀ {v : V} {d : PyData}, Dat H v d → Dat H' v d
  | _, _, .non => .non
  | _, _, .bl b => .bl b
  | _, _, .int i => .int i
  | _, _, .str x => .str x
  | _, _, .lst e h => .lst (s _ _ e) (DatAll.same s h)
  | _, _, .tup e h => .tup (s _ _ e) (DatAll.same s h)
theorem DatAll.same {H H' : Hp} (s : Same H H') : ∀ {xs : List V} {ds : List PyData}, DatAll H xs ds → DatAll H' xs ds
  | _, _, .nil => .nil
  | _, _, .cons h t => .cons (Dat.same s h) (DatAll.same s t)
end
section
variable {X : Cx}
/-- repr(x) of anything that is known whole -/
theorem call_repr (hg : X.A.guards = some []) (hu : X.A.units + 100 < cLine) : CallR X (.builtin "repr") (fun xs H Q => ∃ v d, xs = [v] ∧ Dat H v d ∧ d.showable = true ∧ d.depth ≤ 90 ∧ d.shown.length ≤ sizeLine ∧ Q (.str d.shown) H) := by
  intro pins s σ H xs us Q I r h
  obtain ⟨v, d, rfl, hd, hs, hdp, hz, q⟩ := h
  obtain ⟨u, rfl, ru⟩ := vals1 r
  have flat : ∀ {h' : Heap} {tk : Nat} (t : Tok), (∀ b o, s.heap.get? b = some o → h'.get? b = some o) → EP X pins σ Q (.str d.shown t) { s with heap := h', toks := tk } := fun {h' tk} t k => ⟨.str d.shown, H, I.kept k, ⟨t, rfl⟩, q⟩
  obtain ⟨⟨as, rd⟩, nd⟩ := hd.reads I.hok ru
  cases hd with
  | non => cases ru; exact PySem.P.repr_of_none (flat _ fun _ _ e => e)
  | bl b => cases ru; exact PySem.P.repr_of_bool (by have := flat (h' := s.heap) (tk := s.toks + 1) s.toks fun _ _ e => e; simpa only [PyData.shown] using this)
  | int i =>
    obtain ⟨t, rfl⟩ := ru
    have hs' : i.natAbs.log2 < 1920 := by simpa [PyData.showable] using hs
    exact PySem.P.repr_of_int hs' (by have := flat (h' := s.heap) (tk := s.toks + 1) s.toks fun _ _ e => e; simpa only [PyData.shown] using this)
  | str x =>
    obtain ⟨t, rfl⟩ := ru
    refine PySem.P.repr_of_str (by have := flat (h' := s.heap) (tk := s.toks + 1) s.toks fun _ _ e => e; simpa only [PyData.shown] using this) (by simpa only [PyData.shown] using hz)
  | lst e hx =>
    cases ru
    exact repr_of_reads' rd hs (PyData.noDict_hsm nd) hg (by omega) (fun _ _ e => e) (fun h' t tk k => flat t k) hz
  | tup e hx =>
    cases ru
    exact repr_of_reads' rd hs (PyData.noDict_hsm nd) hg (by omega) (fun _ _ e => e) (fun h' t tk k => flat t k) hz
end
end L2

/-! ### xs[::-1], list(reversed(xs)) -/
namespace L2
open PySem PySem.Spec PyProof.Rows
section
variable {X : Cx} {e stp : Expr} {te ts : TE} {pos p2 : Pos}
def tRevSl (K : PySem.W.Frag) (te ts : TE) : TE := fun σ H Q => te σ H fun x H1 => tPart ts σ H1 fun o H2 => ∃ a xs, x = .ref a ∧ o = some (-1) ∧ SqL K H2 a xs ∧ ∀ p, H2 p = none → Q (.ref p) (upd H2 p (.lst xs.reverse))
/-- xs[::-1] -/
theorem pe_revsl (he : PE X e te) (hst : PE X stp ts) : PE X (.Subscript e (.Slice none none (some stp) p2) pos) (tRevSl X.K te ts) := by
  intro pins s σ H Q I h
  refine Subscript_ (thn (he pins s σ H _ I h) fun v s1 ⟨x, H1, I1, r1, q1⟩ => ?_)
  refine wpAny_Slice ?_
  rw [evalPart_none]
  refine wpAny_pure ?_
  refine wpAny_pure ?_
  refine thn (po_some hst pins s1 σ H1 _ I1 q1) fun vs s2 ⟨o, H2, I2, ps, a, xs, hx, ho, hq, q⟩ => ?_
  subst ho hx
  cases r1
  have I4 : Inv X pins σ H2 { s2 with heap := s2.heap.push { cls := .type "slice", data := .fields #[.none, .none, vs] } } := I2.kept (t' := s2.toks) fun b ob q => Heap.get?_push_of_some _ q
  obtain ⟨its, r, ht, hz⟩ := I4.list hq
  have hlen := r.length
  show wpAny (model X.prog X.w) X.A (subscriptTail e (.Slice none none (some stp) p2) (.ref a) (.ref s2.heap.objs.size)) (EP X pins σ Q) X.xe { s2 with heap := s2.heap.push { cls := .type "slice", data := .fields #[.none, .none, vs] } }
  refine tail_any (ops := [.ref a, .ref s2.heap.objs.size]) ht.isList.typeIs slot_list_getitem.lookup ?_ (by with_unfolding_all rfl)
  refine wpAny_getItem_list_slice ht.isList (Heap.IsSliceOf.new ..) .none .none ps (by simp) ?_ (by rw [List.size_toArray] <;> omega)
  rw [PySem.W.krv_pick]
  refine ⟨.ref _, _, I4.laid (t' := s2.toks) (o := .lst xs.reverse) (fun b ob q => Heap.get?_push_of_some _ q) (Nat.le_refl _) ?_, rfl, q _ ?_⟩
  · exact ⟨by rw [List.length_reverse]; exact hz, _, 0, (by simpa using r.reverse), Heap.get?_push_size _ rfl⟩
  · exact I4.hok.fresh (Nat.le_refl _)
end
theorem nolen_lri : typeLookup (.type "list_reverseiterator") "__len__" = pure none := by rw [typeLookup_type, builtinLookup_eq_fast]; kernel_rfl
theorem hint_lri : typeLookup (.type "list_reverseiterator") "__length_hint__" = pure (some (.builtin "list_reverseiterator.__length_hint__")) := by rw [typeLookup_type, builtinLookup_eq_fast]; kernel_rfl
section
variable {prog : Program} {w : World} {A : Around} {E : Value → Shared → Prop} {s : Shared}
theorem extend_rev {R : Result → Shared → Prop} (hh : A.handled = none) {l J S : Addr} {items : Array Value} (hlJ : l ≠ J) (hSJ : S ≠ J) (hSl : S ≠ l) (res : Value) (c₀ : Nat) (hS : s.heap.get? S = some { cls := .type "list", data := .seq #[] c₀ })
    (hit : s.heap.IsRevIter J l ((items.size : Int) - 1)) (hl : s.heap.IsList l items)
    (hR : ∀ h' tk acc' c', (∀ b o, b ≠ S → b ≠ J → s.heap.get? b = some o → h'.get? b = some o) → h'.get? S = some { cls := .type "list", dict := none, data := .seq acc' c', slots := #[] } →
      ItemsOf (fun i v => items[items.size - 1 - i]? = some v) acc' items.size → R (.ok (.ret res)) { s with heap := h', toks := tk }) (hn : items.size ≤ sizeLine) :
    wpAny (model prog w) A.in1 (Builtin.List.listExtendWith (.ref S) (.ref J) res)
      (fun fin s' => match fin with | .done f => R (.ok f) s' | .again c' => c'.quiet = true ∧ codeAny (model prog w) A c' R s') (fun e s' => R (.error e) s') s := by
  have W := (Walks.listRev (prog := prog) (w := w) (A := A.in1) hh J l hlJ items).toS
  have hst : (0 : Nat) ≤ items.size ∧ s.heap.IsRevIter J l ((items.size : Int) - 1 - ((0 : Nat) : Int)) ∧ s.heap.IsList l items := ⟨Nat.zero_le _, by simpa using hit, hl⟩
  have hSf : S ∉ [J, l] := fun hm => by
    have hm : S = J ∨ S = l := by simpa using hm
    rcases hm with h | h
    · exact hSJ h
    · exact hSl h
  unfold Builtin.List.listExtendWith
  refine wpAny_bind (wpAny_typeOf (T := "list_reverseiterator") hit.typeIs ?_)
  have h1 : Builtin.List.listSameRef (.ref S) (.ref J) = false := by simp [Builtin.List.listSameRef, hSJ]
  rw [if_neg (by rw [h1]; decide)]
  refine wpAny_bind (wpAny_pyIter_revIter hit ?_)
  refine wpAny_bind (wpAny_holding ?_)
  unfold Builtin.List.listLengthHint
  refine wpAny_bind (wpAny_specialOf hit.typeIs nolen_lri ?_)
  show wpAny _ A.in1 (specialOf (Value.ref J) (Str.ofString "__length_hint__") >>= _) _ _ _
  refine wpAny_bind (wpAny_specialOf hit.typeIs hint_lri ?_)
  (generalize hid : ("list_reverseiterator.__length_hint__" : String) = id0; (fail_if_success (clear hid id0)); wp_delta; rw [show splitId id0 = some ("list_reverseiterator", "__length_hint__") from by subst hid; decide +kernel]; subst hid)
  refine wpAny_bind (wpAny_isInstance (b := true) hit.typeIs (by rw [isSubtype_type]; kernel_rfl) ?_)
  refine wpAny_pure ?_
  rw [if_neg (by decide)]
  refine wpAny_pure ⟨plainId_quiet F.plain_extend_loop _, codeAny_extend_loopS W hn _ hSf _ items.size 0 _ _ _ rfl (Nat.zero_le _) hst hS (ItemsOf.nil _) fun s' acc' c' hm hS' hacc => ?_⟩
  rw [Moved.eq_with hm]
  refine hR s'.heap s'.toks acc' c' (fun b ob hb hbJ e => hm.heap b ob (fun hmem => ?_) e) hS' hacc
  rcases List.mem_cons.mp hmem with e' | hmem
  · exact hb e'
  · exact hbJ (List.mem_singleton.mp hmem)
theorem call_list_rev {Q : Value → Shared → Prop} (hh : A.handled = none) {l J : Addr} {items : Array Value} (hlJ : l ≠ J) (hit : s.heap.IsRevIter J l ((items.size : Int) - 1)) (hl : s.heap.IsList l items)
    (hQ : ∀ h' tk acc' c', (∀ b o, b ≠ J → s.heap.get? b = some o → h'.get? b = some o) → h'.get? s.heap.objs.size = some { cls := .type "list", dict := none, data := .seq acc' c', slots := #[] } →
      ItemsOf (fun i v => items[items.size - 1 - i]? = some v) acc' items.size → Q (.ref s.heap.objs.size) { s with heap := h', toks := tk }) (hn : items.size ≤ sizeLine) :
    wpAny (model prog w) A (call (.type "list") [.ref J]) Q E s := by
  have hJ : J < s.heap.objs.size := by obtain ⟨o, e, _⟩ := hit; exact Heap.lt_size e
  have hL : l < s.heap.objs.size := by obtain ⟨o, e, _⟩ := hl; exact Heap.lt_size e
  refine callType_codes (Q₁ := fun obj s₁ => obj = .ref s.heap.objs.size ∧ s₁ = { s with heap := s.heap.push { cls := .type "list", data := .seq #[] } }) F.called_list (F.typeCall_list_1 _) F.entry_list_init
    (code_list_new _ ⟨rfl, rfl⟩) fun obj s₁ h₁ => ?_
  obtain ⟨rfl, rfl⟩ := h₁
  have hS : (s.heap.push { cls := .type "list", data := .seq #[] }).get? s.heap.objs.size = some { cls := .type "list", data := .seq #[] } := Heap.get?_push_size _ rfl
  refine ⟨⟨_, hS, rfl⟩, F.args_list_init_2 _ _, ?_⟩
  show wpAny _ _ (do let old ← Builtin.List.listItems (.ref s.heap.objs.size); Builtin.List.listUpdate (.ref s.heap.objs.size) (fun _ => #[]); letGo old.toList.reverse; Builtin.List.listExtendWith (.ref s.heap.objs.size) (.ref J) .none) _ _ _
  refine wpAny_bind ?_
  unfold Builtin.List.listItems
  refine wpAny_bind (wpAny_seqItems hS rfl (wpAny_pure ?_))
  show wpAny _ _ (updateSeq s.heap.objs.size (fun _ => #[]) >>= fun _ => letGo (#[] : Array Value).toList.reverse >>= fun _ => Builtin.List.listExtendWith (.ref s.heap.objs.size) (.ref J) .none) _ _ _
  refine wpAny_bind (wpAny_updateSeq hS rfl ?_)
  have hS₂ := Heap.get?_update_self (Obj.mapSeq (fun _ => (#[] : Array Value))) hS rfl
  have oth : ∀ b o, b ≠ s.heap.objs.size → s.heap.get? b = some o → ((s.heap.push { cls := .type "list", data := .seq #[] }).update s.heap.objs.size (Obj.mapSeq (fun _ => (#[] : Array Value)))).get? b = some o :=
    fun b o hb e => (Heap.get?_update_other _ _ (Ne.symm hb)).trans (Heap.get?_push_of_some _ e)
  refine wpAny_bind (wpAny_letGo ?_)
  refine extend_rev (A := A.in1) hh hlJ (Nat.ne_of_gt hJ) (Nat.ne_of_gt hL) .none _ hS₂ (hit.at fun o e => oth _ o (Nat.ne_of_lt hJ) e) (hl.at fun o e => oth _ o (Nat.ne_of_lt hL) e) (fun h' tk acc' c' hk hS' hacc => ?_) hn
  exact ⟨rfl, hQ h' tk acc' c' (fun b o hbJ e => hk b o (Nat.ne_of_lt (Heap.lt_size e)) hbJ (oth b o (Nat.ne_of_lt (Heap.lt_size e)) e)) hS' hacc⟩
end
section
variable {X : Cx} {e : Expr} {ta : TA} {p p' pos pos' : Pos}
def tListRev (K : PySem.W.Frag) (ta : TA) : TE := fun σ H Q => ta σ H fun vs H1 => ∃ a xs, vs = [.ref a] ∧ SqL K H1 a xs ∧ ∀ l, H1 l = none → Q (.ref l) (upd H1 l (.lst xs.reverse))
theorem items_rev {items : List Value} {acc : Array Value} (h : ItemsOf (fun i v => items.toArray[items.toArray.size - 1 - i]? = some v) acc items.toArray.size) : acc.toList = items.reverse := by
  obtain ⟨h1, h2⟩ := h
  have hs : items.toArray.size = items.length := List.size_toArray
  apply List.ext_getElem?
  intro i
  by_cases hi : i < items.length
  · rw [List.getElem?_reverse hi]
    have hi' : i < acc.size := by omega
    have e : acc[i]? = some acc[i] := by simp [hi']
    have q := h2 i acc[i] e
    rw [hs] at q
    rw [Array.getElem?_toList, e, ← q]
    simp
  · have e1 : acc.toList[i]? = none := List.getElem?_eq_none (by rw [Array.length_toList]; omega)
    have e2 : items.reverse[i]? = none := List.getElem?_eq_none (by rw [List.length_reverse]; omega)
    rw [e1, e2]
/-- list(reversed(xs)) -/
theorem pe_listrev (hc : X.calm = true) (hg : Gl X "list") (hm : X.mg "list" = none) (hg' : Gl X "reversed") (hm' : X.mg "reversed" = none) (ha : PA X [e] ta) (hs : starEach [e] X.env = [(false, eval e X.env)] := by rfl)
    (hs' : starEach [Expr.Call (.Name "reversed" p') [e] [] pos'] X.env = [(false, eval (.Call (.Name "reversed" p') [e] [] pos') X.env)] := by rfl) :
    PE X (.Call (.Name "list" p) [.Call (.Name "reversed" p') [e] [] pos'] [] pos) (tListRev X.K ta) := by
  intro pins s σ H Q I h
  refine wpAny_Call_Name_kw (ld_blt I hg hm Boot.«list» ?_)
  refine PyProof.Rows.callWith_type1 ?_ hs' rfl
  rw [hs']
  show wpAny _ _ (spliced ((false, eval (.Call (.Name "reversed" p') [e] [] pos') X.env) :: backTo pos [])) _ _ s
  refine Calls.spliced_cons (Call_ (ld_blt I hg' hm' Boot.«reversed» (PyProof.Rows.callWith_type1 (thn (ha pos' pins s σ H _ I h) fun us s1 ⟨vs, H1, I1, r1, q1⟩ => ?_) hs rfl)))
  obtain ⟨l, xs, ev, hq, q⟩ := q1
  subst ev
  obtain ⟨u, rfl, ru⟩ := vals1 r1
  cases ru
  obtain ⟨its, rv, pl, hz⟩ := I1.list hq
  have hl := rv.length
  refine call_reversed_list pl.isList ?_
  refine Calls.spliced_nil ?_
  have hll : l < s1.heap.objs.size := by obtain ⟨o, e, _⟩ := pl.isList; exact Heap.lt_size e
  have I2 : Inv X pins σ H1 { s1 with heap := s1.heap.push (revObj l ((its.toArray.size : Int) - 1)) } := I1.kept (t' := s1.toks) fun b o e => Heap.get?_push_of_some _ e
  refine call_list_rev (s := { s1 with heap := s1.heap.push (revObj l ((its.toArray.size : Int) - 1)) }) (I1.ok.hd hc) (l := l) (J := s1.heap.objs.size) (items := its.toArray) (Nat.ne_of_lt hll) ⟨_, Heap.get?_push_size _ rfl, rfl, rfl⟩ (pl.isList.push _) (fun h' tk acc' c' hk hS' hacc => ?_) (by rw [List.size_toArray]; omega)
  have f1 := I1.fpOk (H' := H1) (Nat.le_refl s1.heap.objs.size) (I1.hok.fresh (Nat.le_refl _))
  have er := items_rev hacc
  have hsz : (s1.heap.push (revObj l ((its.toArray.size : Int) - 1))).objs.size = s1.heap.objs.size + 1 := Heap.size_push ..
  have hn1 : H1 (s1.heap.objs.size + 1) = none := I1.hok.fresh (Nat.le_succ _)
  have hS2 : h'.get? (s1.heap.objs.size + 1) = some { cls := .type "list", dict := none, data := .seq acc' c', slots := #[] } := by rw [← hsz]; exact hS'
  have hne : ∀ b u, H1 b = some u → b ≠ s1.heap.objs.size := fun b u q z => by rw [z, f1.1] at q; cases q
  have I3 : Inv X pins σ (upd H1 (s1.heap.objs.size + 1) (.lst xs.reverse)) { s1 with heap := h', toks := tk } := by
    refine Inv.step (s := { s1 with heap := s1.heap.push (revObj l ((its.toArray.size : Int) - 1)) }) I2 (g' := s1.gens) (d' := s1.drawn) (ch := [s1.heap.objs.size]) (fun b hb => ?_) (fun b o _ _ hc q _ => hk b o (fun z => hc (by simp [z])) q) (fun b o _ _ hc q _ => ⟨o.slots, hk b o (fun z => hc (by simp [z])) q⟩)
      (fun b o _ q n => ?_) (fun b o hc q => ⟨o, hk b o (fun z => hc (by simp [z])) q⟩) (fun b ys q => ?_) (fun b o ys q => ?_) (fun b ps q => ⟨#[], ?_⟩) (fun m hm => ?_) (fun b u q => ?_) I1.bare
    · have hb : b = s1.heap.objs.size := by simpa using hb
      subst hb
      exact ⟨f1.2.2.2.1, f1.2.1, f1.2.2.2.2.1, f1.2.2.2.2.2⟩
    · have hb := Heap.lt_size q
      have hb : b < s1.heap.objs.size + 1 := by rw [← hsz]; exact hb
      rw [upd_ne (Nat.ne_of_lt hb)]; exact n
    · rw [upd_ne (ne_of_none q hn1)]; exact q
    · rw [upd_ne (ne_of_none q hn1)]; exact q
    · rw [upd_ne (ne_of_none q hn1), q]; simp
    · obtain ⟨o, es, ep, q, r⟩ := hm
      exact ⟨o, es, ep, hk _ o (Ne.symm f1.2.1) q, r⟩
    · by_cases hb : b = s1.heap.objs.size + 1
      · subst hb
        rw [upd_same] at q
        cases q
        refine ⟨by rw [List.length_reverse]; exact hz, its.reverse, c', rv.reverse, ?_⟩
        rw [hS2, ← er]
      · rw [upd_ne hb] at q
        refine (I2.hok b u q).stay (fun c v hc q' => hk c v ?_ q') (fun c q' => ?_) fun c ys q' => ?_
        · rcases hc with z | z
          · rw [z]; exact hne b u q
          · exact hne c _ z
        · rw [upd_ne (ne_of_none q' hn1)]; exact q'
        · rw [upd_ne (ne_of_none q' hn1)]; exact q'
  rw [hsz]
  exact ⟨.ref (s1.heap.objs.size + 1), _, I3, rfl, q _ hn1⟩
end
/-! ### the same rules with the written part named (for a comprehension's block) -/
section
variable {X : Cx} {K : PySem.W.Frag}
theorem ix_listK (hK : X.K = K) : IxR X (rIxL K) := hK ▸ ix_list
theorem op_in_seqK (hK : X.K = K) : OpR X (compareOp .In) (rIn K false) := hK ▸ op_in_seq
theorem pe_fldK {e : Expr} {f : Str} {pos : Pos} {ta : TE} (hK : X.K = K) (he : PE X e ta) (hb : attributeBase e f X.env (eval e X.env) = eval e X.env) : PE X (.Attribute e f pos) (tFld K ta f) := hK ▸ pe_fld he hb
theorem pg_tupK {es : List Expr} {k : Nat} {t : TGs} {n : Nat} {pos : Pos} (hK : X.K = K) (hc : X.calm = true) (h : PGs X es t) (hn : (assignEach es X.env).length = n) (hst : (assignEach es X.env).findIdx? (·.1) = none) : PG X (.Tuple es k pos) (gTup K n t) := hK ▸ pg_tup hc h hn hst
end
end L2

/-! ### range by threes, zip of two lists, lists of numbers that differ -/
namespace L2
open PySem PySem.Spec PyProof.Rows
theorem ints_vals : ∀ {ns : List Int} {us : List Value}, Vals (ns.map V.int) us → IntsAre us ns
  | [], _, .nil => .nil
  | n :: r, _, .cons ⟨t, e⟩ q => by
    subst e
    exact .cons n t (ints_vals q)
section
variable {X : Cx} {tg : Expr}
def rNeI : R2 := fun x y H Q => ∃ (a b : Addr) (ns ms : List Int), x = .ref a ∧ y = .ref b ∧ H a = some (.lst (ns.map V.int)) ∧ H b = some (.lst (ms.map V.int)) ∧ Q (.bl (!decide (ns = ms))) H
theorem op_ne_ints (hu : X.A.units + 100 < cLine) : OpR X (compareOp .NotEq) rNeI := by
  intro pins s σ H x y v u Q I rx ry h
  obtain ⟨a, b, ns, ms, rfl, rfl, ha, hb, q⟩ := h
  cases rx
  cases ry
  obtain ⟨its, r, pl, hz⟩ := I.list (SqL.of ha)
  obtain ⟨its2, r2, pl2, hz2⟩ := I.list (SqL.of hb)
  exact PySem.W.ne_intsK pl.isList (ints_vals r) pl2.isList (ints_vals r2) (by omega) ⟨.bl _, H, I, rfl, q⟩
end
def Itr3 (lo : Int) (n : Nat) : It := ⟨fun i _ => i < n, fun i H x H' => H' = H ∧ x = .int (lo + i * 3), fun i _ => n ≤ i⟩
def rsz3 (i j : Int) : Nat := (Builtin.Range.rangeSize i j 3).toNat
section
variable {X : Cx} {tg : Expr}
def iRng3 (ta : TA) : TI := fun σ H R => ta σ H fun vs H1 => ∃ i j : Int, vs = [.int i, .int j, .int 3] ∧ (0 ≤ i ∧ i < 100000 ∧ 0 ≤ j ∧ j < 100000) ∧ R (Itr3 i (rsz3 i j)) H1
end
/-! ### zip -/
section
variable {X : Cx} {pins : List (Addr × Obj)} {σ : St} {H : Hp} {s : Shared} {h' : Heap}
end
/-- pairs of the lists at a and b: each a new tuple -/
def Itz (K : PySem.W.Frag) (a b : Addr) : It :=
  ⟨fun i H => ∃ xs ys x y, SqL K H a xs ∧ SqL K H b ys ∧ xs[i]? = some x ∧ ys[i]? = some y,
    fun i H v H' => ∃ T x y, v = .ref T ∧ H T = none ∧ H' = upd H T (.tup [x, y]) ∧ (∀ xs, SqL K H a xs → xs[i]? = some x) ∧ ∀ ys, SqL K H b ys → ys[i]? = some y,
    fun i H => ∃ xs ys, SqL K H a xs ∧ SqL K H b ys ∧ (xs.length ≤ i ∨ ys.length ≤ i)⟩
section
variable {X : Cx} {tg : Expr}
def iZip (K : PySem.W.Frag) (ta : TA) : TI := fun σ H R => ta σ H fun vs H1 => ∃ a b, vs = [.ref a, .ref b] ∧ (∃ xs, H1 a = some (.lst xs)) ∧ (∃ ys, H1 b = some (.lst ys)) ∧ R (Itz K a b) H1
end
end L2

/-! ### a class's own function called by the class's name; setdefault; sum; cuts by steps; walks over a dict's keys -/
namespace L2
open PySem PySem.Spec PyProof.Rows
structure ClsFn (K : PySem.W.Frag) (C : Addr) (m : Str) (f : Addr) : Prop where
  sp : PySem.W.specialIn K (.ref C) "__getattribute__" = some (some (.builtin "type.__getattribute__"))
  rd : PySem.W.readsIn K C (.type "type") = true
  at_ : PySem.W.findCls K (.ref C) (.type "type") m = some (.val (.ref f))
  kp : PySem.W.keepIn K (.ref f) = true
section
variable {X : Cx} {CX : CXT} {k : Nat} {f C : Addr} {fd : FuncData} {ps : List Str} {sp : Sp} {dvs : List V} {ds : List Value} {E : XK} {x m : Str} {p pos apos : Pos} {e : Expr} {es : List Expr} {t : TA}
/-- C.m(e, ..) -/
theorem pe_ccall {pl : Sem Bool} (c : ClsFn X.K C m f) (hg : Gl X x) (hm : X.mg x = some (.ref C)) (F : FnOk X.prog X.w X.K X.mg X.base CX k f fd ps sp) (hr : Room k X.A) (hb : Binds X.K fd ps ds) (hd : Vals dvs ds) (hx : Passes CX X E) (ha : PA X (e :: es) t)
    (hdb : (x == ("__debug__" : Str)) = false := by decide) (hst : starEach (e :: es) X.env = (false, eval e X.env) :: starEach es X.env := by rfl) (hpl : (backTo pos (starEach es X.env)).any (·.1) = false := by rfl)
    (ht : eval (.Call (.Attribute (.Name x p) m apos) (e :: es) [] pos) X.env = (do
      let ov ← eval (.Name x p) X.env
      standAt apos.atName
      let (f, first) ← holding [ov] (getMethod ov m pl)
      callWith pos f first (backTo pos (starEach (e :: es) X.env)) (backToKw pos (keywordEach [] X.env))) := by rfl) :
    PE X (.Call (.Attribute (.Name x p) m apos) (e :: es) [] pos) (tCall sp dvs E t) := by
  intro pins s σ H Q I h
  refine PySem.W.methodCall_KW (pl := pl) (ld_glob I hg hm ?_ hdb) ht
  refine PySem.W.method_cls I.kIn c.sp (PySem.W.cls_value I.kIn c.rd c.at_ rfl ?_)
  refine PySem.W.callWith_K (first := []) (h₀ := X.base) I.ok.mod.kin c.kp (thn (ha pos pins _ σ H _ (I.tok _) h) fun us s2 ⟨vs, H2, I2, r, q2⟩ => ⟨I2.kIn, ?_⟩) hst hpl
  exact run_fn F hr hb hd hx I2 r q2
end
/-! ### d.setdefault(k, x) -/
section
variable {X : Cx} {o e f : Expr} {apos cpos : Pos} {td ty tx : TE}
def tDSet2 (td ty tx : TE) : TE := fun σ H Q => td σ H fun x H1 => ∃ a, x = .ref a ∧ IsD H1 a ∧ ty σ H1 fun y H2 => tx σ H2 fun z H3 => ∃ kvs k, H3 a = some (.dK kvs) ∧ y = kV k ∧ kvs.length < sizeLine ∧
  (∀ v, valV kvs k = some v → Q v H3) ∧ (valV kvs k = none → Q z (upd H3 a (.dK (putK kvs k z))))
end
/-! ### sum of a list of numbers -/
section
variable {X : Cx}
end
/-! ### list(range(n)) -/
section
variable {X : Cx} {e : Expr} {ta : TA} {p pos p' pos' : Pos}
def tListRng (ta : TA) : TE := fun σ H Q => ta σ H fun vs H1 => ∃ j : Nat, vs = [.int j] ∧ j ≤ 1000 ∧ ∀ l, H1 l = none → Q (.ref l) (upd H1 l (.lst ((List.range j).map fun i : Nat => V.int (i : Int))))
end
/-! ### xs[lo::st] -/
section
variable {X : Cx} {e lo stp : Expr} {te tl ts : TE} {pos p2 : Pos}
def tStepSl (K : PySem.W.Frag) (te tl ts : TE) : TE := fun σ H Q => te σ H fun x H1 => tPart tl σ H1 fun o1 H2 => tPart ts σ H2 fun o H3 => ∃ a xs i, x = .ref a ∧ o1 = some i ∧ 0 ≤ i ∧ o = some 3 ∧ SqL K H3 a xs ∧
  ∀ p zs, H3 p = none → zs.length ≤ xs.length → (∀ z ∈ zs, z ∈ xs) → Q (.ref p) (upd H3 p (.lst zs))
end
/-! ### a dict's keys, walked: the dict stands as it is meanwhile -/
def NFz (X : Cx) (a : Addr) : Prop := ∀ o u, X.H₀ a ≠ some (.frz o u)
section
variable {X : Cx} {pins : List (Addr × Obj)} {σ : St} {H : Hp} {s : Shared} {d : Addr} {kvs : List (Key × V)}
end
def Itk (d : Addr) (o : Obj) (kvs : List (Key × V)) : It :=
  ⟨fun i H => i < kvs.length ∧ H d = some (.frz o (.dK kvs)), fun i H x H' => H' = H ∧ ∃ k v, kvs[i]? = some (k, v) ∧ x = kV k, fun i H => kvs.length ≤ i ∧ H d = some (.frz o (.dK kvs))⟩
section
variable {X : Cx} {tg e : Expr} {te : TE}
def iKeys (X : Cx) (te : TE) : TI := fun σ H R => te σ H fun x H1 => ∃ a kvs, x = .ref a ∧ H1 a = some (.dK kvs) ∧ ∀ o, NFz X a → R (Itk a o kvs) (upd H1 a (.frz o (.dK kvs)))
def tThaw (X : Cx) (t : TE) : TE := fun σ H Q => t σ H fun v H' => ∃ d o kvs, H' d = some (.frz o (.dK kvs)) ∧ NFz X d ∧ Q v (upd H' d (.dK kvs))
end
end L2

/-! ### own exceptions: how they leave a frame -/
namespace L2
open PySem PySem.Spec PyProof.Rows
/-- an exception in flight: the newest entry of its trace, which is no frame's -/
structure Fly (h : Heap) (e T : Addr) (oe : Obj) : Prop where
  at_ : h.get? e = some oe
  fs : ∃ vs, oe.data = .fields vs ∧ vs[1]? = some (.ref T)
  ne : T ≠ e
  tr : ∃ oT ts, h.get? T = some oT ∧ oT.data = .fields ts ∧ ts[3]? = some .none
section
variable {M : Model} {A : Around} {E : Value → Shared → Prop} {s : Shared}
theorem new_entry {base : Heap} {env : Env} {outer : List Env} {L e : Addr} {oe : Obj} {vs : Array Value} {head : Value} {hadNext : Bool} {Q : Unit → Shared → Prop}
    (hfr : A.frames = some (env :: outer)) (hl : s.heap.FunFrames base (env :: outer)) (hf : env.frame = some L)
    (he : s.heap.get? e = some oe) (hd : oe.data = .fields vs) (hsz : 1 < vs.size)
    (h : ∀ h' T, s.heap.objs.size ≤ T → Fly h' e T (oe.mapFields (·.setIfInBounds 1 (.ref T))) → (∀ b o, b ≠ e → b ∉ (env :: outer).filterMap (·.frame) → s.heap.get? b = some o → h'.get? b = some o) →
      (∀ b o, b ≠ e → s.heap.get? b = some o → ∃ sl, h'.get? b = some { o with slots := sl }) → Q () { s with heap := h' }) :
    wpAny M A (do let a ← frameOf env; let pl ← entryPlaceOf L hadNext; let b ← EntryCells.newEntry head a .none (rawInt L) .none pl; setField (.ref e) 1 b) (fun _ s' => wpAny M A (setFlight (.ref e) none) Q E s') E s := by
  have hene : e ∉ (env :: outer).filterMap (·.frame) := fun hm => by
    obtain ⟨_, o, ho, hnf⟩ := hl.mem hm
    rw [he] at ho; injection ho with ho; subst ho; exact hnf vs hd
  refine wpAny_bind (wpAny_frameOf_fun hfr hl hf fun h₁ hs₁ => ?_)
  refine wpAny_bind (wpAny_entryPlaceOf fun pl hpl => ?_)
  unfold EntryCells.newEntry newFields
  refine wpAny_bind (wpAny_newObj_type ?_ (hpl.sizeOk5 _ _ _ _ _))
  have he₁ : h₁.get? e = some oe := (hs₁.2.1 e hene).trans he
  have he₂ := Heap.get?_push_of_some (h := h₁) { cls := .type "traceback", dict := none, data := .fields ([head, .ref L, .none, rawInt L, .none] ++ (if pl.isEmpty then List.replicate 6 Value.none else pl)).toArray } he₁
  refine wpAny_setField he₂ hd hsz ?_
  have hTe : h₁.objs.size ≠ e := Nat.ne_of_gt (Heap.lt_size he₁)
  have hd₃ := Obj.data_mapFields hd (·.setIfInBounds 1 (Value.ref h₁.objs.size))
  have he₃ := Heap.get?_update_self (Obj.mapFields (·.setIfInBounds 1 (Value.ref h₁.objs.size))) he₂ (Obj.isFreed_of_fields hd₃)
  have hT₃ := (Heap.get?_update_other (h₁.push { cls := .type "traceback", dict := none, data := .fields ([head, .ref L, .none, rawInt L, .none] ++ (if pl.isEmpty then List.replicate 6 Value.none else pl)).toArray })
    (Obj.mapFields (·.setIfInBounds 1 (Value.ref h₁.objs.size))) (Ne.symm hTe)).trans (Heap.get?_push_size h₁ rfl)
  unfold setFlight
  refine wpAny_bind (wpAny_field he₃ hd₃ (x := .ref h₁.objs.size) (by simp [hsz]) ?_)
  rw [if_pos (show (Value.ref h₁.objs.size != Value.none) = true from by simp)]
  refine wpAny_setField hT₃ rfl (by simp only [List.size_toArray, List.length_append, List.length_cons, List.length_nil] <;> omega) (h _ h₁.objs.size ?_ ?_ ?_ ?_)
  · rw [hs₁.1]; exact Nat.le_refl _
  · refine ⟨?_, ⟨_, hd₃, by simp [hsz]⟩, hTe, _, _, Heap.get?_update_self _ hT₃ (Obj.isFreed_of_fields (Obj.data_mapFields rfl _)), Obj.data_mapFields rfl _, by first | (simp; done) | (rcases hpl with rfl | ⟨_, _, _, _, _, _, _, rfl⟩ <;> simp)⟩
    rw [Heap.get?_update_other _ _ hTe]; exact he₃
  · intro b o hbe hbf hb
    have hb₁ := (hs₁.2.1 b hbf).trans hb
    have hbT : h₁.objs.size ≠ b := Nat.ne_of_gt (Heap.lt_size hb₁)
    rw [Heap.get?_update_other _ _ hbT, Heap.get?_update_other _ _ (Ne.symm hbe)]
    exact Heap.get?_push_of_some _ hb₁
  · intro b o hbe hb
    obtain ⟨sl, hb₁⟩ := hs₁.2.2 b o hb
    have hbT : h₁.objs.size ≠ b := Nat.ne_of_gt (Heap.lt_size hb₁)
    refine ⟨sl, ?_⟩
    rw [Heap.get?_update_other _ _ hbT, Heap.get?_update_other _ _ (Ne.symm hbe)]
    exact Heap.get?_push_of_some _ hb₁
/-- the first frame that it leaves -/
theorem leave_first {base : Heap} {env : Env} {outer : List Env} {L e : Addr} {oe : Obj} {vs : Array Value} {Q : Unit → Shared → Prop}
    (hfr : A.frames = some (env :: outer)) (hl : s.heap.FunFrames base (env :: outer)) (hf : env.frame = some L)
    (he : s.heap.get? e = some oe) (hd : oe.data = .fields vs) (h1 : vs[1]? = some .none)
    (h : ∀ h' T, s.heap.objs.size ≤ T → Fly h' e T (oe.mapFields (·.setIfInBounds 1 (.ref T))) → (∀ b o, b ≠ e → b ∉ (env :: outer).filterMap (·.frame) → s.heap.get? b = some o → h'.get? b = some o) →
      (∀ b o, b ≠ e → s.heap.get? b = some o → ∃ sl, h'.get? b = some { o with slots := sl }) → Q () { s with heap := h' }) : wpAny M A (leaving env (.ref e)) Q E s := by
  unfold leaving noteFrame
  simp only [hf]
  refine wpAny_bind (wpAny_bind (wpAny_field he hd h1 ?_))
  rw [if_neg (by decide)]
  exact new_entry hfr hl hf he hd (Array.getElem?_eq_some_iff.mp h1).1 h
/-- each further one -/
theorem leave_next {base : Heap} {env : Env} {outer : List Env} {L e T : Addr} {oe : Obj} {Q : Unit → Shared → Prop}
    (hfr : A.frames = some (env :: outer)) (hl : s.heap.FunFrames base (env :: outer)) (hf : env.frame = some L) (ht : Fly s.heap e T oe)
    (h : ∀ h' T', s.heap.objs.size ≤ T' → Fly h' e T' (oe.mapFields (·.setIfInBounds 1 (.ref T'))) → (∀ b o, b ≠ e → b ≠ T → b ∉ (env :: outer).filterMap (·.frame) → s.heap.get? b = some o → h'.get? b = some o) →
      (∀ b o, b ≠ e → b ≠ T → s.heap.get? b = some o → ∃ sl, h'.get? b = some { o with slots := sl }) → Q () { s with heap := h' }) : wpAny M A (leaving env (.ref e)) Q E s := by
  obtain ⟨he, ⟨vs, hd, h1⟩, hTe, oT, ts, hT, hdT, h3⟩ := ht
  unfold leaving noteFrame
  simp only [hf]
  refine wpAny_bind (wpAny_bind (wpAny_field he hd h1 ?_))
  rw [if_pos (show (Value.ref T != Value.none) = true from by simp)]
  refine wpAny_bind (wpAny_field hT hdT h3 ?_)
  rw [if_neg (show ¬ ((Value.none == rawInt L) = true) from by simp [rawInt])]
  refine wpAny_bind (wpAny_setField hT hdT (Array.getElem?_eq_some_iff.mp h3).1 ?_)
  have other : ∀ b, b ≠ T → (s.heap.update T (Obj.mapFields (·.setIfInBounds 3 Value.none))).get? b = s.heap.get? b := fun b hb => Heap.get?_update_other _ _ (Ne.symm hb)
  have noRecord : ∀ b o, s.heap.get? b = some o → (∀ vs, o.data ≠ .fields vs) → b ≠ T := fun b o hb hnf q => by
    rw [q, hT] at hb; injection hb with hb; subst hb; exact hnf ts hdT
  refine new_entry hfr (hl.of_keeps fun b o hb hnf => ⟨o, (other b (noRecord b o hb hnf)).trans hb, rfl⟩) hf ((other e (Ne.symm hTe)).trans he) hd (Array.getElem?_eq_some_iff.mp h1).1
    fun h' T' hn fl k1 k2 => h h' T' ?_ fl (fun b o hbe hbT hbf hb => k1 b o hbe hbf ((other b hbT).trans hb)) fun b o hbe hbT hb => k2 b o hbe ((other b hbT).trans hb)
  have hn' : (s.heap.update T (Obj.mapFields (·.setIfInBounds 3 Value.none))).objs.size ≤ T' := hn
  rw [Heap.size_after_update] at hn'
  exact hn'
end
/-! ### an own exception made: its class's own __init__ -/
structure TailHas (bm : List Value) : Prop where
  hasB : bm.contains (.type "ValueError") = true
  hasBase : bm.contains (.type "BaseException") = true
  noAttr : bm.contains (.type "AttributeError") = false
  noName : bm.contains (.type "NameError") = false
abbrev excNew (C t : Addr) : Obj := { cls := .ref C, data := .fields #[.ref t, .none, .none, .none, .bool false, .none] }
section
variable {prog : Program} {w : World} {A : Around} {E : Value → Shared → Prop} {h : Heap} {g : Array GenState} {d : Drawn} {t : Nat} {os : OsState}
variable {nm q : Str} {C N : Addr} {bs bm : List Value} {hdct : Bool} {sn : List Str} {sub : List Value} {ab : Bool} {col : Option Bool} {dd : Option Addr} {k0 k1 k2 k3 k5 : Option Value}
theorem exc_check_new {M : Model} (T : TailHas bm) {rest : List Value} {Q : Unit → Shared → Prop} (hC : h.get? C = some (excClassObj nm q C N bs bm hdct sn sub ab col dd k0 k1 k2 k3 k5 "ValueError.__new__"))
    (hq : Q () ⟨h, g, d, t, os⟩) : wpAny M A (checkBuiltinCall "ValueError.__new__" ⟨.ref C :: rest, []⟩) Q E ⟨h, g, d, t, os⟩ := by
  have F := PySem.F.excBase_ValueError
  have hcont : (Value.ref C :: bm).contains (.type "ValueError") = true := by rw [List.contains_cons, T.hasB, Bool.or_true]
  have hstar := F.noStar
  simp only [checkBuiltinCall, F.newKind, F.newSplit, F.newRow]
  repeat (first | refine wpAny_loadPart_at hC ?_ | (refine wpAny_isSubtype_exc hC ?_; rw [hcont]) | refine wpAny_staticBase_exc hC ?_ | refine wpAny_madeBy_exc hC ?_ | simp only [bne_self_eq_false, Bool.false_eq_true, if_false] | wp_step)
  exact hq
theorem exc_new_code (T : TailHas bm) {R : Result → Shared → Prop} {rest : List Value} (hC : h.get? C = some (excClassObj nm q C N bs bm hdct sn sub ab col dd k0 k1 k2 k3 k5 "ValueError.__new__"))
    (hq : R (.ok (.ret (.ref (h.objs.size + 1)))) ⟨(h.push { cls := .type "tuple", data := .seq rest.toArray }).push (excNew C h.objs.size), g, d, t, os⟩) (hrest : rest.length ≤ sizeLine := by size_fits) :
    codeAny (model prog w) A (.builtin "ValueError.__new__" ⟨.ref C :: rest, []⟩) R ⟨h, g, d, t, os⟩ := by
  have F := PySem.F.excBase_ValueError
  have hends := F.ends
  have hcB : (Value.ref C :: bm).contains (.type "ValueError") = true := by rw [List.contains_cons, T.hasB, Bool.or_true]
  have hcA : (Value.ref C :: bm).contains (.type "AttributeError") = false := by rw [List.contains_cons, T.noAttr]; rfl
  have hcN : (Value.ref C :: bm).contains (.type "NameError") = false := by rw [List.contains_cons, T.noName]; rfl
  refine codeAny_builtinAt F.entry ?_
  unfold Builtin.«BaseException.__new__»
  refine PySem.wpAt_bind ?_
  show PySem.wpAt _ _ _ (stack >>= _) _ _ _
  refine PySem.wpAt_bind (PySem.wpAt_stack fun p below => PySem.wpAt_of_wpAny ?_)
  wp_walk
  refine PySem.wpAt_of_wpAny ?_
  rw [F.owner]
  repeat (first | with_reducible refine wpAny_madeHere_exc F.canon hC ?_ | with_reducible refine wpAny_loadPart_at hC ?_ | (with_reducible refine wpAny_isSubtype_exc hC ?_; first | rw [hcB] | rw [hcA] | rw [hcN]) | wp_step)
  show R _ _
  rw [Heap.size_push]
  exact hq
theorem exc_type_call (T : TailHas bm) {K : PySem.W.Frag} {rest : List Value} {fI : Addr} {Q : Fin → Shared → Prop}
    (hC : h.get? C = some (excClassObj nm q C N bs bm hdct sn sub ab col dd k0 k1 k2 k3 k5 "ValueError.__new__")) (X : K.In h) (hi : PySem.W.findIn K (.ref C) "__init__" = some (some (.ref fI))) (hf : PySem.W.typeIn K (.ref fI) = some (.type "function"))
    (hq : wpAny (model prog w) A (call (.ref fI) (.ref (h.objs.size + 1) :: rest)) (fun r s' => r = .none ∧ Q (.done (.ret (.ref (h.objs.size + 1)))) s') E ⟨(h.push { cls := .type "tuple", data := .seq rest.toArray }).push (excNew C h.objs.size), g, d, t, os⟩) (hrest : rest.length ≤ sizeLine := by size_fits) :
    wpAny (model prog w) A (Builtin.«type.__call__» ⟨.ref C :: rest, []⟩) Q E ⟨h, g, d, t, os⟩ := by
  have F := PySem.F.excBase_ValueError
  repeat (first | with_reducible refine wpAny_loadPart_at hC ?_ | with_reducible refine wpAny_madeBy_exc hC ?_ | wp_step)
  refine codeAny_call_builtin_code (Code.quiet_builtin _ F.quiet) (exc_check_new T hC ?_)
  refine exc_new_code T hC ?_ hrest
  show wpAny _ _ _ _ _ _
  have hk : ∀ b o, h.get? b = some o → ((h.push { cls := .type "tuple", data := .seq rest.toArray }).push (excNew C h.objs.size)).get? b = some o := fun b o e => Heap.get?_push_of_some _ (Heap.get?_push_of_some _ e)
  have hC₁ := hk _ _ hC
  have X₁ : K.In ((h.push { cls := .type "tuple", data := .seq rest.toArray }).push (excNew C h.objs.size)) := X.keeps hk
  have hget : ((h.push { cls := .type "tuple", data := .seq rest.toArray }).push (excNew C h.objs.size)).get? (h.objs.size + 1) = some (excNew C h.objs.size) := by heap_get
  have hcC : (Value.ref C :: bm).contains (.ref C) = true := by simp
  unfold isInstance
  repeat (first | with_reducible refine wpAny_loadPart_at hget ?_ | (with_reducible refine wpAny_isSubtype_exc hC₁ ?_; rw [hcC]) | wp_step)
  show wpAny _ _ (typeLookup (.ref C) _) _ _ _
  refine (PySem.W.looks_findIn X₁ hi).here ?_
  refine wpAny_holding (wpAny_bind ?_)
  refine (PySem.W.bind_fn X₁ (.ref (h.objs.size + 1)) hf).here ?_
  refine wpAny_bind (wpAny_mono hq (fun r s' hr => ?_) fun _ _ x => x)
  obtain ⟨rfl, hQ⟩ := hr
  wp_walk
  exact hQ
theorem exc_call (T : TailHas bm) {K : PySem.W.Frag} {rest : List Value} {fI : Addr} {Q : Value → Shared → Prop}
    (hC : h.get? C = some (excClassObj nm q C N bs bm hdct sn sub ab col dd k0 k1 k2 k3 k5 "ValueError.__new__")) (X : K.In h) (hi : PySem.W.findIn K (.ref C) "__init__" = some (some (.ref fI))) (hf : PySem.W.typeIn K (.ref fI) = some (.type "function"))
    (hq : wpAny (model prog w) (A.under (.builtin "type.__call__" ⟨.ref C :: rest, []⟩)) (call (.ref fI) (.ref (h.objs.size + 1) :: rest)) (fun r s' => r = .none ∧ Q (.ref (h.objs.size + 1)) s') E ⟨(h.push { cls := .type "tuple", data := .seq rest.toArray }).push (excNew C h.objs.size), g, d, t, os⟩) (hrest : rest.length ≤ sizeLine := by size_fits) :
    wpAny (model prog w) A (call (.ref C) rest) Q E ⟨h, g, d, t, os⟩ := by
  have f1 := tc_lookup
  have f2 := tc_bind (.ref C)
  have hT : (⟨h, g, d, t, os⟩ : Shared).TypeIs (.ref C) "type" := ⟨_, hC, rfl⟩
  refine wpAny_call (codeAny_of_tree ?_)
  show wpAny _ _ (callAny (.ref C) _) _ _ _
  repeat (any_goals (first | assumption | with_reducible refine wpAny_loadPart_at hC ?_ | wp_step))
  refine ⟨rfl, ?_⟩
  exact codeAny_call_builtin_at (Code.quiet_builtin _ (by decide +kernel)) entry_typeCall (wpAny_check_type_call_sub hC (exc_type_call (hrest := hrest) T hC X hi hf hq))
end
/-! ### exceptions among the tracked things -/
/-- at a stands an exception of the class at C, its dict at dd; n: it is in no flight yet -/
def excP (a C : Addr) (dd : Option Addr) (n : Bool) (h : Heap) : Prop := ∃ vs : Array Value, h.get? a = some { cls := .ref C, dict := dd, data := .fields vs } ∧ vs.size = 6 ∧ (n = true → vs[1]? = some .none)
theorem ext_ok {P : Program} {w : World} {H : Hp} {h : Heap} {a C : Addr} {dd : Option Addr} {n : Bool} (p : excP a C dd n h) : ObjOk P w H h a (.ext (excP a C dd n)) := by
  obtain ⟨vs, e, r⟩ := p
  exact ⟨⟨vs, e, r⟩, ⟨_, e⟩, fun h1 h2 ⟨ws, e1, r1⟩ k => ⟨ws, k _ e1, r1⟩⟩
theorem ext_at {P : Program} {w : World} {H : Hp} {h : Heap} {a C : Addr} {dd : Option Addr} {n : Bool} (ok : HOk P w H h) (e : H a = some (.ext (excP a C dd n))) : excP a C dd n h :=
  (show ObjOk P w H h a (.ext (excP a C dd n)) from ok a _ e).1
theorem upd_self {H : Hp} {a : Addr} {o : HO} (h : H a = some o) : upd H a o = H := by
  funext b
  by_cases hb : b = a
  · subst hb
    rw [upd_same, h]
  · rw [upd_ne hb]
/-- what the fragment knows of an own exception's class -/
structure ExcC (K : PySem.W.Frag) (C : Addr) : Prop where
  obj : ∃ nm q N bs bm hdct sn sub ab col dd k0 k1 k2 k3 k5, K.lookup C = some (excClassObj nm q C N bs bm hdct sn sub ab col dd k0 k1 k2 k3 k5 "ValueError.__new__") ∧ TailHas bm
structure ExcMk (K : PySem.W.Frag) (C f : Addr) : Prop extends ExcC K C where
  init : PySem.W.findIn K (.ref C) "__init__" = some (some (.ref f))
  fn : PySem.W.typeIn K (.ref f) = some (.type "function")
  kp : PySem.W.keepIn K (.ref C) = true
section
variable {X : Cx} {CX : CXT} {k : Nat} {f C : Addr} {fd : FuncData} {ps : List Str} {sp : Sp} {E : XK} {x m : Str} {p pos apos : Pos} {e o : Expr} {es : List Expr} {ta : TE} {t : TA}
def tMakeX (C : Addr) (sp : Sp) (E : XK) (t : TA) : TE := fun σ H Q => t σ H fun vs H1 => ∀ x, H1 x = none → sp (.ref x :: vs) (upd H1 x (.ext (excP x C none true))) (fun v H2 => v = .non ∧ Q (.ref x) H2) E
theorem run_makeX {pins : List (Addr × Obj)} {σ : St} {H : Hp} {s : Shared} {Q : VK} {us : List Value} {vs : List V} (M : ExcMk X.K C f) (F : FnOk X.prog X.w X.K X.mg X.base CX k f fd ps sp) (hr : Room (k + 1) X.A) (hb : Binds X.K fd ps [])
    (hx : Passes CX X E) (I : Inv X pins σ H s) (r : Vals vs us) (hus : us.length ≤ 100)
    (h : ∀ x, H x = none → sp (.ref x :: vs) (upd H x (.ext (excP x C none true))) (fun v H2 => v = .non ∧ Q (.ref x) H2) E) :
    wpAny (model X.prog X.w) X.A (call (.ref C) us) (EP X pins σ Q) X.xe s := by
  have hq := h (s.heap.objs.size + 1) (I.hok.fresh (Nat.le_succ _))
  obtain ⟨nm, q, N, bs, bm, hdct, sn, sub, ab, col, dd, k0, k1, k2, k3, k5, lk, T⟩ := M.obj
  have hC := I.kIn _ _ lk
  have hk : ∀ b u, s.heap.get? b = some u → ((s.heap.push { cls := .type "tuple", data := .seq us.toArray }).push (excNew C s.heap.objs.size)).get? b = some u := fun b u e => Heap.get?_push_of_some _ (Heap.get?_push_of_some _ e)
  have hget : ((s.heap.push { cls := .type "tuple", data := .seq us.toArray }).push (excNew C s.heap.objs.size)).get? (s.heap.objs.size + 1) = some (excNew C s.heap.objs.size) := by heap_get
  have I2 : Inv X pins σ (upd H (s.heap.objs.size + 1) (.ext (excP (s.heap.objs.size + 1) C none true))) { s with heap := (s.heap.push { cls := .type "tuple", data := .seq us.toArray }).push (excNew C s.heap.objs.size) } :=
    I.laid (t' := s.toks) hk (Nat.le_succ _) (ext_ok ⟨_, hget, rfl, fun _ => rfl⟩)
  have r2 : Vals (V.ref (s.heap.objs.size + 1) :: vs) (Value.ref (s.heap.objs.size + 1) :: us) := .cons rfl r
  have hl : (Value.ref (s.heap.objs.size + 1) :: us ++ ([] : List Value)).length = ps.length := by
    have e := r2.length
    rw [F.len _ _ _ _ hq] at e
    rw [List.append_nil]
    exact e.symm
  obtain ⟨hp, g, d, tk, os⟩ := s
  refine exc_call (hrest := Nat.le_trans hus (by decide)) T hC I.kIn M.init M.fn (wpAny_call (codeAny_mono (F.run _ X.stack _ _ ⟨Value.ref (hp.objs.size + 1) :: us, []⟩ (Value.ref (hp.objs.size + 1) :: us) _ _ E (hr.make C us []) (I2.env0.make C us []) ?_ r2 hq) fun r s' hq' => ?_))
  · have := hb _ (Value.ref (hp.objs.size + 1) :: us) I2.kIn hl
    rw [List.append_nil] at this
    exact this
  · cases r with
    | error e => exact hx pins σ _ _ e s' I2 hq'
    | ok fl =>
      cases fl with
      | ret u =>
        obtain ⟨v, H', I3, rv, ev, q3⟩ := I2.after hq'
        subst ev
        exact ⟨rv, ⟨V.ref (hp.objs.size + 1), H', I3, rfl, q3⟩⟩
      | next => exact False.elim hq'
      | brk => exact False.elim hq'
      | cont => exact False.elim hq'
theorem pe_makeX (M : ExcMk X.K C f) (F : FnOk X.prog X.w X.K X.mg X.base CX k f fd ps sp) (hr : Room (k + 1) X.A) (hg : Gl X x) (hm : X.mg x = some (.ref C)) (hb : Binds X.K fd ps []) (hx : Passes CX X E)
    (ha : PA X (e :: es) t) (hlen : ∀ vs H Q E, sp vs H Q E → vs.length ≤ 100) (hdb : (x == ("__debug__" : Str)) = false := by decide) (he : starEach (e :: es) X.env = (false, eval e X.env) :: starEach es X.env := by rfl) (hpl : (backTo pos (starEach es X.env)).any (·.1) = false := by rfl) :
    PE X (.Call (.Name x p) (e :: es) [] pos) (tMakeX C sp E t) := by
  intro pins s σ H Q I h
  refine wpAny_Call_Name_kw (ld_glob I hg hm ?_ hdb)
  refine PySem.W.callWith_K (h₀ := X.base) I.ok.mod.kin M.kp (thn (ha pos pins s σ H _ I h) fun us s1 ⟨vs, H1, I1, r, q⟩ => ⟨I1.kIn, ?_⟩) he hpl
  refine run_makeX M F hr hb hx I1 r ?_ q
  have h1 := hlen _ _ _ _ (q _ (I1.hok.fresh (Nat.le_refl _)))
  have h2 := r.length
  rw [List.length_cons] at h1
  rw [List.nil_append]
  omega
theorem pe_makeX0 (M : ExcMk X.K C f) (F : FnOk X.prog X.w X.K X.mg X.base CX k f fd ps sp) (hr : Room (k + 1) X.A) (hg : Gl X x) (hm : X.mg x = some (.ref C)) (hb : Binds X.K fd ps []) (hx : Passes CX X E)
    (hdb : (x == ("__debug__" : Str)) = false := by decide) : PE X (.Call (.Name x p) [] [] pos) (tMakeX C sp E tNil) := by
  intro pins s σ H Q I h
  refine wpAny_Call_Name_kw (ld_glob I hg hm ?_ hdb)
  exact PySem.W.callWith_K0 I.kIn M.kp (run_makeX (us := []) M F hr hb hx I .nil (by simp) h)
end
/-! ### ValueError.__init__(self, x) -/
theorem find_vinit (K : PySem.W.Frag) : PySem.W.findCls K (.type "ValueError") (.type "type") "__init__" = some (.val (.builtin "ValueError.__init__")) := by kernel_rfl
section
variable {prog : Program} {w : World} {A : Around} {E : Value → Shared → Prop} {h : Heap} {g : Array GenState} {d : Drawn} {t : Nat} {os : OsState}
variable {nm q : Str} {C N : Addr} {bs bm : List Value} {hdct : Bool} {sn : List Str} {sub : List Value} {ab : Bool} {col : Option Bool} {dd : Option Addr} {k0 k1 k2 k3 k5 : Option Value}
theorem exc_check_init {M : Model} (T : TailHas bm) {e : Addr} {oe : Obj} {rest : List Value} {Q : Unit → Shared → Prop}
    (hC : h.get? C = some (excClassObj nm q C N bs bm hdct sn sub ab col dd k0 k1 k2 k3 k5 "ValueError.__new__")) (he : h.get? e = some oe) (hcls : oe.cls = .ref C) (hq : Q () ⟨h, g, d, t, os⟩) :
    wpAny M A (checkBuiltinCall "ValueError.__init__" ⟨.ref e :: rest, []⟩) Q E ⟨h, g, d, t, os⟩ := by
  have F := PySem.F.excBase_ValueError
  have hcB : (Value.ref C :: bm).contains (.type "ValueError") = true := by rw [List.contains_cons, T.hasB, Bool.or_true]
  have hshort := F.noStar
  simp only [checkBuiltinCall, F.initKind, F.initSplit, F.initRow]
  repeat (first | (with_reducible refine wpAny_loadPart_at he ?_; rw [hcls]) | with_reducible refine wpAny_loadPart_at hC ?_ | (with_reducible refine wpAny_isSubtype_exc hC ?_; rw [hcB]) | wp_step)
  refine wpAny_onRaise ?_
  rw [show ∀ (a b : String) (n : Nat), Bind.check ⟨.positional, "*", "ValueError", .self, [⟨"args", .varPos, false⟩]⟩ a b n (List.map (fun x => x.fst) ({ pos := Value.ref e :: rest } : Args).kw) = pure () from
    fun a b n => check_star_args _ _ _ _ _ _]
  exact wpAny_pure hq
theorem exc_vinit (T : TailHas bm) {e : Addr} {vs : Array Value} {de : Option Addr} {x : Value} {Q : Value → Shared → Prop}
    (hC : h.get? C = some (excClassObj nm q C N bs bm hdct sn sub ab col dd k0 k1 k2 k3 k5 "ValueError.__new__")) (he : h.get? e = some { cls := .ref C, dict := de, data := .fields vs }) (hv : vs.size = 6)
    (hq : ∀ h' T', h.get? T' = none → (∀ b o, b ≠ e → h.get? b = some o → h'.get? b = some o) → h'.get? e = some { cls := .ref C, dict := de, data := .fields (vs.setIfInBounds 0 (.ref T')) } → Q .none ⟨h', g, d, t, os⟩) :
    wpAny (model prog w) A (call (.builtin "ValueError.__init__") [.ref e, x]) Q E ⟨h, g, d, t, os⟩ := by
  have F := PySem.F.excBase_ValueError
  have hsz : 0 < vs.size := by omega
  refine wpAny_call (codeAny_call_builtin F.init.plain F.initEntry (exc_check_init T hC he rfl ?_))
  unfold Builtin.«BaseException.__init__»
  wp_walk
  have h0 : vs[0]? = some vs[0] := Array.getElem?_eq_getElem hsz
  rw [h0]
  have he2 := Heap.get?_push_of_some { cls := .type "tuple", data := .seq #[x] } he
  have fin : Q .none ⟨(h.push { cls := .type "tuple", data := .seq #[x] }).update e (Obj.mapFields (·.setIfInBounds 0 (.ref h.objs.size))), g, d, t, os⟩ := by
    refine hq _ h.objs.size (Heap.get?_none_of_le (Nat.le_refl _)) (fun b o hb e' => ?_) ?_
    · rw [Heap.get?_update_other _ _ (Ne.symm hb)]
      exact Heap.get?_push_of_some _ e'
    · exact Heap.get?_update_self _ he2 rfl
  generalize vs[0] = v0
  refine wpAny_pure ?_
  refine wpAny_bind (wpAny_setField he2 rfl hsz ?_)
  cases v0 with
  | ref a => exact wpAny_letGo (wpAny_pure fin)
  | _ => exact wpAny_pure (wpAny_pure fin)
end
section
variable {X : Cx} {p pos apos : Pos} {e1 e2 : Expr} {t : TA}
/-- ValueError.__init__(self, x): nothing that is told of it changes -/
def tVInit (K : PySem.W.Frag) (t : TA) : TE := fun σ H Q => t σ H fun vs H1 => ∃ a C dd n x, vs = [.ref a, x] ∧ H1 a = some (.ext (excP a C dd n)) ∧ ExcC K C ∧ Q .non H1
theorem pe_vinit {pl : Sem Bool} (hg : Gl X "ValueError") (hm : X.mg "ValueError" = none) (ha : PA X [e1, e2] t)
    (hst : starEach [e1, e2] X.env = (false, eval e1 X.env) :: starEach [e2] X.env := by rfl) (hpl : (backTo pos (starEach [e2] X.env)).any (·.1) = false := by rfl)
    (ht : eval (.Call (.Attribute (.Name "ValueError" p) "__init__" apos) [e1, e2] [] pos) X.env = (do
      let ov ← eval (.Name "ValueError" p) X.env
      standAt apos.atName
      let (f, first) ← holding [ov] (getMethod ov "__init__" pl)
      callWith pos f first (backTo pos (starEach [e1, e2] X.env)) (backToKw pos (keywordEach [] X.env))) := by rfl) :
    PE X (.Call (.Attribute (.Name "ValueError" p) "__init__" apos) [e1, e2] [] pos) (tVInit X.K t) := by
  intro pins s σ H Q I h
  refine PySem.W.methodCall_KW (pl := pl) (ld_blt I hg hm Boot.«ValueError» ?_) ht
  obtain ⟨m, F⟩ := I.fr
  refine PySem.W.method_type F I.mod.kin (by kernel_rfl) (by decide +kernel) (find_vinit X.K) (by decide +kernel) ?_
  refine PyProof.Rows.callWith_builtin1 (thn (ha pos pins _ σ H _ (I.tok _) h) fun us s1 ⟨vs, H1, I1, r1, q1⟩ => ?_) hst hpl
  obtain ⟨a, C, dd, n, x, rfl, hx, hc, q⟩ := q1
  cases r1 with
  | cons r rr =>
    cases rr with
    | cons r' rr =>
      cases rr
      cases r
      obtain ⟨nm, q', N, bs, bm, hdct, sn, sub, ab, col, dd', k0, k1, k2, k3, k5, lk, T⟩ := hc.obj
      obtain ⟨ws, he, hw, hn⟩ := ext_at I1.hok hx
      obtain ⟨hp, g, d, tk, os⟩ := s1
      refine exc_vinit T (I1.kIn _ _ lk) he hw fun h' T' hT k he' => ⟨.non, H1, ?_, rfl, q⟩
      have I2 := I1.write (h' := h') (t' := tk) (x := a) (e := a) (o := .ext (excP a C dd n)) (by rw [hx]; exact True.intro) (.inl rfl) k ⟨_, he'⟩ (ext_ok ⟨_, he', by simp [hw], fun z => by rw [Array.getElem?_setIfInBounds_ne (by decide)]; exact hn z⟩)
      rw [upd_self hx] at I2
      exact I2
end
end L2

/-! ### an exception's own attributes -/
namespace L2
open PySem PySem.Spec PyProof.Rows PySem.Builtin.ObjectAttr
theorem refuse_value (self : Value) : refuseLoop self "__setattr__" [.type "ValueError", .type "Exception", .type "BaseException", .type "object"] = pure () := by kernel_rfl
section
variable {prog : Program} {w : World} {A : Around} {E : Value → Shared → Prop} {h : Heap} {g : Array GenState} {d : Drawn} {t : Nat} {os : OsState}
variable {nm q : Str} {C N x : Addr} {bs bm : List Value} {sn : List Str} {sub : List Value} {ab : Bool} {col : Option Bool} {dd : Option Addr} {k0 k1 k2 k3 k5 : Option Value} {newId : String}
  {mA : Str → Option Value} {name : Str} {v : Value} {K : PySem.W.Frag}
theorem exc_check_sa {M : Model} {o : Obj} {nameV : Value} {Q : Unit → Shared → Prop} (hob : bm.contains (.type "object") = true)
    (hC : h.get? C = some (excClassObj nm q C N bs bm true sn sub ab col dd k0 k1 k2 k3 k5 newId)) (hx : h.get? x = some o) (hc : o.cls = .ref C) (hq : Q () ⟨h, g, d, t, os⟩) :
    wpAny M A (checkBuiltinCall "object.__setattr__" ⟨[.ref x, nameV, v], []⟩) Q E ⟨h, g, d, t, os⟩ := by
  have SF := PySem.F.store_object
  have hcB : (Value.ref C :: bm).contains (.type "object") = true := by rw [List.contains_cons, hob, Bool.or_true]
  have ha := SF.args (.ref x) nameV v
  simp only [checkBuiltinCall, SF.kind, SF.split]
  refine wpAny_bind ?_
  · unfold isInstance
    repeat (first | (with_reducible refine wpAny_loadPart_at hx ?_; rw [hc]) | (with_reducible refine wpAny_isSubtype_exc hC ?_; rw [hcB]) | wp_step)
    exact hq
theorem exc_store_entry {tk : Tok} {Q : Fin → Shared → Prop} {ns : List Str} (hpass : ∀ self, refuseLoop self "__setattr__" bm = pure ()) (X : K.In h) (hna : PySem.W.findIn K (.ref C) name = some none)
    (hC : h.get? C = some (excClassObj nm q C N bs bm true sn sub ab col dd k0 k1 k2 k3 k5 newId)) (I : h.Inst x C mA)
    (hq : ∀ h' tk', h'.Inst x C (fun y => if y = name then some v else mA y) →
      (∀ b o, b ≠ x → (∀ o₀ dx, h.get? x = some o₀ → o₀.dict = some dx → b ≠ dx) → h.get? b = some o → h'.get? b = some o) →
      (∀ o₀, h.get? x = some o₀ → ∃ o₁, h'.get? x = some o₁ ∧ o₁.cls = o₀.cls ∧ o₁.data = o₀.data ∧ o₁.slots = o₀.slots ∧ (∀ dx, o₀.dict = some dx → o₁.dict = some dx) ∧ (o₀.dict = none → ∃ dx, o₁.dict = some dx ∧ h.objs.size ≤ dx)) → Q (.done (.ret .none)) ⟨h', g, d, tk', os⟩) (hw : Within mA ns) (hsz : ns.length ≤ 1000) :
    wpAny (model prog w) A (Builtin.«object.__setattr__» ⟨[.ref x, .str name tk, v], []⟩) Q E ⟨h, g, d, t, os⟩ := by
  obtain ⟨o, hx, hc, hnc, hd⟩ := I
  have hpass := hpass (.ref x)
  unfold Builtin.«object.__setattr__»
  repeat (first | rw [refuse_eq] | (rw [refuseLoop_ref, hpass]) | (with_reducible refine wpAny_loadPart_at hx ?_; rw [hc]) | with_reducible refine wpAny_mroOf_exc hC ?_ | (with_reducible refine (PySem.W.looks_findIn X hna).here ?_) | wp_step)
  rcases hd with ⟨hdn, hmA⟩ | ⟨dx, hdx, hne, hns⟩
  ·
    rw [hdn, if_neg (by simp [typeHasDict])]
    split
    · rename_i hcd
      cases hcd
    split
    · rename_i c hcd
      exact absurd hcd (hnc c)
    · have hx₁ : (h.push { cls := .type "dict", data := .dict #[] }).get? x = some o := Heap.get?_push_of_some _ hx
      have hxs : x ≠ h.objs.size := Nat.ne_of_lt (Heap.lt_size hx)
      refine wpAny_bind (wpAny_alloc' ?_)
      refine wpAny_bind (wpAny_update' hx₁ ?_)
      refine wpAny_pure ?_
      have hgd : ((h.push { cls := .type "dict", data := .dict #[] }).update x fun o => { cls := o.cls, dict := some h.objs.size, data := o.data, slots := o.slots }).get? h.objs.size
          = some { cls := .type "dict", data := .dict #[] } :=
        (Heap.get?_update_ne _ _ _ _ hxs.symm).trans (Heap.get?_push_at rfl rfl)
      have hnd : ((h.push { cls := .type "dict", data := .dict #[] }).update x fun o => { cls := o.cls, dict := some h.objs.size, data := o.data, slots := o.slots }).Ns h.objs.size (fun _ => none) :=
        ⟨_, #[], _, hgd, rfl, fun e he => absurd he (by simp), fun _ => rfl⟩
      show wpAny _ _ (storeInDict h.objs.size (.str name tk) name v) _ _ _
      unfold storeInDict newKeyGuard
      refine wpAny_bind (wpAny_pure (wpAny_bind (wpAny_nsSet1 (Heap.Ns1.of_empty hnd) fun h' hn' hs => ?_)))
      obtain ⟨oD, esD, epD, hoD, hdD, hcD⟩ := hn'.count (Within.cons name v Within.nil)
      refine wpAny_bind (wpAny_lookBehind hoD (by rw [hdD]; exact pastItsLine_dict (Nat.le_trans hcD (by rw [List.length_cons, List.length_nil, sizeLine_eq]; omega))) ?_)
      wp_walk
      have hx' : h'.get? x = some { cls := o.cls, dict := some h.objs.size, data := o.data, slots := o.slots } := ?_
      refine hq h' _ ⟨{ cls := o.cls, dict := some h.objs.size, data := o.data, slots := o.slots }, hx', hc, hnc, .inr ⟨h.objs.size, rfl, hxs.symm, ?_⟩⟩ (fun b ob hbx _ hb => ?_)
        (fun o₀ h₀ => by obtain rfl : o = o₀ := Option.some.inj (hx.symm.trans h₀); exact ⟨_, hx', rfl, rfl, rfl, (fun dx e => by rw [hdn] at e; cases e), fun _ => ⟨_, rfl, Nat.le_refl _⟩⟩)
      · obtain ⟨o', es, ep, e1, e2, e3, eu, e4⟩ := hn'
        exact ⟨o', es, ep, e1, e2, e3, eu, fun y => by rw [e4 y]; by_cases hy : y = name <;> simp [hy, hmA]⟩
      · exact (hs.2 b (Nat.ne_of_lt (Heap.lt_size hb))).trans ((Heap.get?_update_ne _ _ _ _ hbx).trans (Heap.get?_push_of_some _ hb))
      · refine (hs.2 x hxs).trans (Heap.get?_update_self _ hx₁ ?_)
        have hfr := (Heap.get?_some_iff.mp hx).2
        obtain ⟨oc, od, odt, osl⟩ := o
        cases odt <;> first | rfl | exact hfr
  ·
    rw [hdx]
    refine wpAny_pure ?_
    show wpAny _ _ (storeInDict dx (.str name tk) name v) _ _ _
    unfold storeInDict newKeyGuard
    refine wpAny_bind (wpAny_pure (wpAny_bind (wpAny_nsSet1 hns fun h' hn' hs => ?_)))
    obtain ⟨oD, esD, epD, hoD, hdD, hcD⟩ := hn'.count (Within.cons name v hw)
    refine wpAny_bind (wpAny_lookBehind hoD (by rw [hdD]; exact pastItsLine_dict (Nat.le_trans hcD (by rw [List.length_cons, sizeLine_eq]; omega))) ?_)
    wp_walk
    refine hq h' _ ⟨o, (hs.2 x hne.symm).trans hx, hc, hnc, .inr ⟨dx, hdx, hne, hn'⟩⟩ (fun b ob _ hbd hb => ?_)
      (fun o₀ h₀ => ⟨o₀, (hs.2 x hne.symm).trans h₀, rfl, rfl, rfl, (fun _ e => e), fun e => by obtain rfl : o = o₀ := Option.some.inj (hx.symm.trans h₀); rw [hdx] at e; cases e⟩)
    exact (hs.2 b (hbd o dx hx hdx)).trans hb
theorem exc_store {Q : Unit → Shared → Prop} {ns : List Str} (hpass : ∀ self, refuseLoop self "__setattr__" bm = pure ()) (hob : bm.contains (.type "object") = true) (X : K.In h)
    (hs : PySem.W.findIn K (.ref C) "__setattr__" = some (some (.builtin "object.__setattr__"))) (hna : PySem.W.findIn K (.ref C) name = some none)
    (hC : h.get? C = some (excClassObj nm q C N bs bm true sn sub ab col dd k0 k1 k2 k3 k5 newId)) (I : h.Inst x C mA)
    (hq : ∀ h' tk', h'.Inst x C (fun y => if y = name then some v else mA y) →
      (∀ b o, b ≠ x → (∀ o₀ dx, h.get? x = some o₀ → o₀.dict = some dx → b ≠ dx) → h.get? b = some o → h'.get? b = some o) →
      (∀ o₀, h.get? x = some o₀ → ∃ o₁, h'.get? x = some o₁ ∧ o₁.cls = o₀.cls ∧ o₁.data = o₀.data ∧ o₁.slots = o₀.slots ∧ (∀ dx, o₀.dict = some dx → o₁.dict = some dx) ∧ (o₀.dict = none → ∃ dx, o₁.dict = some dx ∧ h.objs.size ≤ dx)) → Q () ⟨h', g, d, tk', os⟩) (hw : Within mA ns) (hsz : ns.length ≤ 1000) :
    wpAny (model prog w) A (setAttr (.ref x) name v) Q E ⟨h, g, d, t, os⟩ := by
  obtain ⟨o, hx, hc, hnc, hd⟩ := id I
  have J : ∃ od, PySem.W.InstAt h x o C od := by
    rcases hd with ⟨hdn, _⟩ | ⟨dx, hdx, _, oD, es, ep, h1, _⟩
    · exact ⟨none, hx, hc, by cases e : o.data <;> simp_all [PySem.W.notCls], by rw [hdn]; trivial⟩
    · exact ⟨some oD, hx, hc, by cases e : o.data <;> simp_all [PySem.W.notCls], by rw [hdx]; exact h1⟩
  obtain ⟨od, J⟩ := J
  refine PySem.W.set_plain (s := ⟨h, g, d, t, os⟩) X J hs ?_
  exact codeAny_call_builtin PySem.F.store_object.slot.plain PySem.F.store_object.entry (exc_check_sa hob hC hx hc (exc_store_entry hpass X hna hC I (fun h' tk' a b c => hq h' tk' a b c) hw hsz))
end
end L2

/-! ### own attributes of exceptions, in the layer -/
namespace L2
open PySem PySem.Spec PyProof.Rows
/-- what is asked of an own exception's class for its attributes -/
structure ExcF (K : PySem.W.Frag) (C : Addr) : Prop where
  obj : ∃ nm q N bs bm sn sub ab col dd k0 k1 k2 k3 k5, K.lookup C = some (excClassObj nm q C N bs bm true sn sub ab col dd k0 k1 k2 k3 k5 "ValueError.__new__") ∧ (∀ self, refuseLoop self "__setattr__" bm = pure ()) ∧ bm.contains (.type "object") = true
  sa : PySem.W.findIn K (.ref C) "__setattr__" = some (some (.builtin "object.__setattr__"))
section
variable {X : Cx} {pins : List (Addr × Obj)} {σ : St} {H : Hp} {s : Shared} {a C : Addr} {n : Bool} {f : Str} {y : V} {u : Value} {A : Around} {E : Value → Shared → Prop}
theorem rel_within {fs : List (Str × V)} {mA : Str → Option Value} (r : ∀ f, RelO (fs.lookup f) (mA f)) : PySem.Within mA (fs.map (·.1)) := by
  intro g hg
  have := r g
  cases e : fs.lookup g with
  | none => rw [e] at this; cases q : mA g with
    | none => rw [q] at hg; simp at hg
    | some v => rw [q] at this; cases this
  | some v =>
    obtain ⟨l1, l2, h1, _⟩ := List.lookup_eq_some_iff.mp e
    rw [h1]
    simp
/-- two tracked objects changed, the second one perhaps new -/
theorem Inv.two {h' : Heap} {t' : Nat} {dx : Addr} {o1 o2 : HO} {φ : Heap → Prop} (I : Inv X pins σ H s) (e : H a = some (.ext φ)) (hd1 : (∀ xs, H dx ≠ some (.tup xs)) ∧ (∀ y, H dx ≠ some (.own y)) ∧ (∀ o u, H dx ≠ some (.frz o u)) ∧ ∀ ps, H dx ≠ some (.tbl ps)) (hd2 : H dx = none → s.heap.objs.size ≤ dx) (hne : dx ≠ a)
    (k : ∀ b o, b ≠ a → b ≠ dx → s.heap.get? b = some o → h'.get? b = some o) (ha : ∃ o, h'.get? a = some o) (hx : ∃ o, h'.get? dx = some o)
    (n1 : ObjOk X.prog X.w (upd (upd H a o1) dx o2) h' a o1) (n2 : ObjOk X.prog X.w (upd (upd H a o1) dx o2) h' dx o2) : Inv X pins σ (upd (upd H a o1) dx o2) { s with heap := h', toks := t' } := by
  have na : ∀ b, H b = none → b ≠ a := fun b q z => by rw [z, e] at q; cases q
  have nd : ∀ b o, s.heap.get? b = some o → H b = none → b ≠ dx := fun b o q q' z => by
    subst z
    exact absurd (Nat.lt_of_lt_of_le (Heap.lt_size q) (hd2 q')) (Nat.lt_irrefl _)
  have far : ∀ b, b ≠ a → b ≠ dx → upd (upd H a o1) dx o2 b = H b := fun b h1 h2 => by rw [upd_ne h2, upd_ne h1]
  refine I.step (g' := s.gens) (d' := s.drawn) (ch := []) (fun _ z => nomatch z) (fun b o _ _ _ q n => k b o (na b n) (nd b o q n) q) (fun b o _ _ _ q n => ⟨o.slots, k b o (na b n) (nd b o q n) q⟩) (fun b o _ q n => by rw [far b (na b n) (nd b o q n)]; exact n)
    (fun b o _ q => ?_) (fun b xs q => ?_) (fun b o u q => ?_) (fun b ps q => ⟨#[], ?_⟩) (fun m hm => ?_) (fun b u q => ?_) I.bare
  · by_cases h1 : b = a
    · rw [h1]; exact ha
    · by_cases h2 : b = dx
      · rw [h2]; exact hx
      · exact ⟨o, k b o h1 h2 q⟩
  · rw [far b (fun z => by rw [z, e] at q; cases q) (fun z => hd1.1 xs (by rw [← z]; exact q))]; exact q
  · rw [far b (fun z => by rw [z, e] at q; cases q) (fun z => hd1.2.2.1 o u (by rw [← z]; exact q))]; exact q
  · rw [far b (fun z => by rw [z, e] at q; cases q) (fun z => hd1.2.2.2 ps (by rw [← z]; exact q)), q]; simp
  · obtain ⟨o, es, ep, q, r⟩ := hm
    exact ⟨o, es, ep, k _ o (na _ I.free) (nd _ o q I.free) q, r⟩
  · by_cases h2 : b = dx
    · subst h2
      rw [upd_same] at q
      cases q
      exact n2
    · rw [upd_ne h2] at q
      by_cases h1 : b = a
      · subst h1
        rw [upd_same] at q
        cases q
        exact n1
      · rw [upd_ne h1] at q
        refine (I.hok b u q).stay (fun c v hc q' => k c v ?_ ?_ q') (fun c q' => ?_) fun c ys q' => ?_
        · rcases hc with z | z
          · rw [z]; exact h1
          · exact fun z' => by rw [z', e] at z; cases z
        · rcases hc with z | z
          · rw [z]; exact h2
          · exact fun z' => hd1.2.1 b (by rw [← z']; exact z)
        · rw [far c (fun z => by rw [z, e] at q'; cases q') (fun z => hd1.2.1 b (by rw [← z]; exact q'))]; exact q'
        · rw [far c (fun z => by rw [z, e] at q'; cases q') (fun z => hd1.1 ys (by rw [← z]; exact q'))]; exact q'
theorem rel_put {fs : List (Str × V)} {mA : Str → Option Value} (r : ∀ f, RelO (fs.lookup f) (mA f)) (ry : RelV y u) : ∀ g, RelO ((putF f y fs).lookup g) (if g = f then some u else mA g) := fun g => by
  rw [lookup_putF]
  by_cases h : g = f
  · rw [if_pos h, if_pos h]; exact ry
  · rw [if_neg h, if_neg h]; exact r g
/-- the first attribute -/
theorem setattr_x1 {Q : Unit → Shared → Prop} (I : Inv X pins σ H s) (e : H a = some (.ext (excP a C none n))) (c : ExcF X.K C) (na : NoAttr X.K C f) (ry : RelV y u)
    (h : ∀ dx s', H dx = none → dx ≠ a → Inv X pins σ (upd (upd H a (.ext (excP a C (some dx) n))) dx (.xd [(f, y)])) s' → Q () s') : wpAny (model X.prog X.w) A (setAttr (.ref a) f u) Q E s := by
  obtain ⟨nm, q, N, bs, bm, sn, sub, ab, col, dd, k0, k1, k2, k3, k5, lk, hp, ho⟩ := c.obj
  obtain ⟨vs, he, hv, hn⟩ := ext_at I.hok e
  have hC := I.kIn _ _ lk
  have I0 := I
  obtain ⟨hh, g, d, tk, os⟩ := s
  refine exc_store (mA := fun _ => none) (ns := []) hp ho I.kIn c.sa na hC ⟨_, he, rfl, (fun c z => by cases z), .inl ⟨rfl, fun _ => rfl⟩⟩ (fun h' tk' inst kk same => ?_) (fun g hg => by simp at hg) (by simp)
  obtain ⟨o1, e1, ec, ed, es, _, enew⟩ := same _ he
  obtain ⟨dx, ex, hdx⟩ := enew rfl
  obtain ⟨o2, e2, _, _, hd2⟩ := inst
  rw [e1] at e2
  cases e2
  rcases hd2 with ⟨z, _⟩ | ⟨d', hd', ne', ns'⟩
  · rw [ex] at z; cases z
  rw [ex] at hd'
  cases hd'
  have hHdx : H dx = none := I0.hok.fresh hdx
  have eo : o1 = { cls := .ref C, dict := some dx, data := .fields vs } := by
    obtain ⟨oc, od, odt, osl⟩ := o1
    simp only at ec ed es ex
    subst ec ed es ex
    rfl
  rw [eo] at e1
  refine h dx _ hHdx ne' (I0.two (t' := tk') e ⟨(fun xs z => by rw [hHdx] at z; cases z), (fun y z => by rw [hHdx] at z; cases z), (fun o u z => by rw [hHdx] at z; cases z), (fun ps z => by rw [hHdx] at z; cases z)⟩ (fun _ => hdx) ne' (fun b o hb _ q => kk b o hb (fun o0 dx0 h0 h1 => by rw [he] at h0; cases h0; cases h1) q) ⟨_, e1⟩ (let ⟨o, _, _, h1, _⟩ := ns'; ⟨o, h1⟩) (ext_ok ⟨vs, e1, hv, hn⟩) ⟨_, ns', ?_⟩)
  exact rel_put (fs := []) (fun _ => trivial) ry
/-- a further one -/
theorem setattr_x2 {dx : Addr} {fs : List (Str × V)} {Q : Unit → Shared → Prop} (I : Inv X pins σ H s) (e : H a = some (.ext (excP a C (some dx) n))) (ed : H dx = some (.xd fs)) (hne : dx ≠ a) (hl : fs.length ≤ 900) (c : ExcF X.K C) (na : NoAttr X.K C f) (ry : RelV y u)
    (h : ∀ s', Inv X pins σ (upd H dx (.xd (putF f y fs))) s' → Q () s') : wpAny (model X.prog X.w) A (setAttr (.ref a) f u) Q E s := by
  obtain ⟨nm, q, N, bs, bm, sn, sub, ab, col, dd, k0, k1, k2, k3, k5, lk, hp, ho⟩ := c.obj
  obtain ⟨vs, he, hv, hn⟩ := ext_at I.hok e
  obtain ⟨mA, ns, r⟩ := (show ObjOk X.prog X.w H s.heap dx (.xd fs) from I.hok dx _ ed)
  have hC := I.kIn _ _ lk
  have I0 := I
  obtain ⟨hh, g, d, tk, os⟩ := s
  refine exc_store (mA := mA) (ns := fs.map (·.1)) hp ho I.kIn c.sa na hC ⟨_, he, rfl, (fun c z => by cases z), .inr ⟨dx, rfl, hne, ns⟩⟩ (fun h' tk' inst kk same => ?_) (rel_within r) (by rw [List.length_map]; omega)
  obtain ⟨o1, e1, ec, edt, es, eold, _⟩ := same _ he
  have ex := eold dx rfl
  obtain ⟨o2, e2, _, _, hd2⟩ := inst
  rw [e1] at e2
  cases e2
  rcases hd2 with ⟨z, _⟩ | ⟨d', hd', ne', ns'⟩
  · rw [ex] at z; cases z
  rw [ex] at hd'
  cases hd'
  have eo : o1 = { cls := .ref C, dict := some dx, data := .fields vs } := by
    obtain ⟨oc, od, odt, osl⟩ := o1
    simp only at ec edt es ex
    subst ec edt es ex
    rfl
  rw [eo] at e1
  have I2 := I0.two (t' := tk') (o1 := .ext (excP a C (some dx) n)) (o2 := .xd (putF f y fs)) e ⟨(fun xs z => by rw [ed] at z; cases z), (fun y z => by rw [ed] at z; cases z), (fun o u z => by rw [ed] at z; cases z), (fun ps z => by rw [ed] at z; cases z)⟩ (fun z => by rw [ed] at z; cases z) hne (fun b o hb hb2 q => kk b o hb (fun o0 dx0 h0 h1 => by rw [he] at h0; cases h0; cases h1; exact hb2) q) ⟨_, e1⟩ (let ⟨o, _, _, h1, _⟩ := ns'; ⟨o, h1⟩) (ext_ok ⟨vs, e1, hv, hn⟩) ⟨_, ns', rel_put r ry⟩
  rw [upd_self e] at I2
  exact h _ I2
end
section
variable {X : Cx} {o value : Expr} {f : Str} {pos pos' : Pos} {ta tv : TE}
def sFldX (K : PySem.W.Frag) (ta tv : TE) (f : Str) : TS := fun D σ H => tv σ H fun y H1 => ta σ H1 fun x H2 => ∃ a C n, x = .ref a ∧ ExcF K C ∧ NoAttr K C f ∧
  ((H2 a = some (.ext (excP a C none n)) ∧ ∀ dx, H2 dx = none → dx ≠ a → D.nx σ (upd (upd H2 a (.ext (excP a C (some dx) n))) dx (.xd [(f, y)]))) ∨
    ∃ dx fs, H2 a = some (.ext (excP a C (some dx) n)) ∧ H2 dx = some (.xd fs) ∧ dx ≠ a ∧ fs.length ≤ 900 ∧ D.nx σ (upd H2 dx (.xd (putF f y fs))))
/-- self.f = v of an exception -/
theorem ps_fldX (ha : PE X o ta) (hv : PE X value tv) (hs : swapsWith value (some (.Attribute o f pos')) pos.line X.env = pure false) : PS X (.Assign [.Attribute o f pos'] value pos) (sFldX X.K ta tv f) := by
  intro pins s σ H D I h
  refine plainObj_wpAny_Assign_Attribute (thn (hv pins s σ H _ I h) fun u s1 ⟨y, H1, I1, ry, q⟩ => thn (ha pins s1 σ H1 _ I1 q) fun ov s2 ⟨x, H2, I2, rx, a, C, n, ex, c, na, q2⟩ => ?_) hs
  subst ex
  obtain rfl : ov = Value.ref a := rx
  rcases q2 with ⟨e, q3⟩ | ⟨dx, fs, e, ed, ne, hl, q3⟩
  · exact setattr_x1 I2 e c na ry fun dx s3 hn ne I3 => ⟨σ, _, I3, q3 dx hn ne⟩
  · exact setattr_x2 I2 e ed ne hl c na ry fun s3 I3 => ⟨σ, _, I3, q3⟩
end
end L2

/-! ### e.f of an exception -/
namespace L2
open PySem PySem.Spec PyProof.Rows PySem.Builtin.ObjectAttr
section
variable {prog : Program} {w : World} {A : Around} {E : Value → Shared → Prop} {s : Shared} {K : PySem.W.Frag} {x C : Addr} {ox : Obj} {od : Option Obj} {name : Str} {expr : Bool} {Q : Value → Shared → Prop} {v : Value}
theorem exc_getattr (X : K.In s.heap) (I : PySem.W.InstAt s.heap x ox C od) (hga : PySem.W.findIn K (.ref C) "__getattribute__" = some (some (.builtin "BaseException.__getattribute__"))) (hhk : PySem.W.findIn K (.ref C) "__getattr__" = some none)
    (hm : PySem.W.mroIn K C (.type "BaseException") = some true) (hf : PySem.W.findObj K C od name = some (.value v)) (hh : PySem.W.handedIn v = true) (h : Q v { s with toks := s.toks + 1 }) :
    wpAny (model prog w) A (getAttr (.ref x) name expr) Q E s := by
  have ht := I.type (M := model prog w)
  refine wpAny_bind (wpAny_mkText (wpAny_holding (wpAny_bind (ht _ _ _ _ (fun _ _ e => e) (wpAny_bind (PySem.W.looks_findIn X hga _ _ _ _ (fun _ _ e => e) ?_))))))
  dsimp only
  rw [show (onTheHeap (Value.ref C) && Value.builtin "BaseException.__getattribute__" == Value.builtin "object.__getattribute__") = false from by rw [show (Value.builtin "BaseException.__getattribute__" == Value.builtin "object.__getattribute__") = false from by decide +kernel, Bool.and_false], if_neg (by decide)]
  have hb : PySem.W.Looks (model prog w) s.heap (hookBefore (.ref C)) none := PySem.W.looks_hook X (by show (if onTheHeap (Value.ref C) = true then _ else _) = _; exact hhk)
  refine wpAny_bind (hb _ _ _ _ (fun _ _ e => e) (wpAny_bind (wpAny_attempt (wpAny_holding ?_))))
  unfold callGetattribute
  rw [show (expr && onTheHeap (Value.builtin "BaseException.__getattribute__")) = false from Bool.and_false _, if_neg (by decide)]
  unfold boundAndCalled
  rw [PySem.F.attr_ValueError.ga.bind]
  refine wpAny_bind (wpAny_pure ?_)
  show wpAny _ _ (call (.builtin "BaseException.__getattribute__") [.ref x, .str name s.toks]) _ _ _
  refine wpAny_call ?_
  refine codeAny_call_builtin PySem.F.attr_ValueError.ga.plain PySem.F.entry_bexc_ga ?_
  refine @PySem.W.check_slot (model prog w) _ _ { s with toks := s.toks + 1 } "BaseException.__getattribute__" "BaseException" "__getattribute__" (.ref x) [.str name s.toks] [] _ (by decide +kernel) (by decide +kernel) (ht.andThen (PySem.W.looks_mroIn X hm)) (PySem.F.args_bexc_ga (.ref x) (.str name s.toks)) ?_
  unfold Builtin.«object.__getattribute__»
  refine wpAny_bind (wpAny_pure ?_)
  refine wpAny_bind (wpAny_pure ?_)
  refine wpAny_bind (ht _ _ _ _ (fun _ _ e => e) ?_)
  refine wpAny_bind (PySem.W.looks_find X I hf _ _ _ _ (fun _ _ e => e) ?_)
  refine wpAny_pure ?_
  show wpAny _ _ (handedOut v) _ _ _
  rw [PySem.W.handedOut_of hh]
  exact wpAny_pure h
end
structure ExcG (K : PySem.W.Frag) (C : Addr) : Prop where
  ga : PySem.W.findIn K (.ref C) "__getattribute__" = some (some (.builtin "BaseException.__getattribute__"))
  hk : PySem.W.findIn K (.ref C) "__getattr__" = some none
  mro : PySem.W.mroIn K C (.type "BaseException") = some true
  hd : PySem.W.hasDictIn K C = true
section
variable {X : Cx} {e : Expr} {f : Str} {pos : Pos} {ta : TE}
theorem getattr_x {pins : List (Addr × Obj)} {σ : St} {H : Hp} {s : Shared} {a C dx : Addr} {n b : Bool} {fs : List (Str × V)} {v : V} {A : Around} {E : Value → Shared → Prop} {Q : Value → Shared → Prop} (I : Inv X pins σ H s) (e : H a = some (.ext (excP a C (some dx) n))) (ed : H dx = some (.xd fs))
    (c : ExcG X.K C) (na : NoAttr X.K C f) (l : fs.lookup f = some v) (h : ∀ u s', Inv X pins σ H s' → RelV v u → Q u s') : wpAny (model X.prog X.w) A (getAttr (.ref a) f b) Q E s := by
  obtain ⟨vs, he, _, _⟩ := ext_at I.hok e
  obtain ⟨mA, ns, r⟩ := (show ObjOk X.prog X.w H s.heap dx (.xd fs) from I.hok dx _ ed)
  obtain ⟨od, ho, hl⟩ := lookIn_ns ns
  obtain ⟨u, hu, ru⟩ := RelO.some_of (v := v) (o := mA f) (by rw [← l]; exact r f)
  exact exc_getattr I.kIn ⟨he, rfl, rfl, ho⟩ c.ga c.hk c.mro (PySem.W.findObj_own c.hd na rfl (by rw [hl, hu])) (handed_of ru) (h u _ (I.tok _) ru)
def tFldX (K : PySem.W.Frag) (ta : TE) (f : Str) : TE := fun σ H Q => ta σ H fun x H1 => ∃ a C dx n fs v, x = .ref a ∧ H1 a = some (.ext (excP a C (some dx) n)) ∧ H1 dx = some (.xd fs) ∧ ExcG K C ∧ NoAttr K C f ∧ fs.lookup f = some v ∧ Q v H1
theorem pe_fldX (he : PE X e ta) (hb : attributeBase e f X.env (eval e X.env) = eval e X.env) : PE X (.Attribute e f pos) (tFldX X.K ta f) := by
  intro pins s σ H Q I h
  refine attr_of hb (thn (he pins s σ H _ I h) fun u s1 ⟨x, H1, I1, rx, a, C, dx, n, fs, v, ex, ea, ed, c, na, l, q⟩ => ?_)
  subst ex
  obtain rfl : u = Value.ref a := rx
  exact getattr_x I1 ea ed c na l fun u' s2 I2 ru => ⟨v, H1, I2, ru, q⟩
end
end L2

/-! ### raise, and how an exception passes a def -/
namespace L2
open PySem PySem.Spec PyProof.Rows
/-- an exception behind a call: tracked, of its class, its dict; the newest entry of its trace is young and tracked nowhere -/
def CX1 (P : Program) (w : World) : CXT := fun outer H s E e s' => ∃ (a C : Addr) (dd : Option Addr) (T : Addr) (oe : Obj) (H' : Hp), e = .ref a ∧ s'.os = s.os ∧ AllBare s'.gens ∧ Un (frs outer) [] H H' s.heap s'.heap ∧ HOk P w H' s'.heap ∧
  H' a = some (.ext (excP a C dd false)) ∧ Fly s'.heap a T oe ∧ H' T = none ∧ s.heap.objs.size ≤ T ∧ E (.ref C) dd H'
/-- an exception at hand: not in flight yet, or with a young entry -/
def Flies (X : Cx) (pins : List (Addr × Obj)) (H : Hp) (h : Heap) (a : Addr) : Prop := (∃ oe vs, h.get? a = some oe ∧ oe.data = .fields vs ∧ vs[1]? = some .none) ∨ ∃ T oe, Fly h a T oe ∧ H T = none ∧ X.s₀.heap.objs.size ≤ T ∧ ∀ p ∈ X.pn ++ pins, p.1 ≠ T
section
variable {X : Cx} {pins : List (Addr × Obj)} {σ : St} {H : Hp} {s : Shared} {a C : Addr} {dd : Option Addr} {n : Bool} {E : XK}
/-- it leaves the def -/
theorem leave_def (I : Inv X pins σ H s) (hst : X.stack = X.env :: X.outer) (hfr : X.env.frame = some X.env.locals) (hex : X.ex = []) (e : H a = some (.ext (excP a C dd n))) (fl : Flies X pins H s.heap a) (q : E (.ref C) dd (upd H a (.ext (excP a C dd false)))) {Ex : Value → Shared → Prop} :
    wpAny (model X.prog X.w) X.A (leaving X.env (.ref a)) (fun _ s'' => CX1 X.prog X.w X.outer X.H₀ X.s₀ E (.ref a) s'') Ex s := by
  obtain ⟨vs, he, hv, hn⟩ := ext_at I.hok e
  have hfs : X.A.frames = some (X.env :: X.outer) := by rw [← hst]; exact I.ok.frames
  have hl : s.heap.FunFrames X.base (X.env :: X.outer) := by rw [← hst]; exact I.stack
  have frames0 : ∀ b ∈ (X.env :: X.outer).filterMap (·.frame), H b = none := fun b hb => I.stkFree b (by rw [hst]; exact hb)
  have mem : ∀ b, b ∈ (X.env :: X.outer).filterMap (·.frame) → b = X.env.locals ∨ b ∈ X.fs := fun b hb => by
    rw [List.filterMap_cons, hfr] at hb
    rcases List.mem_cons.mp hb with z | z
    · exact .inl z
    · exact .inr z
  -- what stands behind it
  have fin : ∀ (h' : Heap) (T T' : Addr), (X.s₀.heap.objs.size ≤ T ∨ T = a) → (H T = none ∨ T = a) → s.heap.objs.size ≤ T' → Fly h' a T' (({ cls := .ref C, dict := dd, data := .fields vs } : Obj).mapFields (·.setIfInBounds 1 (.ref T'))) →
      (∀ b o, b ≠ a → b ≠ T → b ∉ (X.env :: X.outer).filterMap (·.frame) → s.heap.get? b = some o → h'.get? b = some o) → (∀ b o, b ≠ a → b ≠ T → s.heap.get? b = some o → ∃ sl, h'.get? b = some { o with slots := sl }) →
      CX1 X.prog X.w X.outer X.H₀ X.s₀ E (.ref a) { s with heap := h' } := by
    intro h' T T' hT1 hT2 hT' f k1 k2
    have hT'n : H T' = none := I.hok.fresh hT'
    have ha' : ∀ b, H b = none → b ≠ a := fun b z z' => by rw [z', e] at z; cases z
    have old : ∀ b o, X.s₀.heap.get? b = some o → b ≠ T ∨ T = a := fun b o z => by
      rcases hT1 with y | y
      · exact .inl fun z' => absurd (Nat.lt_of_lt_of_le (Heap.lt_size z) (by rw [z']; exact y)) (Nat.lt_irrefl _)
      · exact .inr y
    refine ⟨a, C, dd, T', _, upd H a (.ext (excP a C dd false)), rfl, I.os, I.bare, ⟨fun b o z z0 hb _ => ?_, fun b o z z0 hb _ => ?_, fun b o z z0 _ => ?_, fun b o z _ => ?_, fun b xs z => ?_, fun b o u z => ?_, fun b ps z => ?_⟩, fun b u z => ?_, upd_same, f, ?_, Nat.le_trans I.sz hT', q⟩
    · have hx : b ∉ X.ex := by rw [hex]; simp
      have g := I.base.keep b o z z0 hb hx
      have g0 := I.base.free b o z z0 hx
      refine k1 b o (ha' b g0) ?_ (fun hm => ?_) g
      · rcases old b o z with y | y
        · exact y
        · rw [y]; exact ha' b g0
      · rcases mem b hm with y | y
        · exact absurd (Nat.lt_of_lt_of_le (Heap.lt_size z) (by rw [y]; exact I.ok.above)) (Nat.lt_irrefl _)
        · exact hb y
    · have hx : b ∉ X.ex := by rw [hex]; simp
      obtain ⟨sl, g⟩ := I.base.slot b o z z0 hb hx
      have g0 := I.base.free b o z z0 hx
      obtain ⟨sl', g'⟩ := k2 b _ (ha' b g0) (by
        rcases old b o z with y | y
        · exact y
        · rw [y]; exact ha' b g0) g
      exact ⟨sl', g'⟩
    · have hx : b ∉ X.ex := by rw [hex]; simp
      have g0 := I.base.free b o z z0 hx
      rw [upd_ne (ha' b g0)]
      exact g0
    · have hx : b ∉ X.ex := by rw [hex]; simp
      obtain ⟨o', g⟩ := I.base.there b o z hx
      by_cases hba : b = a
      · rw [hba]; exact ⟨_, f.at_⟩
      · by_cases hbT : b = T
        · rcases old b o z with y | y
          · exact absurd hbT y
          · exact absurd (hbT.trans y) hba
        · obtain ⟨sl, g'⟩ := k2 b o' hba hbT g
          exact ⟨_, g'⟩
    · have g := I.base.tups b xs z
      rw [upd_ne (fun y => by rw [y, e] at g; cases g)]
      exact g
    · have g := I.base.frzs b o u z
      rw [upd_ne (fun y => by rw [y, e] at g; cases g)]
      exact g
    · obtain ⟨more, g⟩ := I.base.tbls b ps z
      refine ⟨more, ?_⟩
      rw [upd_ne (fun y => by rw [y, e] at g; cases g)]
      exact g
    · by_cases hb : b = a
      · subst hb
        rw [upd_same] at z
        cases z
        exact ext_ok ⟨_, f.at_, by simp [hv], fun y => nomatch y⟩
      · rw [upd_ne hb] at z
        have notF : ∀ c u', H c = some u' → c ∉ (X.env :: X.outer).filterMap (·.frame) := fun c u' y hm => by rw [frames0 c hm] at y; cases y
        have notT : ∀ c u', c ≠ a → H c = some u' → c ≠ T := fun c u' ya y y' => by
          rcases hT2 with t | t
          · rw [y', t] at y; cases y
          · exact ya (y'.trans t)
        refine (I.hok b u z).stay (fun c v hc y => ?_) (fun c y => ?_) fun c ys y => ?_
        · rcases hc with y' | y'
          · subst y'
            exact k1 c v hb (notT c u hb z) (notF c u z) y
          · have hca : c ≠ a := fun w' => by rw [w', e] at y'; cases y'
            exact k1 c v hca (notT c _ hca y') (notF c _ y') y
        · rw [upd_ne (fun w' => by rw [w', e] at y; cases y)]; exact y
        · rw [upd_ne (fun w' => by rw [w', e] at y; cases y)]; exact y
    · rw [upd_ne (ha' _ hT'n)]
      exact hT'n
  rcases fl with ⟨oe, vs', h1, h2, h3⟩ | ⟨T, oe, f, hT0, hT, _⟩
  · rw [he] at h1
    cases h1
    cases h2
    refine leave_first (base := X.base) hfs hl hfr he rfl h3 fun h' T' hT' f k1 k2 => fin h' a T' (.inr rfl) (.inr rfl) hT' f (fun b o hb _ hf g => k1 b o hb hf g) (fun b o hb _ g => k2 b o hb g)
  · have hoe : oe = { cls := .ref C, dict := dd, data := .fields vs } := by
      have := f.at_
      rw [he] at this
      cases this
      rfl
    subst hoe
    refine leave_next (base := X.base) hfs hl hfr f fun h' T' hT' f' k1 k2 => fin h' T T' (.inl hT) (.inl hT0) hT' f' k1 k2
/-- from a callee through this def -/
theorem after_exc {e : Value} {s' : Shared} (I : Inv X pins σ H s) (h : CX1 X.prog X.w X.stack H s E e s') : ∃ (a C : Addr) (dd : Option Addr) (H' : Hp), e = .ref a ∧ Inv X pins σ H' s' ∧ H' a = some (.ext (excP a C dd false)) ∧ Flies X pins H' s'.heap a ∧ E (.ref C) dd H' := by
  obtain ⟨a, C, dd, T, oe, H', rfl, os, bare, un, hok, ea, f, hT, hTs, q⟩ := h
  exact ⟨a, C, dd, H', rfl, I.call' os un hok bare (fun b z => absurd z (by simp)), ea, .inr ⟨T, oe, f, hT, Nat.le_trans I.sz hTs, fun p hp z => absurd (Nat.lt_of_lt_of_le (Heap.lt_size (I.pin p hp).1) (by rw [z]; exact hTs)) (Nat.lt_irrefl _)⟩, q⟩
end
/-! ### raise C(..) -/
section
variable {M : Model} {A : Around} {E : Value → Shared → Prop} {env : Env}
variable {nm q : Str} {C N : Addr} {bs bm : List Value} {hdct : Bool} {sn : List Str} {sub : List Value} {ab : Bool} {col : Option Bool} {dd : Option Addr} {k0 k1 k2 k3 k5 : Option Value} {newId : String}
theorem exc_raiseStmt {s : Shared} {x : Sem Value} {Q : Flow → Shared → Prop} (hh : A.handled = none)
    (h : wpAny M A x (fun v s₁ => ∃ (e C N : Addr) (de : Option Addr) (vs : Array Value) (nm q : Str) (bs bm : List Value) (hdct : Bool) (sn : List Str) (sub : List Value) (ab : Bool) (col : Option Bool) (dd : Option Addr) (k0 k1 k2 k3 k5 : Option Value), v = .ref e ∧ s₁.heap.get? C = some (excClassObj nm q C N bs bm hdct sn sub ab col dd k0 k1 k2 k3 k5 "ValueError.__new__") ∧ bm.contains (.type "BaseException") = true ∧
      s₁.heap.get? e = some { cls := .ref C, dict := de, data := .fields vs } ∧ vs[1]? = some .none ∧ E (.ref e) s₁) E s) :
    wpAny M A (raiseStmt env (some x) none) Q E s := by
  unfold raiseStmt
  refine wpAny_bind (wpAny_mono h (fun v s₁ h₁ => ?_) fun _ _ x => x)
  obtain ⟨e, C, N, de, vs, nm, q, bs, bm, hdct, sn, sub, ab, col, dd, k0, k1, k2, k3, k5, rfl, hC, hbase, he, h1, hE⟩ := h₁
  have hcB : (Value.ref C :: bm).contains (.type "BaseException") = true := by rw [List.contains_cons, hbase, Bool.or_true]
  obtain ⟨hp, g, d, tk, os⟩ := s₁
  repeat (first | with_reducible refine wpAny_loadPart_at he ?_ | with_reducible refine wpAny_field he rfl h1 ?_ | with_reducible refine wpAny_loadPart_at hC ?_ | (with_reducible refine wpAny_isSubtype_exc hC ?_; rw [hcB]) | wp_step)
  exact wpAny_raiseNew_none hh hE
end
section
variable {X : Cx} {e : Expr} {pos : Pos} {t : TE} {E : XK}
def sRaise (K : PySem.W.Frag) (E : XK) (t : TE) : TS := fun _ σ H => t σ H fun v H1 => ∃ a C dd, v = .ref a ∧ H1 a = some (.ext (excP a C dd true)) ∧ ExcC K C ∧ E (.ref C) dd (upd H1 a (.ext (excP a C dd false)))
/-- what is wanted of an exception, in a body: any that is at hand and as E wishes -/
def Wants (X : Cx) (E : XK) : Prop := ∀ (pins : List (Addr × Obj)) (σ : St) (H : Hp) (s : Shared) (a C : Addr) (dd : Option Addr) (n : Bool), Inv X pins σ H s → H a = some (.ext (excP a C dd n)) → Flies X pins H s.heap a → E (.ref C) dd (upd H a (.ext (excP a C dd false))) → X.xe (.ref a) s
theorem ps_raise (hc : X.calm = true) (hw : Wants X E) (he : PE X e t) : PS X (.Raise (some e) none pos) (sRaise X.K E t) := by
  intro pins s σ H D I h
  rw [arm_exec_Raise]
  have key : wpAny (model X.prog X.w) X.A (do let v ← eval e X.env; standAt pos; pure v) (fun v s₁ => ∃ (e C N : Addr) (de : Option Addr) (vs : Array Value) (nm q : Str) (bs bm : List Value) (hdct : Bool) (sn : List Str) (sub : List Value) (ab : Bool) (col : Option Bool) (dd : Option Addr) (k0 k1 k2 k3 k5 : Option Value), v = .ref e ∧ s₁.heap.get? C = some (excClassObj nm q C N bs bm hdct sn sub ab col dd k0 k1 k2 k3 k5 "ValueError.__new__") ∧ bm.contains (.type "BaseException") = true ∧
      s₁.heap.get? e = some { cls := .ref C, dict := de, data := .fields vs } ∧ vs[1]? = some .none ∧ X.xe (.ref e) s₁) X.xe s := by
    refine wpAny_bind (thn (he pins s σ H _ I h) fun u s1 ⟨v, H1, I1, r1, a, C, dd, ev, ea, c, q⟩ => ?_)
    subst ev
    obtain rfl : u = Value.ref a := r1
    refine wpAny_bind (wpAny_standAt (wpAny_pure ?_))
    obtain ⟨nm, q', N, bs, bm, hdct, sn, sub, ab, col, dd', k0, k1, k2, k3, k5, lk, T⟩ := c.obj
    obtain ⟨vs, hea, hv, hn⟩ := ext_at I1.hok ea
    exact ⟨a, C, N, dd, vs, nm, q', bs, bm, hdct, sn, sub, ab, col, dd', k0, k1, k2, k3, k5, rfl, I1.kIn _ _ lk, T.hasBase, hea, hn rfl, hw pins σ H1 s1 a C dd true I1 ea (.inl ⟨_, vs, hea, rfl, hn rfl⟩) q⟩
  first
    | exact wpAny_bind (wpAny_standAt (exc_raiseStmt (I.ok.hd hc) key))
    | (simp only [evalOpt, Option.map]; exact wpAny_bind (wpAny_standAt (exc_raiseStmt (I.ok.hd hc) key)))
    | (show wpAny _ _ (do standAt pos; raiseStmt X.env (some (do let v ← eval e X.env; standAt pos; pure v)) none) _ _ s; exact wpAny_bind (wpAny_standAt (exc_raiseStmt (I.ok.hd hc) key)))
/-- a callee's exception, by the same wish -/
theorem passes_of (hw : Wants X E) (hst : True) : Passes (CX1 X.prog X.w) X E := by
  intro pins σ H s e s' I h
  obtain ⟨a, C, dd, H', rfl, I', ea, fl, q⟩ := after_exc I h
  refine hw pins σ H' s' a C dd false I' ea fl ?_
  rw [upd_self ea]
  exact q
end
/-- of a def's body: what leaves it is as its own promise wishes -/
theorem wants_def {P : Program} {w : World} {K : PySem.W.Frag} {mg : Str → Option Value} {base : Heap} {N : List Str} {qual : Str} {scope : Scope} {f : Addr} {cd : Value} {A : Around} {outer : List Env} {s : Shared} {H : Hp} {E : XK}
    (hfr : (envOfC qual scope s.heap.objs.size f cd).frame = some s.heap.objs.size := by rfl) : Wants (cxOf (CX1 P w) P w K mg base N qual scope f cd A outer s H E) E := by
  intro pins σ H1 s1 a C dd n I ea fl q
  exact leave_def I rfl hfr rfl ea fl q
end L2

/-! ### try .. except C as n -/
namespace L2
open PySem PySem.Spec PyProof.Rows
section
variable {M : Model} {A : Around} {E : Value → Shared → Prop} {s : Shared}
theorem note_first {base : Heap} {env : Env} {outer : List Env} {L e : Addr} {oe : Obj} {vs : Array Value} {Q : Unit → Shared → Prop}
    (hfr : A.frames = some (env :: outer)) (hl : s.heap.FunFrames base (env :: outer)) (hf : env.frame = some L)
    (he : s.heap.get? e = some oe) (hd : oe.data = .fields vs) (h1 : vs[1]? = some .none)
    (h : ∀ h' T, s.heap.objs.size ≤ T → Fly h' e T (oe.mapFields (·.setIfInBounds 1 (.ref T))) → (∀ b o, b ≠ e → b ∉ (env :: outer).filterMap (·.frame) → s.heap.get? b = some o → h'.get? b = some o) →
      (∀ b o, b ≠ e → s.heap.get? b = some o → ∃ sl, h'.get? b = some { o with slots := sl }) → Q () { s with heap := h' }) : wpAny M A (noteFrame (.ref e) env) (fun _ s' => wpAny M A (setFlight (.ref e) none) Q E s') E s := by
  unfold noteFrame
  simp only [hf]
  refine wpAny_bind (wpAny_field he hd h1 ?_)
  rw [if_neg (by decide)]
  exact new_entry hfr hl hf he hd (Array.getElem?_eq_some_iff.mp h1).1 h
theorem note_next {base : Heap} {env : Env} {outer : List Env} {L e T : Addr} {oe : Obj} {Q : Unit → Shared → Prop}
    (hfr : A.frames = some (env :: outer)) (hl : s.heap.FunFrames base (env :: outer)) (hf : env.frame = some L) (ht : Fly s.heap e T oe)
    (h : ∀ h' T', s.heap.objs.size ≤ T' → Fly h' e T' (oe.mapFields (·.setIfInBounds 1 (.ref T'))) → (∀ b o, b ≠ e → b ≠ T → b ∉ (env :: outer).filterMap (·.frame) → s.heap.get? b = some o → h'.get? b = some o) →
      (∀ b o, b ≠ e → b ≠ T → s.heap.get? b = some o → ∃ sl, h'.get? b = some { o with slots := sl }) → Q () { s with heap := h' }) : wpAny M A (noteFrame (.ref e) env) (fun _ s' => wpAny M A (setFlight (.ref e) none) Q E s') E s := by
  obtain ⟨he, ⟨vs, hd, h1⟩, hTe, oT, ts, hT, hdT, h3⟩ := ht
  unfold noteFrame
  simp only [hf]
  refine wpAny_bind (wpAny_field he hd h1 ?_)
  rw [if_pos (show (Value.ref T != Value.none) = true from by simp)]
  refine wpAny_bind (wpAny_field hT hdT h3 ?_)
  rw [if_neg (show ¬ ((Value.none == rawInt L) = true) from by simp [rawInt])]
  refine wpAny_bind (wpAny_setField hT hdT (Array.getElem?_eq_some_iff.mp h3).1 ?_)
  have other : ∀ b, b ≠ T → (s.heap.update T (Obj.mapFields (·.setIfInBounds 3 Value.none))).get? b = s.heap.get? b := fun b hb => Heap.get?_update_other _ _ (Ne.symm hb)
  have noRecord : ∀ b o, s.heap.get? b = some o → (∀ vs, o.data ≠ .fields vs) → b ≠ T := fun b o hb hnf q => by
    rw [q, hT] at hb; injection hb with hb; subst hb; exact hnf ts hdT
  refine new_entry hfr (hl.of_keeps fun b o hb hnf => ⟨o, (other b (noRecord b o hb hnf)).trans hb, rfl⟩) hf ((other e (Ne.symm hTe)).trans he) hd (Array.getElem?_eq_some_iff.mp h1).1
    fun h' T' hn fl k1 k2 => h h' T' ?_ fl (fun b o hbe hbT hbf hb => k1 b o hbe hbf ((other b hbT).trans hb)) fun b o hbe hbT hb => k2 b o hbe ((other b hbT).trans hb)
  have hn' : (s.heap.update T (Obj.mapFields (·.setIfInBounds 3 Value.none))).objs.size ≤ T' := hn
  rw [Heap.size_after_update] at hn'
  exact hn'
end
/-- it is held here: its newest entry T' -/
structure Held (X : Cx) (pins : List (Addr × Obj)) (H : Hp) (h : Heap) (a T : Addr) : Prop where
  fly : ∃ oe, Fly h a T oe
  no : H T = none
  young : X.s₀.heap.objs.size ≤ T
  pin : ∀ p ∈ X.pn ++ pins, p.1 ≠ T
section
variable {X : Cx} {pins : List (Addr × Obj)} {σ : St} {H : Hp} {s : Shared} {a C : Addr} {dd : Option Addr} {n : Bool}
/-- the trace's entries and the frames' slots changed -/
theorem Inv.noted {h' : Heap} {T T' : Addr} {vs : Array Value} (I : Inv X pins σ H s) (hst : X.stack = X.env :: X.outer) (hfr : X.env.frame = some X.env.locals) (e : H a = some (.ext (excP a C dd n))) (hv : vs.size = 6)
    (hT : T = a ∨ (H T = none ∧ X.s₀.heap.objs.size ≤ T ∧ (∀ p ∈ X.pn ++ pins, p.1 ≠ T) ∧ ∃ oT ts, s.heap.get? T = some oT ∧ oT.data = .fields ts)) (he : h'.get? a = some { cls := .ref C, dict := dd, data := .fields vs })
    (k1 : ∀ b o, b ≠ a → b ≠ T → b ∉ (X.env :: X.outer).filterMap (·.frame) → s.heap.get? b = some o → h'.get? b = some o) (k2 : ∀ b o, b ≠ a → b ≠ T → s.heap.get? b = some o → ∃ sl, h'.get? b = some { o with slots := sl }) :
    Inv X pins σ (upd H a (.ext (excP a C dd false))) { s with heap := h' } := by
  have frames0 : ∀ b ∈ (X.env :: X.outer).filterMap (·.frame), H b = none := fun b hb => I.stkFree b (by rw [hst]; exact hb)
  have mem : ∀ b, b ∈ (X.env :: X.outer).filterMap (·.frame) → b = X.env.locals ∨ b ∈ X.fs := fun b hb => by
    rw [List.filterMap_cons, hfr] at hb
    rcases List.mem_cons.mp hb with z | z
    · exact .inl z
    · exact .inr z
  have ha' : ∀ b, H b = none → b ≠ a := fun b z z' => by rw [z', e] at z; cases z
  obtain ⟨m0, ⟨oL, esL, epL, hL, hdL, rL⟩, _⟩ := id I.loc
  have LT : X.env.locals ≠ T := fun z => by
    rcases hT with y | ⟨_, _, _, oT, ts, g1, g2⟩
    · exact ha' _ I.free (z.trans y)
    · rw [z, g1] at hL; cases hL; rw [g2] at hdL; cases hdL
  have chT : ∀ b, b ∉ (if T = a then [] else [T] : List Addr) → b ≠ a → b ≠ T := fun b hb hba z => by
    by_cases hTa : T = a
    · exact hba (z.trans hTa)
    · rw [if_neg hTa] at hb
      exact hb (by rw [z]; simp)
  refine I.step (g' := s.gens) (t' := s.toks) (d' := s.drawn) (ch := if T = a then [] else [T]) (fun b hb => ?_) (fun b o hbL hbf hc q z => k1 b o (ha' b z) (chT b hc (ha' b z)) (fun hm => (mem b hm).elim hbL hbf) q) (fun b o _ _ hc q z => k2 b o (ha' b z) (chT b hc (ha' b z)) q)
    (fun b o _ q z => by rw [upd_ne (ha' b z)]; exact z) (fun b o hc q => ?_) (fun b xs z => ?_) (fun b o u z => ?_) (fun b ps z => ⟨#[], ?_⟩) (fun m hm => ?_) (fun b u z => ?_) I.bare
  · by_cases hTa : T = a
    · rw [if_pos hTa] at hb; cases hb
    · rw [if_neg hTa] at hb
      have hb : b = T := by simpa using hb
      subst hb
      rcases hT with y | ⟨g0, g1, g2, oT, ts, g3, g4⟩
      · exact absurd y hTa
      · refine ⟨.inr g1, Ne.symm LT, fun x c q z => ?_, g2⟩
        obtain ⟨v, o, ho, hd⟩ := I.cell x c q
        rw [z, g3] at ho; cases ho; rw [g4] at hd; cases hd
  · by_cases hba : b = a
    · rw [hba]; exact ⟨_, he⟩
    · obtain ⟨sl, g⟩ := k2 b o hba (chT b hc hba) q
      exact ⟨_, g⟩
  · rw [upd_ne (fun y => by rw [y, e] at z; cases z)]; exact z
  · rw [upd_ne (fun y => by rw [y, e] at z; cases z)]; exact z
  · rw [upd_ne (fun y => by rw [y, e] at z; cases z), z]; simp
  · obtain ⟨o, es, ep, q, hd, r⟩ := hm
    obtain ⟨sl, g⟩ := k2 _ o (ha' _ I.free) LT q
    exact ⟨_, es, ep, g, hd, r⟩
  · by_cases hb : b = a
    · subst hb
      rw [upd_same] at z
      cases z
      exact ext_ok ⟨vs, he, hv, fun y => nomatch y⟩
    · rw [upd_ne hb] at z
      have notF : ∀ c u', H c = some u' → c ∉ (X.env :: X.outer).filterMap (·.frame) := fun c u' y hm => by rw [frames0 c hm] at y; cases y
      have notT : ∀ c u', c ≠ a → H c = some u' → c ≠ T := fun c u' ya y y' => by
        rcases hT with t | ⟨t, _⟩
        · exact ya (y'.trans t)
        · rw [y', t] at y; cases y
      refine (I.hok b u z).stay (fun c v hc y => ?_) (fun c y => ?_) fun c ys y => ?_
      · rcases hc with y' | y'
        · subst y'
          exact k1 c v hb (notT c u hb z) (notF c u z) y
        · have hca : c ≠ a := fun w' => by rw [w', e] at y'; cases y'
          exact k1 c v hca (notT c _ hca y') (notF c _ y') y
      · rw [upd_ne (fun w' => by rw [w', e] at y; cases y)]; exact y
      · rw [upd_ne (fun w' => by rw [w', e] at y; cases y)]; exact y
/-- a frame notes it, and it is held -/
theorem note_held {M : Model} {E : Value → Shared → Prop} {Q : Unit → Shared → Prop} (I : Inv X pins σ H s) (hst : X.stack = X.env :: X.outer) (hfr : X.env.frame = some X.env.locals) (e : H a = some (.ext (excP a C dd n))) (fl : Flies X pins H s.heap a)
    (h : ∀ s' T, Inv X pins σ (upd H a (.ext (excP a C dd false))) s' → Held X pins (upd H a (.ext (excP a C dd false))) s'.heap a T → Q () s') :
    wpAny M X.A (noteFrame (.ref a) X.env) (fun _ s' => wpAny M X.A (setFlight (.ref a) none) Q E s') E s := by
  obtain ⟨vs, he, hv, hn⟩ := ext_at I.hok e
  have hfs : X.A.frames = some (X.env :: X.outer) := by rw [← hst]; exact I.ok.frames
  have hl : s.heap.FunFrames X.base (X.env :: X.outer) := by rw [← hst]; exact I.stack
  have ha' : ∀ b, H b = none → b ≠ a := fun b z z' => by rw [z', e] at z; cases z
  have hold : ∀ {h' : Heap} {T' : Addr} {oe : Obj}, s.heap.objs.size ≤ T' → Fly h' a T' oe → Held X pins (upd H a (.ext (excP a C dd false))) h' a T' := fun {h' T' oe} hT f =>
    ⟨⟨oe, f⟩, by rw [upd_ne (ha' _ (I.hok.fresh hT))]; exact I.hok.fresh hT, Nat.le_trans I.sz hT, fun p hp z => absurd (Nat.lt_of_lt_of_le (Heap.lt_size (I.pin p hp).1) (by rw [z]; exact hT)) (Nat.lt_irrefl _)⟩
  rcases fl with ⟨oe, vs', h1, h2, h3⟩ | ⟨T, oe, f, hT0, hT, hTp⟩
  · rw [he] at h1
    cases h1
    cases h2
    exact note_first (base := X.base) hfs hl hfr he rfl h3 fun h' T' hT' f k1 k2 => h _ T' (I.noted (vs := vs.setIfInBounds 1 (.ref T')) (T := a) (T' := T') hst hfr e (by simp [hv]) (.inl rfl) f.at_ (fun b o hb _ hf g => k1 b o hb hf g) fun b o hb _ g => k2 b o hb g) (hold hT' f)
  · have hoe : oe = { cls := .ref C, dict := dd, data := .fields vs } := by
      have := f.at_
      rw [he] at this
      cases this
      rfl
    subst hoe
    obtain ⟨oT, ts, g1, g2, _⟩ := f.tr
    exact note_next (base := X.base) hfs hl hfr f fun h' T' hT' f' k1 k2 => h _ T' (I.noted (vs := vs.setIfInBounds 1 (.ref T')) (T := T) (T' := T') hst hfr e (by simp [hv]) (.inr ⟨hT0, hT, hTp, oT, ts, g1, g2⟩) f'.at_ k1 k2) (hold hT' f')
end
end L2

namespace L2
open PySem PySem.Spec PyProof.Rows
section
variable {X : Cx} {pins : List (Addr × Obj)} {σ : St} {H : Hp} {s : Shared} {a T : Addr}
/-- within an except's suite -/
abbrev Cx.inExc (X : Cx) (a : Addr) (E : Value → Shared → Prop) : Cx := { X with A := X.A.mark (some (.ref a)), calm := false, xe := E }
theorem Inv.inExc (I : Inv X pins σ H s) (a : Addr) (E : Value → Shared → Prop) : Inv (X.inExc a E) pins σ H s :=
  ⟨⟨I.ok.mod, I.ok.kind, I.ok.glob, I.ok.blt, I.ok.above, I.ok.inj, I.ok.has, I.ok.cab, (fun z => nomatch z), I.ok.frames, I.ok.stk, I.ok.exf, I.ok.bs, I.ok.bsz, I.ok.noex, I.ok.exfs, I.ok.funs, I.ok.frf⟩, I.os, I.bare, I.base, I.loc, I.cell, I.free, I.freeC, I.pin, I.hok, I.len⟩
theorem Inv.outExc {E : Value → Shared → Prop} (ok : X.Ok) (I : Inv (X.inExc a E) pins σ H s) : Inv X pins σ H s := ⟨ok, I.os, I.bare, I.base, I.loc, I.cell, I.free, I.freeC, I.pin, I.hok, I.len⟩
/-- more pins that every state bears -/
abbrev Cx.pinned (X : Cx) (pn : List (Addr × Obj)) (E : Value → Shared → Prop) : Cx := { X with pn := X.pn ++ pn, xe := E }
theorem Inv.toPinned (I : Inv X pins σ H s) (E : Value → Shared → Prop) : Inv (X.pinned pins E) [] σ H s :=
  ⟨⟨I.ok.mod, I.ok.kind, I.ok.glob, I.ok.blt, I.ok.above, I.ok.inj, I.ok.has, I.ok.cab, I.ok.hd, I.ok.frames, I.ok.stk, I.ok.exf, I.ok.bs, I.ok.bsz, I.ok.noex, I.ok.exfs, I.ok.funs, I.ok.frf⟩, I.os, I.bare, I.base, I.loc, I.cell, I.free, I.freeC, fun p hp => I.pin p (by simpa using hp), I.hok, I.len⟩
theorem Inv.ofPinned {E : Value → Shared → Prop} {pins' : List (Addr × Obj)} (ok : X.Ok) (I : Inv (X.pinned pins E) pins' σ H s) : Inv X pins σ H s :=
  ⟨ok, I.os, I.bare, I.base, I.loc, I.cell, I.free, I.freeC, fun p hp => I.pin p (List.mem_append_left _ hp), I.hok, I.len⟩
/-- a name is unbound -/
theorem Inv.unbound {h' : Heap} {t' i : Nat} {x : Str} {u : Option Value} {m : Str → Option Value} (I : Inv X pins σ H s) (hN : X.N.Nodup) (hi : X.N[i]? = some x) (hm : s.heap.Ns X.env.locals m) (hn : h'.Ns X.env.locals (fun y => if y = x then u else m y)) (sb : Heap.SameBut X.env.locals s.heap h') :
    Inv X pins (σ.set i none) H { s with heap := h', toks := t' } := by
  have old : ∀ b o, X.s₀.heap.get? b = some o → b ≠ X.env.locals := fun b o q z => absurd (Nat.lt_of_lt_of_le (Heap.lt_size q) (by rw [z]; exact I.ok.above)) (Nat.lt_irrefl _)
  have loc0 := I.free
  refine ⟨I.ok, I.os, I.bare, ⟨fun b o q z hb hx => ?_, fun b o q z hb hx => ?_, I.base.free, fun b o q hx => ?_, I.base.tups, I.base.frzs, I.base.tbls⟩, ⟨_, hn, fun j y v e1 e2 e3 => ?_⟩, fun y c q => ?_, I.free, I.freeC, fun p hp => ?_, fun b o q => ?_, ?_⟩
  · exact (sb.2 b (old b o q)).trans (I.base.keep b o q z hb hx)
  · obtain ⟨sl, g⟩ := I.base.slot b o q z hb hx
    exact ⟨sl, (sb.2 b (old b o q)).trans g⟩
  · obtain ⟨o', g⟩ := I.base.there b o q hx
    exact ⟨o', (sb.2 b (old b o q)).trans g⟩
  · have hj : j ≠ i := fun z => by
      subst z
      by_cases hl : j < σ.length
      · rw [List.getElem?_set_self hl] at e2; cases e2
      · rw [List.getElem?_eq_none (by rw [List.length_set]; omega)] at e2; cases e2
    rw [List.getElem?_set_ne (Ne.symm hj)] at e2
    obtain ⟨m0, hm0, hl⟩ := I.loc
    obtain ⟨w', rw', lk⟩ := hl j y v e1 e2 e3
    have hyx : y ≠ x := fun z => by
      subst z
      have h1 := (List.getElem?_eq_some_iff.mp e1).1
      exact hj ((List.getElem?_inj h1 hN).mp (e1.trans hi.symm))
    refine ⟨w', rw', ?_⟩
    rcases lk with ⟨k1, k2⟩ | ⟨k1, c, k2, k3⟩
    · refine .inl ⟨k1, ?_⟩
      dsimp only
      rw [if_neg hyx, show m = m0 from (Heap.Ns.eq_nsMap hm).trans (Heap.Ns.eq_nsMap hm0).symm]
      exact k2
    · refine .inr ⟨k1, c, k2, ?_⟩
      obtain ⟨o, g1, g2⟩ := k3
      exact ⟨o, (sb.2 c (I.cne y c k2)).trans g1, g2⟩
  · obtain ⟨v, o, g1, g2⟩ := I.cell y c q
    exact ⟨v, o, (sb.2 c (I.cne y c q)).trans g1, g2⟩
  · obtain ⟨g1, g2, g3, g4⟩ := I.pin p hp
    exact ⟨(sb.2 p.1 g3).trans g1, g2, g3, g4⟩
  · refine (I.hok b o q).stay (fun c v hc g => (sb.2 c ?_).trans g) (fun _ g => g) fun _ _ g => g
    rcases hc with z | z
    · rw [z]; exact fun z' => by rw [z', loc0] at q; cases q
    · exact fun z' => by rw [z', loc0] at z; cases z
  · rw [List.length_set]; exact I.len
/-- what is held lands -/
theorem land_held {M : Model} {A : Around} {E : Value → Shared → Prop} {Q : Unit → Shared → Prop} (I : Inv X pins σ H s) (hd : Held X pins H s.heap a T) (h : ∀ s', Inv X pins σ H s' → Held X pins H s'.heap a T → Q () s') :
    wpAny M A (setFlight (.ref a) none) Q E s := by
  obtain ⟨⟨oe, he, ⟨vs, hdv, h1⟩, ne, oT, ts, hT, hdT, h3⟩, h0, hy, hp⟩ := hd
  have hsz : 3 < ts.size := (Array.getElem?_eq_some_iff.mp h3).1
  refine wpAny_setFlight_none he hdv h1 hT hdT hsz ?_
  obtain ⟨m0, ⟨oL, esL, epL, hL, hdL, rL⟩, _⟩ := id I.loc
  have LT : T ≠ X.env.locals := fun z => by rw [← z, hT] at hL; cases hL; rw [hdT] at hdL; cases hdL
  have I1 : Inv X pins σ H { s with heap := s.heap.update T (Obj.mapFields (·.setIfInBounds 3 .none)) } := I.turned (t' := s.toks) (fun b o hb q => by rw [Heap.get?_update_other _ _ (Ne.symm hb)]; exact q) h0 LT (.inr hy)
    (fun x c q z => by obtain ⟨v, o, ho, hd⟩ := I.cell x c q; rw [z, hT] at ho; cases ho; rw [hdT] at hd; cases hd) hp
  refine h _ I1 ⟨⟨oe, by show (s.heap.update T _).get? a = _; rw [Heap.get?_update_other _ _ ne]; exact he, ⟨vs, hdv, h1⟩, ne, _, _, Heap.get?_update_self _ hT (Obj.isFreed_of_fields (Obj.data_mapFields hdT _)), Obj.data_mapFields hdT _, by simp [hsz]⟩, h0, hy, hp⟩
end
section
variable {M : Model} {A : Around} {E : Value → Shared → Prop}
theorem exc_matches {h : Heap} {g : Array GenState} {d : Drawn} {t : Nat} {os : OsState} {e C D N N' : Addr} {oe : Obj} {nm q nm' q' : Str} {bs bm bs' bm' : List Value} {hdct hdct' : Bool} {sn sn' : List Str} {sub sub' : List Value} {ab ab' : Bool} {col col' : Option Bool} {dd dd' : Option Addr} {k0 k1 k2 k3 k5 j0 j1 j2 j3 j5 : Option Value} {i j : String} {Q : Bool → Shared → Prop}
    (hC : h.get? C = some (excClassObj nm q C N bs bm hdct sn sub ab col dd k0 k1 k2 k3 k5 i)) (hD : h.get? D = some (excClassObj nm' q' D N' bs' bm' hdct' sn' sub' ab' col' dd' j0 j1 j2 j3 j5 j)) (he : h.get? e = some oe) (hcls : oe.cls = .ref C) (hbase : bm'.contains (.type "BaseException") = true)
    (hin : (Value.ref C :: bm).contains (.ref D) = true) (hq : Q true ⟨h, g, d, t, os⟩) : wpAny M A (excMatches (.ref e) (.ref D)) Q E ⟨h, g, d, t, os⟩ := by
  have hcB : (Value.ref D :: bm').contains (.type "BaseException") = true := by rw [List.contains_cons, hbase, Bool.or_true]
  have f := tc_notTuple
  unfold excMatches
  repeat (first | (with_reducible refine wpAny_loadPart_at he ?_; rw [hcls]) | with_reducible refine wpAny_loadPart_at hD ?_ | (with_reducible refine wpAny_isSubtype_exc hD ?_; rw [hcB]) | (with_reducible refine wpAny_isSubtype_exc hC ?_; rw [hin]) | wp_step)
  exact hq
end
/-- the class at C is that at D, or under it -/
structure Under (K : PySem.W.Frag) (C D : Addr) : Prop where
  ex : ∃ nm q N bs bm hdct sn sub ab col dd k0 k1 k2 k3 k5 i, K.lookup C = some (excClassObj nm q C N bs bm hdct sn sub ab col dd k0 k1 k2 k3 k5 i) ∧ (Value.ref C :: bm).contains (.ref D) = true
section
variable {X : Cx} {body suite : List Stmt} {b0 : Stmt} {rest : List ExceptHandler} {c nm : Str} {cp hpos pos : Pos} {tb : XK → TS} {th : TS} {i : Nat} {D : Addr}
def endsAs (i : Nat) (D : Ends) : Ends where
  nx := fun σ H => D.nx (σ.set i none) H
  rt := D.rt
  bk := fun σ H => D.bk (σ.set i none) H
  ct := fun σ H => D.ct (σ.set i none) H
/-- what is caught: the suite is run behind it; of the names only the bound one is known -/
def eTry (K : PySem.W.Frag) (len : Nat) (D : Addr) (i : Nat) (th : TS) (Ds : Ends) : XK := fun Cv dd H => ∃ C, Cv = .ref C ∧ Under K C D ∧ ∀ (a : Addr) (σ : St), H a = some (.ext (excP a C dd false)) → σ.length = len → th (endsAs i Ds) (σ.set i (some (.ref a))) H
def sTry (K : PySem.W.Frag) (len : Nat) (D : Addr) (i : Nat) (tb : XK → TS) (th : TS) : TS := fun Ds σ H => tb (eTry K len D i th Ds) Ds σ H
theorem ps_tryAs (hst : X.stack = X.env :: X.outer) (hfr : X.env.frame = some X.env.locals) (hN : X.N.Nodup) (hi : X.N[i]? = some nm) (hloc : X.env.kindOf nm = some .local) (hg : Gl X c) (hm : X.mg c = some (.ref D)) (hD : ExcC X.K D)
    (hb : ∀ (E : XK) (pn : List (Addr × Obj)) (W : Value → Shared → Prop), Wants (X.pinned pn W) E → PSs (X.pinned pn W) body (tb E)) (hs : ∀ a, PSs (X.inExc a fun _ _ => False) (b0 :: suite) th) (hdb : (c == ("__debug__" : Str)) = false := by decide) :
    PS X (.Try body (.ExceptHandler (some (.Name c cp)) (some nm) (b0 :: suite) hpos :: rest) [] [] pos) (sTry X.K X.N.length D i tb th) := by
  intro pins s σ H Ds I h
  refine wpAny_Try_except ?_
  have hw : Wants (X.pinned pins fun e s₁ => wpAny (model X.prog X.w) X.A (noteFrame e X.env) (fun _ s₂ => wpAny (model X.prog X.w) X.A (setFlight e none) (fun _ s₃ => wpAny (model X.prog X.w) X.A (handleBy e X.env (.ExceptHandler (some (.Name c cp)) (some nm) (b0 :: suite) hpos :: rest)) (SP X pins Ds) X.xe s₃) X.xe s₂) X.xe s₁)
      (eTry X.K X.N.length D i th Ds) := by
    intro pins' σ' H' s' a C dd n I' ea fl q
    have J : Inv X pins σ' H' s' := I'.ofPinned I.ok
    have fl' : Flies X pins H' s'.heap a := by
      rcases fl with z | ⟨T, oe, f, z1, z2, z3⟩
      · exact .inl z
      · exact .inr ⟨T, oe, f, z1, z2, fun p hp => z3 p (List.mem_append_left _ hp)⟩
    obtain ⟨C', eC, un, q⟩ := q
    cases eC
    refine note_held J hst hfr ea fl' fun s2 T I2 held => ?_
    have ea2 : upd H' a (.ext (excP a C dd false)) a = some (.ext (excP a C dd false)) := upd_same
    obtain ⟨vs, he, hv, _⟩ := ext_at I2.hok ea2
    refine wpAny_handleBy_cons (codeAny_handlers_test ?_) (by intro q; cases q)
    refine ld_glob (I2.inExc a fun _ _ => False) hg hm ?_ hdb
    obtain ⟨nm1, q1, N1, bs1, bm1, hd1, sn1, sub1, ab1, col1, dd1, k0, k1, k2, k3, k5, i1, lk, hin⟩ := un.ex
    obtain ⟨nm2, q2, N2, bs2, bm2, hd2, sn2, sub2, ab2, col2, dd2, j0, j1, j2, j3, j5, lk2, T2⟩ := hD.obj
    have hC := I2.kIn _ _ lk
    have hDD := I2.kIn _ _ lk2
    obtain ⟨hp2, g2, d2, t2, os2⟩ := s2
    refine exc_matches hC hDD he rfl T2.hasBase hin ?_
    refine codeAny_handlers_suite_as ?_
    refine land_held I2 held fun s3 I3 held3 => ?_
    refine store_ok (X := X.inExc a fun _ _ => False) (I3.inExc a fun _ _ => False) hN hi (.inl hloc) (show RelV (.ref a) (.ref a) from rfl) (fun s4 I4 => ?_) (.inr hloc)
    refine wpAny_mono (hs a pins s4 _ _ (endsAs i Ds) I4 (q a σ' ea2 I3.len)) (fun f s5 z => ?_) fun _ _ z => z.elim
    have hcls : (X.env.scope.kind == .class || (X.env.scope.kind == .module && X.env.locals != X.env.globals)) = false := by rw [I.ok.kind]; rfl
    have goes : ∀ {σ5 : St} {H5 : Hp} {Q : Unit → Shared → Prop}, Inv X pins σ5 H5 s5 → (∀ s6, Inv X pins (σ5.set i none) H5 s6 → Q () s6) → wpAny (model X.prog X.w) X.A (do bindName X.env nm .none; unbindBehindTheSuite X.env nm hpos) Q X.xe s5 := fun {σ5 H5 Q} J5 hQ => by
      obtain ⟨m, hm5, _⟩ := id J5.loc
      exact wpAny_nameGoes_keeps hloc hm5 hcls fun h' v hn sb => hQ _ (J5.unbound (t' := s5.toks + 1) hN hi hm5 hn sb)
    cases f with
    | next => obtain ⟨σ5, H5, I5, q5⟩ := z; exact goes (I5.outExc I.ok) fun s6 I6 => ⟨_, _, I6, q5⟩
    | brk => obtain ⟨σ5, H5, I5, q5⟩ := z; exact goes (I5.outExc I.ok) fun s6 I6 => ⟨_, _, I6, q5⟩
    | cont => obtain ⟨σ5, H5, I5, q5⟩ := z; exact goes (I5.outExc I.ok) fun s6 I6 => ⟨_, _, I6, q5⟩
    | ret u => obtain ⟨v, σ5, H5, I5, r5, q5⟩ := z; exact goes (I5.outExc I.ok) fun s6 I6 => ⟨v, _, _, I6, r5, q5⟩
  refine wpAny_mono (hb _ pins _ hw [] s σ H Ds (I.toPinned _) h) (fun f s1 z => ?_) fun _ _ z => z
  cases f with
  | next => obtain ⟨σ', H', I', q⟩ := z; exact wpAny_execs_nil ⟨σ', H', I'.ofPinned I.ok, q⟩
  | brk => obtain ⟨σ', H', I', q⟩ := z; exact ⟨σ', H', I'.ofPinned I.ok, q⟩
  | cont => obtain ⟨σ', H', I', q⟩ := z; exact ⟨σ', H', I'.ofPinned I.ok, q⟩
  | ret u => obtain ⟨v, σ', H', I', r, q⟩ := z; exact ⟨v, σ', H', I'.ofPinned I.ok, r, q⟩
end
end L2
namespace L2
open PySem PySem.Spec PyProof.Rows
section
variable {P : Program} {w : World} {K : PySem.W.Frag} {mg : Str → Option Value} {base : Heap}
/-- a def that may raise, by its body -/
theorem Fun.okX {x qual : Str} {st : Stmt} {f : Addr} {fd : FuncData} {N ps : List Str} {k : Nat} {sp : Sp} (F : Fun K x qual st f fd) (S : FnScope N ps (defScope st)) (len : ∀ vs H Q E, sp vs H Q E → vs.length = ps.length)
    (hbody : ∀ (cdv : Value) (A : Around) (outer : List Env) (s : Shared) (H : Hp) (vs : List V) (Q : VK) (E : XK), Room k (A.deeper (envOfC qual (defScope st) s.heap.objs.size f cdv)) → sp vs H Q E →
      ∃ t, PSs (cxOf (CX1 P w) P w K mg base N qual (defScope st) f cdv A outer s H E) (defBody st) t ∧ t { nx := fun _ H' => Q .non H', rt := Q } (start N vs) H) : FnOk P w K mg base (CX1 P w) (k + 1) f fd ps sp := by
  obtain ⟨oc, od, kV, doc, pm, an, cdv, ct, osl, rfl, lk, hcd⟩ := F.ex
  exact fn_of lk hcd S len fun A outer s H vs Q E hr hsp => hbody cdv A outer s H vs Q E hr hsp
end
end L2

/-! ### texts: their methods, and the numbers that they write -/
namespace L2
open PySem PySem.Spec PyProof.Rows
section
variable {X : Cx}
def CDivW (i j : Int) : Prop := 0 < j ∧ j.natAbs.log2 < 9000
end
end L2

/-! ### numbers plainly written -/
namespace My
open PySem PySem.NumText PyProof.Rows L2
def figB (c : Nat) : Bool := decide (48 ≤ c) && decide (c ≤ 57)
def countL (l : List Nat) : Bool := decide (1 ≤ l.length) && decide (l.length ≤ 40) && !(decide (l.head? = some 48) && decide (l ≠ [48])) && l.all figB
def wholeL (l : List Nat) : Bool := if l.head? = some 45 then decide (l ≠ [45, 48]) && countL (l.drop 1) else countL l
def wholeVal (l : List Nat) : Int := if l.head? = some 45 then -((digitsVal (l.drop 1) : Nat) : Int) else ((digitsVal l : Nat) : Int)
end My

/-! ### texts in order, texts repeated, things compared whole, lists among lists, a tuple with a dict shown -/
namespace L2
open PySem PySem.Spec PySem.SeqAt PyProof.Rows
section
variable {X : Cx}
/-- x != y, of things that are known whole -/
theorem op_ne_dat (hu : X.A.units + 100 < cLine) : OpR X (compareOp .NotEq) (fun x y H Q => ∃ d e, Dat H x d ∧ Dat H y e ∧ shaped d = true ∧ shaped e = true ∧ noMix d e = true ∧ Q (.bl (!PySem.Spec.same d e)) H) := by
  intro pins s σ H x y v u Q I rx ry h
  obtain ⟨d, e, hd, he, s1, s2, m, q⟩ := h
  obtain ⟨⟨as, rd⟩, _⟩ := hd.reads I.hok rx
  obtain ⟨⟨bs, re⟩, _⟩ := he.reads I.hok ry
  exact ne_dataH_same rd re s1 s2 (by omega) m ⟨.bl _, H, I, rfl, q⟩
/-- an empty list, not among lists -/
def emB (H : Hp) : Value → Bool
  | .ref a => match H a with
    | some (.lst xs) => xs.isEmpty
    | _ => false
  | _ => false
/-- what is shown: a thing known whole, or a pair of a text and an empty dict -/
def DatD (H : Hp) (v : V) (d : PyData) : Prop := Dat H v d ∨ ∃ t a x, v = .ref t ∧ H t = some (.tup [.str x, .ref a]) ∧ H a = some (.dK []) ∧ d = .tuple [.str x, .dict []]
end
section
variable {X : Cx} {e : Expr} {f : Str} {pos : Pos} {ta : TE} {K : PySem.W.Frag}
/-- e.f, where what is known of the classes is named (within an except's suite) -/
theorem pe_fldXK (hK : X.K = K) (he : PE X e ta) (hb : attributeBase e f X.env (eval e X.env) = eval e X.env) : PE X (.Attribute e f pos) (tFldX K ta f) := by
  subst hK
  exact pe_fldX he hb
end
/-! ### words that the elaborator does not run (a def with a long list: the telescopes of PE, PA, PS, PSs cost 2^n there) -/
section
variable {X : Cx} {e : Expr} {es : List Expr} {st : Stmt} {sts : List Stmt} {te : TE} {ta : TA} {t u : TS}
structure PAm (X : Cx) (es : List Expr) (t : TA) : Prop where
  h : PA X es t
structure PEm (X : Cx) (e : Expr) (t : TE) : Prop where
  h : PE X e t
structure PSm (X : Cx) (st : Stmt) (t : TS) : Prop where
  h : PS X st t
structure PSsm (X : Cx) (sts : List Stmt) (t : TS) : Prop where
  h : PSs X sts t
theorem pam_nil : PAm X [] tNil := ⟨pa_nil⟩
theorem pam_cons (hs : ∀ (es : List Expr) (env : Env), starEach (e :: es) env = (false, eval e env) :: starEach es env) (ha : PE X e te) (hr : PAm X es ta) : PAm X (e :: es) (tCons te ta) := ⟨pa_cons ha hr.h (hs _ _)⟩
theorem pem_lst {pos : Pos} (h : PAm X es ta) : PEm X (.List es pos) (tLst ta) := ⟨pe_lst h.h⟩
theorem psm_set {i : Nat} {x : Str} {pos pos' : Pos} (hN : X.N.Nodup) (hi : X.N[i]? = some x) (hx : Loc X.env.scope x) (he : PEm X e te) (hs : swapsWith e (some (.Name x pos')) pos.line X.env = pure false) (hf : X.fn x = true ∨ X.env.scope.names.lookup x = some .local) :
    PSm X (.Assign [.Name x pos'] e pos) (tAsg te (gName i)) := ⟨ps_set hN hi hx he.h hs hf⟩
theorem pssm_cons (h1 : PSm X st t) (h2 : PSsm X sts u) : PSsm X (st :: sts) (tSeq t u) := ⟨pss_cons h1.h h2.h⟩
theorem pssm_one (h1 : PSm X st t) : PSsm X [st] t := ⟨pss_one h1.h⟩
end
section
variable {P : Program} {w : World} {K : PySem.W.Frag} {mg : Str → Option Value} {base : Heap}
theorem Fun.okM {x qual : Str} {st : Stmt} {f : Addr} {fd : FuncData} {N ps : List Str} {k : Nat} {sp : Sp} (F : Fun K x qual st f fd) (S : FnScope N ps (defScope st)) (len : ∀ vs H Q E, sp vs H Q E → vs.length = ps.length)
    (hbody : ∀ (cdv : Value) (A : Around) (outer : List Env) (s : Shared) (H : Hp) (vs : List V) (Q : VK) (E : XK), Room k (A.deeper (envOfC qual (defScope st) s.heap.objs.size f cdv)) → sp vs H Q E →
      ∃ t, PSsm (cxOf CX0 P w K mg base N qual (defScope st) f cdv A outer s H E).nox (defBody st) t ∧ t { nx := fun _ H' => Q .non H', rt := Q } (start N vs) H) : FnOk P w K mg base CX0 (k + 1) f fd ps sp :=
  F.ok S len fun cdv A outer s H vs Q E hr h => by
    obtain ⟨t, h, q⟩ := hbody cdv A outer s H vs Q E hr h
    exact ⟨t, h.h, q⟩
end
end L2

/-! ### isinstance of an own exception; list.count; a def called within an except's suite; a list with a dict shown -/
namespace L2
open PySem PySem.Spec PyProof.Rows PySem.Builtin.ObjectAttr
/-- what the fragment knows of an own exception's class, for isinstance -/
structure ExcK (K : PySem.W.Frag) (C : Addr) : Prop extends ExcG K C where
  ca : PySem.W.findIn K (.ref C) "__class__" = some (some (.builtin "object.__class__"))
  gt : PySem.W.specialIn K (.builtin "object.__class__") "__get__" = some (some (.builtin "getset_descriptor.__get__"))
  tk : PySem.W.takesIn K (.builtin "object.__class__") = some true
  mo : PySem.W.mroIn K C (.type "object") = some true
section
variable {K : PySem.W.Frag} {C : Addr}
theorem find_class (c : ExcK K C) (od : Option Obj) : PySem.W.findObj K C od "__class__" = some (.bind (.builtin "getset_descriptor.__get__") (.builtin "object.__class__")) := by
  obtain ⟨cd, hc, _⟩ := PySem.W.any_some c.hd
  unfold PySem.W.findObj
  rw [hc, Option.bind_some, c.ca, Option.bind_some]
  simp [c.gt, c.tk]
variable {prog : Program} {w : World} {A : Around} {E : Value → Shared → Prop} {s : Shared} {x : Addr} {ox : Obj} {od : Option Obj}
theorem exc_class {Q : Option Value → Shared → Prop} (c : ExcK K C) (X : K.In s.heap) (I : PySem.W.InstAt s.heap x ox C od) (h : Q (some (.ref C)) { s with toks := s.toks + 1 }) :
    wpAny (model prog w) A (getAttr? (.ref x) "__class__") Q E s := by
  have ht := I.type (M := model prog w)
  unfold getAttr? getAttrBy? getAttrBy
  refine wpAny_bind (wpAny_mkText (wpAny_bind (wpAny_attempt (wpAny_holding (wpAny_bind (ht _ _ _ _ (fun _ _ e => e) (wpAny_bind (PySem.W.looks_findIn X c.ga _ _ _ _ (fun _ _ e => e) ?_))))))))
  dsimp only
  rw [show (onTheHeap (Value.ref C) && Value.builtin "BaseException.__getattribute__" == Value.builtin "object.__getattribute__") = false from by rw [show (Value.builtin "BaseException.__getattribute__" == Value.builtin "object.__getattribute__") = false from by decide +kernel, Bool.and_false], if_neg (by decide)]
  have hb : PySem.W.Looks (model prog w) s.heap (hookBefore (.ref C)) none := PySem.W.looks_hook X (by show (if onTheHeap (Value.ref C) = true then _ else _) = _; exact c.hk)
  refine wpAny_bind (hb _ _ _ _ (fun _ _ e => e) (wpAny_bind (wpAny_attempt (wpAny_holding ?_))))
  unfold callGetattribute
  rw [show (false && onTheHeap (Value.builtin "BaseException.__getattribute__")) = false from rfl, if_neg (by decide)]
  unfold boundAndCalled
  rw [PySem.F.attr_ValueError.ga.bind]
  refine wpAny_bind (wpAny_pure ?_)
  show wpAny _ _ (call (.builtin "BaseException.__getattribute__") [.ref x, .str "__class__" s.toks]) _ _ _
  refine wpAny_call ?_
  refine codeAny_call_builtin PySem.F.attr_ValueError.ga.plain PySem.F.entry_bexc_ga ?_
  refine @PySem.W.check_slot (model prog w) _ _ { s with toks := s.toks + 1 } "BaseException.__getattribute__" "BaseException" "__getattribute__" (.ref x) [.str "__class__" s.toks] [] _ (by decide +kernel) (by decide +kernel) (ht.andThen (PySem.W.looks_mroIn X c.mro)) (PySem.F.args_bexc_ga (.ref x) (.str "__class__" s.toks)) ?_
  unfold Builtin.«object.__getattribute__»
  refine wpAny_bind (wpAny_pure ?_)
  refine wpAny_bind (wpAny_pure ?_)
  refine wpAny_bind (ht _ _ _ _ (fun _ _ e => e) ?_)
  refine wpAny_bind (PySem.W.looks_find X I (find_class c od) _ _ _ _ (fun _ _ e => e) ?_)
  show wpAny _ _ (holding [Value.builtin "object.__class__"] (call (.builtin "getset_descriptor.__get__") [.builtin "object.__class__", .ref x, .ref C]) >>= ret) _ _ _
  refine wpAny_bind (wpAny_holding (wpAny_call (PySem.W.class_get (s := { s with toks := s.toks + 1 }) (ox := ox) (od := od) X I c.mo ?_)))
  refine wpAny_pure ?_
  show wpAny _ _ (handedOut (.ref C)) _ _ _
  rw [PySem.W.handedOut_of rfl]
  exact wpAny_pure (wpAny_pure h)
theorem kitx_exc (c : ExcK K C) : PySem.W.KitX K (.ref x) (.ref C) (fun h => PySem.W.InstAt h x ox C od) where
  ty := fun _ _ _ I => I.type
  it := fun _ _ X _ => by
    obtain ⟨cdD, hcD, _⟩ := PySem.W.any_some c.hd
    unfold PySem.W.clsIn at hcD
    split at hcD
    · rename_i c' d' cd' sl' ho
      intro A' Q' E' s' k q
      unfold isType loadHead
      exact wpAny_bind (wpAny_loadPart (k _ _ (X _ _ ho)) (wpAny_pure q))
    · cases hcD
  ne := fun h tp dd its n sl X htp => by
    obtain ⟨cdD, hcD, _⟩ := PySem.W.any_some c.hd
    refine Bool.eq_false_iff.mpr fun q => ?_
    have e : C = tp := Value.ref.inj (beq_iff_eq.mp q)
    subst e
    unfold PySem.W.clsIn at hcD
    split at hcD
    · rename_i c' d' cd' sl' ho
      have z := (X _ _ ho).symm.trans htp
      cases z
    · cases hcD
  ca := fun X I k => exc_class c X I k
end
section
variable {X : Cx} {K : PySem.W.Frag}
/-- isinstance(e, D) of an own exception: e's own dict, if there is one, is tracked -/
theorem call_isinstXK (hK : X.K = K) : CallR X (.builtin "isinstance") (fun xs H Q => ∃ a C dd n D b, xs = [.ref a, .ref D] ∧ H a = some (.ext (excP a C dd n)) ∧ (∀ dx, dd = some dx → ∃ fs, H dx = some (.xd fs)) ∧ ExcK K C ∧ PySem.W.kitOne K (.ref C) (.ref D) = some b ∧ Q (.bl b) H) := by
  subst hK
  intro pins s σ H xs us Q I r h
  obtain ⟨a, C, dd, n, D, b, rfl, ea, hd, c, e, q⟩ := h
  obtain ⟨u, v, rfl, ru, rv⟩ := vals2 r
  cases ru
  cases rv
  obtain ⟨vs, he, _, _⟩ := ext_at I.hok ea
  have fin : ∀ tk, EP X pins σ Q (.bool b) { s with toks := tk } := fun tk => ⟨.bl b, H, I.tok tk, rfl, q⟩
  cases dd with
  | none => exact PySem.W.kia_one (kitx_exc (ox := { cls := .ref C, dict := none, data := .fields vs }) (od := none) c) I.kIn ⟨he, rfl, rfl, trivial⟩ e (fun z => nomatch z) fin
  | some dx =>
    obtain ⟨fs, ed⟩ := hd dx rfl
    obtain ⟨mA, ns, r⟩ := (show ObjOk X.prog X.w H s.heap dx (.xd fs) from I.hok dx _ ed)
    obtain ⟨od, ho, hl⟩ := lookIn_ns ns
    exact PySem.W.kia_one (kitx_exc (ox := { cls := .ref C, dict := some dx, data := .fields vs }) (od := some od) c) I.kIn ⟨he, rfl, rfl, ho⟩ e (fun z => nomatch z) fin
theorem bools_vals : ∀ {bs : List Bool} {us : List Value}, Vals (bs.map V.bl) us → us = bs.map Value.bool
  | [], _, .nil => rfl
  | b :: r, _, .cons e q => by
    cases e
    rw [bools_vals q]
    rfl
theorem bools_reads (h : Heap) : ∀ bs : List Bool, ReadsAll h (bs.map Value.bool) (bs.map PyData.bool) []
  | [] => .nil
  | b :: r => .cons (.bool b) (bools_reads h r)
theorem bools_shape : ∀ bs : List Bool, (bs.map PyData.bool).all Shape.bool.has = true
  | [] => rfl
  | b :: r => by
    rw [List.map_cons, List.all_cons, bools_shape r]
    rfl
theorem mt_count : MtM X "list.count" (fun x vs H Q => ∃ (l : Addr) (bs : List Bool) (b : Bool), x = .ref l ∧ vs = [.bl b] ∧ H l = some (.lst (bs.map V.bl)) ∧ Q (.int (countIn (.bool b) (bs.map PyData.bool))) H) := by
  intro pins s σ H x vs v us Q I rx rv h
  obtain ⟨l, bs, b, rfl, rfl, hH, q⟩ := h
  cases rx
  obtain ⟨u, rfl, ru⟩ := rv.one
  cases ru
  obtain ⟨z, its, n, r, hl, e⟩ := I.lstM hH
  have ei := bools_vals r
  subst ei
  exact count_list_bools (xs := bs.map PyData.bool) (as := []) (hp := s.heap) ⟨_, e, rfl, n, rfl⟩ (bools_reads _ _) (bools_shape bs) ⟨.int _, H, I.tok _, ⟨_, rfl⟩, q⟩
end
/-! ### a def that is called where an exception is held -/
/-- room, whatever is held -/
structure RoomH (k : Nat) (A : Around) : Prop where
  dp : A.depth + 3 * k + 5 < recursionLimit
  un : A.units + 16 * k + 200 < cLine
  gd : A.guards = some []
theorem Room.mark {k : Nat} {A : Around} (r : Room k A) (v : Option Value) : RoomH k (A.mark v) := ⟨r.dp, r.un, r.gd⟩
theorem RoomH.down {k : Nat} {A : Around} (r : RoomH (k + 1) A) (env : Env) : RoomH k (A.deeper env) :=
  ⟨by have := r.dp; show A.depth + 1 + 3 * k + 5 < _; omega, by have := r.un; show A.units + 3 + 16 * k + 200 < _; omega, r.gd⟩
structure FnOkH (P : Program) (w : World) (K : PySem.W.Frag) (mg : Str → Option Value) (base : Heap) (k : Nat) (f : Addr) (fd : FuncData) (ps : List Str) (sp : Sp) : Prop where
  len : ∀ vs H Q E, sp vs H Q E → vs.length = ps.length
  run : ∀ (A : Around) (outer : List Env) (s : Shared) (H : Hp) (args : Args) (us : List Value) (vs : List V) (Q : VK) (E : XK), RoomH k A → Env0 P w K mg base A outer s H → BindsTo s fd args (ps.zip us) → Vals vs us → sp vs H Q E →
    codeAny (model P w) A (.call (.ref f) args) (CR CX0 outer P w H s Q E) s
theorem FnOkH.mono {P : Program} {w : World} {K : PySem.W.Frag} {mg : Str → Option Value} {base : Heap} {j k : Nat} {f : Addr} {fd : FuncData} {ps : List Str} {sp : Sp} (F : FnOkH P w K mg base j f fd ps sp) (h : j ≤ k) : FnOkH P w K mg base k f fd ps sp :=
  ⟨F.len, fun A outer s H args us vs Q E hr => F.run A outer s H args us vs Q E ⟨by have := hr.dp; omega, by have := hr.un; omega, hr.gd⟩⟩
/-- the context of its body -/
abbrev cxH (P : Program) (w : World) (K : PySem.W.Frag) (mg : Str → Option Value) (base : Heap) (N : List Str) (qual : Str) (scope : Scope) (f : Addr) (cd : Value) (A : Around) (outer : List Env) (s : Shared) (H : Hp) (E : XK) : Cx :=
  { cxOf CX0 P w K mg base N qual scope f cd A outer s H E with calm := false }
theorem Fun.okH {P : Program} {w : World} {K : PySem.W.Frag} {mg : Str → Option Value} {base : Heap} {x qual : Str} {st : Stmt} {f : Addr} {fd : FuncData} {N ps : List Str} {k : Nat} {sp : Sp} (F : Fun K x qual st f fd) (S : FnScope N ps (defScope st)) (len : ∀ vs H Q E, sp vs H Q E → vs.length = ps.length)
    (hbody : ∀ (cdv : Value) (A : Around) (outer : List Env) (s : Shared) (H : Hp) (vs : List V) (Q : VK) (E : XK), RoomH k (A.deeper (envOfC qual (defScope st) s.heap.objs.size f cdv)) → sp vs H Q E →
      ∃ t, PSs (cxH P w K mg base N qual (defScope st) f cdv A outer s H E).nox (defBody st) t ∧ t { nx := fun _ H' => Q .non H', rt := Q } (start N vs) H) : FnOkH P w K mg base (k + 1) f fd ps sp := by
  obtain ⟨oc, od, kV, doc, pm, an, cdv, ct, osl, rfl, lk, hcd⟩ := F.ex
  refine ⟨len, fun A outer s H args us vs Q E hr e0 hb r hsp => ?_⟩
  have hl := len _ _ _ _ hsp
  have KX : K.In s.heap := e0.mod.kin.keeps fun b o e => (e0.bs b o e).1
  have lim : s.heap.NoLimit := e0.mod.nolimit.keeps fun b o e => (e0.bs b o e).1
  have hkind : ∀ y ∈ ps.zip us, (defScope st).names.lookup y.1 = some .local ∨ ((defScope st).names.lookup y.1 = some .cell ∧ ((cellsFrom (s.heap.objs.size + 1) (defScope st).names []).lookup y.1).isSome = true) := fun ⟨n, v⟩ hy => by
    rcases S.par n (List.of_mem_zip hy).1 with q | q
    · exact .inl q
    · exact .inr ⟨q, PySem.W.cellsFrom_some _ _ _ (.inl q)⟩
  have hdep : A.depth < recursionLimit := by have := hr.dp; omega
  refine codeAny_call_function hdep (KX _ _ lk) rfl S.co S.gen rfl (PySem.W.codeRec_of KX hcd) (hb _ _ _ _ ?_)
  refine wpAny_newFunctionEnv_cells S.kind hkind fun env he s1 x => ?_
  subst he
  refine ⟨lim.keeps x.toInCall.keep, codeAny_func ?_⟩
  obtain ⟨t, ht, hq⟩ := hbody cdv A outer s H vs Q E (hr.down _) hsp
  have e0' : Env0 P w K mg base { A with handled := none } outer s H := ⟨e0.frames, e0.mod, e0.bs, e0.bsz, e0.funs, e0.frf, e0.hok, e0.bare⟩
  have J : Inv (cxOf CX0 P w K mg base N qual (defScope st) f cdv { A with handled := none } outer s H E) [] (start N vs) H s1 := inv_start S rfl e0' hl r x
  have I : Inv (cxH P w K mg base N qual (defScope st) f cdv A outer s H E) [] (start N vs) H s1 :=
    ⟨⟨J.ok.mod, J.ok.kind, J.ok.glob, J.ok.blt, J.ok.above, J.ok.inj, J.ok.has, J.ok.cab, (fun z => nomatch z), J.ok.frames, J.ok.stk, J.ok.exf, J.ok.bs, J.ok.bsz, J.ok.noex, J.ok.exfs, J.ok.funs, J.ok.frf⟩, J.os, J.bare, J.base, J.loc, J.cell, J.free, J.freeC, J.pin, J.hok, J.len⟩
  refine wpAny_mono (ht.nox [] s1 (start N vs) H _ I hq) (fun fl s' hs => ?_) fun e s' hs => hs
  have fin : ∀ {σ' : St} {H' : Hp} {v : V} {u : Value}, Inv (cxH P w K mg base N qual (defScope st) f cdv A outer s H E) [] σ' H' s' → RelV v u → Q v H' → CE outer P w H s Q u s' :=
    fun {σ' H' v u} J rv q => ⟨v, H', J.os, J.bare, J.base, J.hok, rv, q⟩
  cases fl with
  | ret u =>
    obtain ⟨v, σ', H', J, rv, q⟩ := hs
    exact fin J rv q
  | next =>
    obtain ⟨σ', H', J, q⟩ := hs
    exact fin (v := V.non) (u := Value.none) J rfl q
  | brk =>
    obtain ⟨_, _, _, q⟩ := hs
    exact False.elim q
  | cont =>
    obtain ⟨_, _, _, q⟩ := hs
    exact False.elim q
section
variable {X : Cx} {k : Nat} {f : Addr} {fd : FuncData} {ps : List Str} {sp : Sp} {x : Str} {p pos : Pos} {e : Expr} {es : List Expr} {t : TA} {K : PySem.W.Frag}
/-- f(e, ..) there -/
theorem pe_callH (F : FnOkH X.prog X.w X.K X.mg X.base k f fd ps sp) (hr : RoomH k X.A) (hg : Gl X x) (hm : X.mg x = some (.ref f)) (hk : PySem.W.keepIn X.K (.ref f) = true) (hb : Binds X.K fd ps [])
    (ha : PA X (e :: es) t) (hdb : (x == ("__debug__" : Str)) = false := by decide) (he : starEach (e :: es) X.env = (false, eval e X.env) :: starEach es X.env := by rfl) (hpl : (backTo pos (starEach es X.env)).any (·.1) = false := by rfl) :
    PE X (.Call (.Name x p) (e :: es) [] pos) (tCall sp [] E0 t) := by
  intro pins s σ H Q I h
  refine wpAny_Call_Name_kw (ld_glob I hg hm ?_ hdb)
  refine PySem.W.callWith_K (h₀ := X.base) I.ok.mod.kin hk (thn (ha pos pins s σ H _ I h) fun us s1 ⟨vs, H1, I1, r, q⟩ => ⟨I1.kIn, ?_⟩) he hpl
  have r2 : Vals (vs ++ []) (us ++ []) := r.append .nil
  have hl : (us ++ []).length = ps.length := by rw [← r2.length]; exact F.len _ _ _ _ q
  refine wpAny_call (codeAny_mono (F.run X.A X.stack s1 H1 ⟨us, []⟩ (us ++ []) (vs ++ []) Q E0 hr I1.env0 (hb s1 us I1.kIn hl) r2 q) fun r s' hq => ?_)
  cases r with
  | error e => exact False.elim hq
  | ok fl =>
    cases fl with
    | ret u => exact I1.after hq
    | next => exact False.elim hq
    | brk => exact False.elim hq
    | cont => exact False.elim hq
end
/-! ### a list of a text and an empty dict, shown -/
def tLstS (t : TA) : TE := fun σ H Q => t σ H fun xs H1 => xs.length ≤ sizeLine ∧ ∀ p, H1 p = none → (p == sysModules) = false → Q (.ref p) (upd H1 p (.lst xs))
theorem pe_lstS {X : Cx} {es : List Expr} {t : TA} {pos : Pos} (h : PA X es t) : PE X (.List es pos) (tLstS t) := by
  intro pins s σ H Q I hq
  refine wpAny_List_spliced (thn (h pos pins s σ H _ I hq) fun us s1 ⟨xs, H1, I1, r, z, q⟩ => ⟨by rw [← r.length]; exact z, ?_⟩)
  have hf : H1 s1.heap.objs.size = none := I1.hok.fresh (Nat.le_refl _)
  refine ⟨.ref s1.heap.objs.size, upd H1 s1.heap.objs.size (.lst xs), I1.laid (t' := s1.toks) (fun b u e => Heap.get?_push_of_some _ e) (Nat.le_refl _) ?_, rfl, q _ hf (beq_eq_false_iff_ne.mpr (Ne.symm (Nat.ne_of_lt I1.big)))⟩
  exact ⟨z, us, 0, r, Heap.get?_push_size _ rfl⟩
def DatL (H : Hp) (v : V) (d : PyData) : Prop := Dat H v d ∨ ∃ t a x, v = .ref t ∧ (t == sysModules) = false ∧ H t = some (.lst [.str x, .ref a]) ∧ H a = some (.dK []) ∧ d = .list [.str x, .dict []]
section
variable {X : Cx}
theorem call_reprL (hg : X.A.guards = some []) (hu : X.A.units + 100 < cLine) : CallR X (.builtin "repr") (fun xs H Q => ∃ v d, xs = [v] ∧ DatL H v d ∧ d.showable = true ∧ d.depth ≤ 90 ∧ d.shown.length ≤ sizeLine ∧ Q (.str d.shown) H) := by
  intro pins s σ H xs us Q I r h
  obtain ⟨v, d, rfl, hd, hs, hdp, hz, q⟩ := h
  rcases hd with hd | ⟨t, a, x, rfl, nt, et, ea, rfl⟩
  · exact call_repr hg hu pins s σ H _ us Q I r ⟨v, d, rfl, hd, hs, hdp, hz, q⟩
  · obtain ⟨u, rfl, ru⟩ := vals1 r
    cases ru
    obtain ⟨z, its, n, rv, ho⟩ := (show ObjOk X.prog X.w H s.heap t (.lst _) from I.hok _ _ et)
    obtain ⟨u1, u2, rfl, r1, r2⟩ := vals2 rv
    obtain ⟨t1, rfl⟩ := r1
    cases r2
    obtain ⟨z', ym, vs, kv, od, es, ep, hod, ex, hde, ko, pr, nd⟩ := dk_of I.hok ea
    have evs : vs = [] := by cases kv; rfl
    subst evs
    have ees : es.toList = [] := by
      cases h : es.toList with
      | nil => rfl
      | cons y ys => rw [h] at pr; cases pr
    have rd : Reads s.heap (.ref t) (.list [.str x, .dict []]) (t :: ([] ++ ((a :: [] ++ []) ++ []))) := by
      refine Reads.list ho rfl rfl ?_
      show ReadsAll s.heap [Value.str x t1, Value.ref a] _ _
      refine .cons (.str x t1) (.cons (Reads.dict hod ex.1 hde ?_ ?_) .nil)
      · rw [ees]; exact .nil
      · rw [ees]; exact .nil
    have nsm : sysModules ∉ (t :: ([] ++ ((a :: [] ++ []) ++ [])) : List Addr) := by
      intro hm
      have hm : sysModules = t ∨ sysModules = a := by simpa using hm
      rcases hm with hm | hm
      · rw [hm] at nt
        simp at nt
      · rw [hm] at ym
        simp at ym
    exact repr_of_reads' rd hs (fun _ => nsm) hg (by omega) (fun _ _ e => e) (fun h' t tk k => ⟨.str _, H, I.kept k, ⟨t, rfl⟩, q⟩) hz
end
/-! ### a comprehension whose items are new things, each as E says of its own places -/
theorem comp_new {J : It} {n k : Nat} {js : List Nat} {Y : Nat → V → Hp → Prop} {g : TG} {te : TE} {σ : St} {H : Hp} {Q : VK} (E : Nat → V → (Addr → Prop) → Hp → Prop) (F : FeedsG J H n Y) (hlen : n ≤ sizeLine)
    (hst : ∀ i v N1 N2 H1 H2, (∀ c, N1 c → N2 c) → (∀ c o, N1 c → H1 c = some o → H2 c = some o) → E i v N1 H1 → E i v N2 H2)
    (hbody : ∀ (i : Nat) (x : V) (H' : Hp) (C1 : V → Hp → Prop), i < n → Same H H' → Y i x H' → (∀ v H'', Same H' H'' → E i v (fun c => H' c = none) H'' → C1 v H'') →
      g x (cσ k js σ) H' fun σ2 H2 => SubS (cσ k js σ) σ2 ∧ te σ2 H2 C1)
    (hq : ∀ p H' ys, H p = none → Same H H' → H' p = some (.lst ys) → ys.length = n → (∀ i v, ys[i]? = some v → E i v (fun c => H c = none) H') → Q (.ref p) H') :
    CompGoal J k js g tYes te σ H Q := by
  intro p hp
  refine ⟨fun i m ys H' => m = n - i ∧ i ≤ n ∧ ys.length = i ∧ H' p = some (.lst ys) ∧ Same H H' ∧ ∀ j v, ys[j]? = some v → E j v (fun c => c ≠ p ∧ H c = none) H',
    ⟨n, rfl, Nat.zero_le _, rfl, upd_same, Same.upd hp, fun j v e => by simp at e⟩, ?_⟩
  rintro i m ys H' ⟨rfl, hi, hyl, hl, hs, hE⟩
  refine ⟨hl, ?_⟩
  by_cases hlt : i < n
  · refine .inr ⟨F.go i _ hs hlt, by omega, fun x H'' hy => ?_⟩
    obtain ⟨s1, y1⟩ := F.yld i _ x H'' hs hlt hy
    refine hbody i x H'' (fun v H4 => H4 p = some (.lst ys) ∧ ∃ m', m' < n - i ∧ (m' = n - (i + 1) ∧ i + 1 ≤ n ∧ (ys ++ [v]).length = i + 1 ∧ upd H4 p (.lst (ys ++ [v])) p = some (.lst (ys ++ [v])) ∧ Same H (upd H4 p (.lst (ys ++ [v]))) ∧ ∀ j v', (ys ++ [v])[j]? = some v' → E j v' (fun c => c ≠ p ∧ H c = none) (upd H4 p (.lst (ys ++ [v]))))) hlt (hs.trans s1) y1 ?_
    intro v H4 s4 e4
    have hp4 : H4 p = some (.lst ys) := s4 _ _ (s1 _ _ hl)
    refine ⟨hp4, n - (i + 1), by omega, rfl, hlt, by simp [hyl], upd_same, fun c o e => ?_, fun j v' e => ?_⟩
    · rw [upd_ne (ne_of_none e hp)]
      exact s4 _ _ (s1 _ _ (hs _ _ e))
    · by_cases hj : j < ys.length
      · rw [List.getElem?_append_left hj] at e
        refine hst _ _ _ _ _ _ (fun c z => z) (fun c o z q => ?_) (hE j v' e)
        rw [upd_ne z.1]
        exact s4 _ _ (s1 _ _ q)
      · rw [List.getElem?_append_right (by omega)] at e
        have hj2 : j - ys.length = 0 := by
          have := (List.getElem?_eq_some_iff.mp e).1
          simp at this
          omega
        rw [hj2] at e
        cases e
        have : j = i := by omega
        subst this
        have np : ∀ c, H'' c = none → c ≠ p := fun c z z' => by
          rw [z', s1 _ _ hl] at z
          cases z
        refine hst _ _ _ _ _ _ (fun c z => ⟨np c z, (hs.trans s1).free z⟩) (fun c o z q => ?_) e4
        rw [upd_ne (np c z)]
        exact q
  · have e : i = n := by omega
    subst e
    exact .inl ⟨F.stop _ _ hs (Nat.le_refl _), hq p H' ys hp hs hl hyl fun j v e => hst _ _ _ _ _ _ (fun c z => z.2) (fun c o _ q => q) (hE j v e)⟩
end L2

namespace My
open PySem L2 PyProof.Rows
theorem sc_RoomError___init__ : FnScope ["self", "text"] ["self", "text"] (defScope s_RoomError___init__) := ⟨rfl, rfl, rfl, by decide +kernel, rfl, by decide +kernel, by decide +kernel⟩
theorem sc_NoFrame___init__ : FnScope ["self", "found"] ["self", "found"] (defScope s_NoFrame___init__) := ⟨rfl, rfl, rfl, by decide +kernel, rfl, by decide +kernel, by decide +kernel⟩
theorem sc_Gone___init__ : FnScope ["self", "found", "by"] ["self", "found", "by"] (defScope s_Gone___init__) := ⟨rfl, rfl, rfl, by decide +kernel, rfl, by decide +kernel, by decide +kernel⟩
theorem sc_Ground___init__ : FnScope ["self"] ["self"] (defScope s_Ground___init__) := ⟨rfl, rfl, rfl, by decide +kernel, rfl, by decide +kernel, by decide +kernel⟩
theorem sc_TooMany___init__ : FnScope ["self", "many"] ["self", "many"] (defScope s_TooMany___init__) := ⟨rfl, rfl, rfl, by decide +kernel, rfl, by decide +kernel, by decide +kernel⟩
theorem sc_is_number : FnScope ["thing"] ["thing"] (defScope s_is_number) := ⟨rfl, rfl, rfl, by decide +kernel, rfl, by decide +kernel, by decide +kernel⟩
theorem sc_is_whole : FnScope ["thing", "low", "high"] ["thing", "low", "high"] (defScope s_is_whole) := ⟨rfl, rfl, rfl, by decide +kernel, rfl, by decide +kernel, by decide +kernel⟩
theorem sc_Frames___init__ : FnScope ["self"] ["self"] (defScope s_Frames___init__) := ⟨rfl, rfl, rfl, by decide +kernel, rfl, by decide +kernel, by decide +kernel⟩
theorem sc_Frames_begin : FnScope ["self", "frame"] ["self", "frame"] (defScope s_Frames_begin) := ⟨rfl, rfl, rfl, by decide +kernel, rfl, by decide +kernel, by decide +kernel⟩
theorem sc_Frames_finish : FnScope ["self", "frame", "ended", "number"] ["self", "frame"] (defScope s_Frames_finish) := ⟨rfl, rfl, rfl, by decide +kernel, rfl, by decide +kernel, by decide +kernel⟩
theorem sc_Frames_part : FnScope ["self", "frame"] ["self", "frame"] (defScope s_Frames_part) := ⟨rfl, rfl, rfl, by decide +kernel, rfl, by decide +kernel, by decide +kernel⟩
theorem sc_Frames_inside : FnScope ["self", "frame"] ["self", "frame"] (defScope s_Frames_inside) := ⟨rfl, rfl, rfl, by decide +kernel, rfl, by decide +kernel, by decide +kernel⟩
theorem sc_Frames_row : FnScope ["self", "frame", "outward", "step"] ["self", "frame"] (defScope s_Frames_row) := ⟨rfl, rfl, rfl, by decide +kernel, rfl, by decide +kernel, by decide +kernel⟩
theorem sc_Frames_within : FnScope ["self", "frame"] ["self", "frame"] (defScope s_Frames_within) := ⟨rfl, rfl, rfl, by decide +kernel, rfl, by decide +kernel, by decide +kernel⟩
theorem sc_Frames_ended_by : FnScope ["self", "frame"] ["self", "frame"] (defScope s_Frames_ended_by) := ⟨rfl, rfl, rfl, by decide +kernel, rfl, by decide +kernel, by decide +kernel⟩
theorem sc_Frames_stands : FnScope ["self", "thing"] ["self", "thing"] (defScope s_Frames_stands) := ⟨rfl, rfl, rfl, by decide +kernel, rfl, by decide +kernel, by decide +kernel⟩
theorem sc_Frames_standing : FnScope ["self"] ["self"] (defScope s_Frames_standing) := ⟨rfl, rfl, rfl, by decide +kernel, rfl, by decide +kernel, by decide +kernel⟩
theorem sc_Frames_begun : FnScope ["self"] ["self"] (defScope s_Frames_begun) := ⟨rfl, rfl, rfl, by decide +kernel, rfl, by decide +kernel, by decide +kernel⟩
theorem sc_Frames_was_begun : FnScope ["self", "thing"] ["self", "thing"] (defScope s_Frames_was_begun) := ⟨rfl, rfl, rfl, by decide +kernel, rfl, by decide +kernel, by decide +kernel⟩
theorem sc_Frames_want_begun : FnScope ["self", "thing"] ["self", "thing"] (defScope s_Frames_want_begun) := ⟨rfl, rfl, rfl, by decide +kernel, rfl, by decide +kernel, by decide +kernel⟩
theorem sc_Frames_want_standing : FnScope ["self", "thing"] ["self", "thing"] (defScope s_Frames_want_standing) := ⟨rfl, rfl, rfl, by decide +kernel, rfl, by decide +kernel, by decide +kernel⟩
theorem sc_Frames_want_beginning : FnScope ["self", "thing"] ["self", "thing"] (defScope s_Frames_want_beginning) := ⟨rfl, rfl, rfl, by decide +kernel, rfl, by decide +kernel, by decide +kernel⟩
theorem sc_Frames_want_finishing : FnScope ["self", "thing"] ["self", "thing"] (defScope s_Frames_want_finishing) := ⟨rfl, rfl, rfl, by decide +kernel, rfl, by decide +kernel, by decide +kernel⟩
theorem sc__law_cell : FnScope ["_law_script", "_law_k"] ["_law_script", "_law_k"] (defScope s__law_cell) := ⟨rfl, rfl, rfl, by decide +kernel, rfl, by decide +kernel, by decide +kernel⟩
theorem sc__law_box : FnScope ["_law_cell_here"] ["_law_cell_here"] (defScope s__law_box) := ⟨rfl, rfl, rfl, by decide +kernel, rfl, by decide +kernel, by decide +kernel⟩
theorem sc__law_take : FnScope ["_law_box_here", "_law_many", "_law_digit", "_law_one_here", "_law_other"] ["_law_box_here", "_law_many"] (defScope s__law_take) := ⟨rfl, rfl, rfl, by decide +kernel, rfl, by decide +kernel, by decide +kernel⟩
theorem sc__law_model : FnScope [] [] (defScope s__law_model) := ⟨rfl, rfl, rfl, by decide +kernel, rfl, by decide +kernel, by decide +kernel⟩
theorem sc__law_standing : FnScope ["_law_model_here"] ["_law_model_here"] (defScope s__law_standing) := ⟨rfl, rfl, rfl, by decide +kernel, rfl, by decide +kernel, by decide +kernel⟩
theorem sc__law_row : FnScope ["_law_model_here", "_law_frame", "_law_found"] ["_law_model_here", "_law_frame"] (defScope s__law_row) := ⟨rfl, rfl, rfl, by decide +kernel, rfl, by decide +kernel, by decide +kernel⟩
theorem sc__law_begin : FnScope ["_law_model_here", "_law_frame"] ["_law_model_here", "_law_frame"] (defScope s__law_begin) := ⟨rfl, rfl, rfl, by decide +kernel, rfl, by decide +kernel, by decide +kernel⟩
theorem sc__law_finish : FnScope ["_law_model_here", "_law_frame", "_law_ended", "_law_k"] ["_law_model_here", "_law_frame"] (defScope s__law_finish) := ⟨rfl, rfl, rfl, by decide +kernel, rfl, by decide +kernel, by decide +kernel⟩
theorem sc__law_one : FnScope ["_law_box_here", "_law_some", "_law_way", "_law_at"] ["_law_box_here", "_law_some"] (defScope s__law_one) := ⟨rfl, rfl, rfl, by decide +kernel, rfl, by decide +kernel, by decide +kernel⟩
theorem sc__law_deeds : FnScope ["_law_box_here", "_law_frames", "_law_model_here", "_law_many", "_law_turn", "_law_ends", "_law_frame"] ["_law_box_here", "_law_frames", "_law_model_here", "_law_many"] (defScope s__law_deeds) := ⟨rfl, rfl, rfl, by decide +kernel, rfl, by decide +kernel, by decide +kernel⟩
theorem sc__law_filled : FnScope ["_law_frames", "_law_model_here"] ["_law_frames", "_law_model_here"] (defScope s__law_filled) := ⟨rfl, rfl, rfl, by decide +kernel, rfl, by decide +kernel, by decide +kernel⟩
theorem sc__law_kinds : FnScope ["_law_e"] ["_law_e"] (defScope s__law_kinds) := ⟨rfl, rfl, rfl, by decide +kernel, rfl, by decide +kernel, by decide +kernel⟩
theorem sc__law_caught : FnScope ["_law_way", "_law_frames", "_law_thing", "_law_told", "_law_e"] ["_law_way", "_law_frames", "_law_thing"] (defScope s__law_caught) := ⟨rfl, rfl, rfl, by decide +kernel, rfl, by decide +kernel, by decide +kernel⟩
theorem sc__law_due : FnScope ["_law_way", "_law_model_here", "_law_thing", "_law_number"] ["_law_way", "_law_model_here", "_law_thing"] (defScope s__law_due) := ⟨rfl, rfl, rfl, by decide +kernel, rfl, by decide +kernel, by decide +kernel⟩
theorem sc__law_state : FnScope ["_law_frames", "_law_many", "_law_rows"] ["_law_frames"] (defScope s__law_state) := ⟨rfl, rfl, rfl, by decide +kernel, rfl, by decide +kernel, by decide +kernel⟩
theorem sc__law_goes_on : FnScope ["_law_box_here", "_law_frames", "_law_model_here", "_law_turn", "_law_frame", "_law_k"] ["_law_box_here", "_law_frames", "_law_model_here"] (defScope s__law_goes_on) := ⟨rfl, rfl, rfl, by decide +kernel, rfl, by decide +kernel, by decide +kernel⟩
theorem sc__law_things : FnScope ["_law_box_here", "_law_model_here", "_law_many", "_law_some", "_law_gone", "_law_first"] ["_law_box_here", "_law_model_here"] (defScope s__law_things) := ⟨rfl, rfl, rfl, by decide +kernel, rfl, by decide +kernel, by decide +kernel⟩
theorem sc_law : FnScope ["_law_script", "_law_k", "_law_box_here", "_law_full", "_law_frames", "_law_model_here", "_law_stood", "_law_thing", "_law_way", "_law_due_here", "_law_found"] ["_law_script"] (defScope s_law) := ⟨rfl, rfl, rfl, by decide +kernel, rfl, by decide +kernel, by decide +kernel⟩
structure Adr where
  a_RoomError___init__ : Addr
  d_RoomError___init__ : FuncData
  a_NoFrame___init__ : Addr
  d_NoFrame___init__ : FuncData
  a_Gone___init__ : Addr
  d_Gone___init__ : FuncData
  a_Ground___init__ : Addr
  d_Ground___init__ : FuncData
  a_TooMany___init__ : Addr
  d_TooMany___init__ : FuncData
  a_is_number : Addr
  d_is_number : FuncData
  a_is_whole : Addr
  d_is_whole : FuncData
  a_Frames___init__ : Addr
  d_Frames___init__ : FuncData
  a_Frames_begin : Addr
  d_Frames_begin : FuncData
  a_Frames_finish : Addr
  d_Frames_finish : FuncData
  a_Frames_part : Addr
  d_Frames_part : FuncData
  a_Frames_inside : Addr
  d_Frames_inside : FuncData
  a_Frames_row : Addr
  d_Frames_row : FuncData
  a_Frames_within : Addr
  d_Frames_within : FuncData
  a_Frames_ended_by : Addr
  d_Frames_ended_by : FuncData
  a_Frames_stands : Addr
  d_Frames_stands : FuncData
  a_Frames_standing : Addr
  d_Frames_standing : FuncData
  a_Frames_begun : Addr
  d_Frames_begun : FuncData
  a_Frames_was_begun : Addr
  d_Frames_was_begun : FuncData
  a_Frames_want_begun : Addr
  d_Frames_want_begun : FuncData
  a_Frames_want_standing : Addr
  d_Frames_want_standing : FuncData
  a_Frames_want_beginning : Addr
  d_Frames_want_beginning : FuncData
  a_Frames_want_finishing : Addr
  d_Frames_want_finishing : FuncData
  a__law_cell : Addr
  d__law_cell : FuncData
  a__law_box : Addr
  d__law_box : FuncData
  a__law_take : Addr
  d__law_take : FuncData
  a__law_model : Addr
  d__law_model : FuncData
  a__law_standing : Addr
  d__law_standing : FuncData
  a__law_row : Addr
  d__law_row : FuncData
  a__law_begin : Addr
  d__law_begin : FuncData
  a__law_finish : Addr
  d__law_finish : FuncData
  a__law_one : Addr
  d__law_one : FuncData
  a__law_deeds : Addr
  d__law_deeds : FuncData
  a__law_filled : Addr
  d__law_filled : FuncData
  a__law_kinds : Addr
  d__law_kinds : FuncData
  a__law_caught : Addr
  d__law_caught : FuncData
  a__law_due : Addr
  d__law_due : FuncData
  a__law_state : Addr
  d__law_state : FuncData
  a__law_goes_on : Addr
  d__law_goes_on : FuncData
  a__law_things : Addr
  d__law_things : FuncData
  a_law : Addr
  d_law : FuncData
  a_RoomError : Addr
  a_NoFrame : Addr
  a_Gone : Addr
  a_Ground : Addr
  a_TooMany : Addr
  a_Frames : Addr
structure Txt (K : PySem.W.Frag) (mg : Str → Option Value) (A : Adr) : Prop where
  F_RoomError___init__ : Fun K "__init__" "RoomError.__init__" s_RoomError___init__ A.a_RoomError___init__ A.d_RoomError___init__
  b_RoomError___init__ : Binds K A.d_RoomError___init__ ["self", "text"] []
  F_NoFrame___init__ : Fun K "__init__" "NoFrame.__init__" s_NoFrame___init__ A.a_NoFrame___init__ A.d_NoFrame___init__
  b_NoFrame___init__ : Binds K A.d_NoFrame___init__ ["self", "found"] []
  F_Gone___init__ : Fun K "__init__" "Gone.__init__" s_Gone___init__ A.a_Gone___init__ A.d_Gone___init__
  b_Gone___init__ : Binds K A.d_Gone___init__ ["self", "found", "by"] []
  F_Ground___init__ : Fun K "__init__" "Ground.__init__" s_Ground___init__ A.a_Ground___init__ A.d_Ground___init__
  b_Ground___init__ : Binds K A.d_Ground___init__ ["self"] []
  F_TooMany___init__ : Fun K "__init__" "TooMany.__init__" s_TooMany___init__ A.a_TooMany___init__ A.d_TooMany___init__
  b_TooMany___init__ : Binds K A.d_TooMany___init__ ["self", "many"] []
  m_is_number : mg "is_number" = some (.ref A.a_is_number)
  F_is_number : Fun K "is_number" "is_number" s_is_number A.a_is_number A.d_is_number
  b_is_number : Binds K A.d_is_number ["thing"] []
  m_is_whole : mg "is_whole" = some (.ref A.a_is_whole)
  F_is_whole : Fun K "is_whole" "is_whole" s_is_whole A.a_is_whole A.d_is_whole
  b_is_whole : Binds K A.d_is_whole ["thing", "low", "high"] []
  F_Frames___init__ : Fun K "__init__" "Frames.__init__" s_Frames___init__ A.a_Frames___init__ A.d_Frames___init__
  b_Frames___init__ : Binds K A.d_Frames___init__ ["self"] []
  F_Frames_begin : Fun K "begin" "Frames.begin" s_Frames_begin A.a_Frames_begin A.d_Frames_begin
  b_Frames_begin : Binds K A.d_Frames_begin ["self", "frame"] []
  t_Frames_begin : Meth K A.a_Frames "begin" A.a_Frames_begin
  F_Frames_finish : Fun K "finish" "Frames.finish" s_Frames_finish A.a_Frames_finish A.d_Frames_finish
  b_Frames_finish : Binds K A.d_Frames_finish ["self", "frame"] []
  t_Frames_finish : Meth K A.a_Frames "finish" A.a_Frames_finish
  F_Frames_part : Fun K "part" "Frames.part" s_Frames_part A.a_Frames_part A.d_Frames_part
  b_Frames_part : Binds K A.d_Frames_part ["self", "frame"] []
  t_Frames_part : Meth K A.a_Frames "part" A.a_Frames_part
  F_Frames_inside : Fun K "inside" "Frames.inside" s_Frames_inside A.a_Frames_inside A.d_Frames_inside
  b_Frames_inside : Binds K A.d_Frames_inside ["self", "frame"] []
  t_Frames_inside : Meth K A.a_Frames "inside" A.a_Frames_inside
  F_Frames_row : Fun K "row" "Frames.row" s_Frames_row A.a_Frames_row A.d_Frames_row
  b_Frames_row : Binds K A.d_Frames_row ["self", "frame"] []
  t_Frames_row : Meth K A.a_Frames "row" A.a_Frames_row
  F_Frames_within : Fun K "within" "Frames.within" s_Frames_within A.a_Frames_within A.d_Frames_within
  b_Frames_within : Binds K A.d_Frames_within ["self", "frame"] []
  t_Frames_within : Meth K A.a_Frames "within" A.a_Frames_within
  F_Frames_ended_by : Fun K "ended_by" "Frames.ended_by" s_Frames_ended_by A.a_Frames_ended_by A.d_Frames_ended_by
  b_Frames_ended_by : Binds K A.d_Frames_ended_by ["self", "frame"] []
  t_Frames_ended_by : Meth K A.a_Frames "ended_by" A.a_Frames_ended_by
  F_Frames_stands : Fun K "stands" "Frames.stands" s_Frames_stands A.a_Frames_stands A.d_Frames_stands
  b_Frames_stands : Binds K A.d_Frames_stands ["self", "thing"] []
  t_Frames_stands : Meth K A.a_Frames "stands" A.a_Frames_stands
  F_Frames_standing : Fun K "standing" "Frames.standing" s_Frames_standing A.a_Frames_standing A.d_Frames_standing
  b_Frames_standing : Binds K A.d_Frames_standing ["self"] []
  t_Frames_standing : Meth K A.a_Frames "standing" A.a_Frames_standing
  F_Frames_begun : Fun K "begun" "Frames.begun" s_Frames_begun A.a_Frames_begun A.d_Frames_begun
  b_Frames_begun : Binds K A.d_Frames_begun ["self"] []
  t_Frames_begun : Meth K A.a_Frames "begun" A.a_Frames_begun
  F_Frames_was_begun : Fun K "was_begun" "Frames.was_begun" s_Frames_was_begun A.a_Frames_was_begun A.d_Frames_was_begun
  b_Frames_was_begun : Binds K A.d_Frames_was_begun ["self", "thing"] []
  t_Frames_was_begun : Meth K A.a_Frames "was_begun" A.a_Frames_was_begun
  F_Frames_want_begun : Fun K "want_begun" "Frames.want_begun" s_Frames_want_begun A.a_Frames_want_begun A.d_Frames_want_begun
  b_Frames_want_begun : Binds K A.d_Frames_want_begun ["self", "thing"] []
  t_Frames_want_begun : Meth K A.a_Frames "want_begun" A.a_Frames_want_begun
  F_Frames_want_standing : Fun K "want_standing" "Frames.want_standing" s_Frames_want_standing A.a_Frames_want_standing A.d_Frames_want_standing
  b_Frames_want_standing : Binds K A.d_Frames_want_standing ["self", "thing"] []
  t_Frames_want_standing : Meth K A.a_Frames "want_standing" A.a_Frames_want_standing
  F_Frames_want_beginning : Fun K "want_beginning" "Frames.want_beginning" s_Frames_want_beginning A.a_Frames_want_beginning A.d_Frames_want_beginning
  b_Frames_want_beginning : Binds K A.d_Frames_want_beginning ["self", "thing"] []
  t_Frames_want_beginning : Meth K A.a_Frames "want_beginning" A.a_Frames_want_beginning
  F_Frames_want_finishing : Fun K "want_finishing" "Frames.want_finishing" s_Frames_want_finishing A.a_Frames_want_finishing A.d_Frames_want_finishing
  b_Frames_want_finishing : Binds K A.d_Frames_want_finishing ["self", "thing"] []
  t_Frames_want_finishing : Meth K A.a_Frames "want_finishing" A.a_Frames_want_finishing
  m__law_cell : mg "_law_cell" = some (.ref A.a__law_cell)
  F__law_cell : Fun K "_law_cell" "_law_cell" s__law_cell A.a__law_cell A.d__law_cell
  b__law_cell : Binds K A.d__law_cell ["_law_script", "_law_k"] []
  m__law_box : mg "_law_box" = some (.ref A.a__law_box)
  F__law_box : Fun K "_law_box" "_law_box" s__law_box A.a__law_box A.d__law_box
  b__law_box : Binds K A.d__law_box ["_law_cell_here"] []
  m__law_take : mg "_law_take" = some (.ref A.a__law_take)
  F__law_take : Fun K "_law_take" "_law_take" s__law_take A.a__law_take A.d__law_take
  b__law_take : Binds K A.d__law_take ["_law_box_here", "_law_many"] []
  m__law_model : mg "_law_model" = some (.ref A.a__law_model)
  F__law_model : Fun K "_law_model" "_law_model" s__law_model A.a__law_model A.d__law_model
  b__law_model : Binds K A.d__law_model [] []
  m__law_standing : mg "_law_standing" = some (.ref A.a__law_standing)
  F__law_standing : Fun K "_law_standing" "_law_standing" s__law_standing A.a__law_standing A.d__law_standing
  b__law_standing : Binds K A.d__law_standing ["_law_model_here"] []
  m__law_row : mg "_law_row" = some (.ref A.a__law_row)
  F__law_row : Fun K "_law_row" "_law_row" s__law_row A.a__law_row A.d__law_row
  b__law_row : Binds K A.d__law_row ["_law_model_here", "_law_frame"] []
  m__law_begin : mg "_law_begin" = some (.ref A.a__law_begin)
  F__law_begin : Fun K "_law_begin" "_law_begin" s__law_begin A.a__law_begin A.d__law_begin
  b__law_begin : Binds K A.d__law_begin ["_law_model_here", "_law_frame"] []
  m__law_finish : mg "_law_finish" = some (.ref A.a__law_finish)
  F__law_finish : Fun K "_law_finish" "_law_finish" s__law_finish A.a__law_finish A.d__law_finish
  b__law_finish : Binds K A.d__law_finish ["_law_model_here", "_law_frame"] []
  m__law_one : mg "_law_one" = some (.ref A.a__law_one)
  F__law_one : Fun K "_law_one" "_law_one" s__law_one A.a__law_one A.d__law_one
  b__law_one : Binds K A.d__law_one ["_law_box_here", "_law_some"] []
  m__law_deeds : mg "_law_deeds" = some (.ref A.a__law_deeds)
  F__law_deeds : Fun K "_law_deeds" "_law_deeds" s__law_deeds A.a__law_deeds A.d__law_deeds
  b__law_deeds : Binds K A.d__law_deeds ["_law_box_here", "_law_frames", "_law_model_here", "_law_many"] []
  m__law_filled : mg "_law_filled" = some (.ref A.a__law_filled)
  F__law_filled : Fun K "_law_filled" "_law_filled" s__law_filled A.a__law_filled A.d__law_filled
  b__law_filled : Binds K A.d__law_filled ["_law_frames", "_law_model_here"] []
  m__law_kinds : mg "_law_kinds" = some (.ref A.a__law_kinds)
  F__law_kinds : Fun K "_law_kinds" "_law_kinds" s__law_kinds A.a__law_kinds A.d__law_kinds
  b__law_kinds : Binds K A.d__law_kinds ["_law_e"] []
  m__law_caught : mg "_law_caught" = some (.ref A.a__law_caught)
  F__law_caught : Fun K "_law_caught" "_law_caught" s__law_caught A.a__law_caught A.d__law_caught
  b__law_caught : Binds K A.d__law_caught ["_law_way", "_law_frames", "_law_thing"] []
  m__law_due : mg "_law_due" = some (.ref A.a__law_due)
  F__law_due : Fun K "_law_due" "_law_due" s__law_due A.a__law_due A.d__law_due
  b__law_due : Binds K A.d__law_due ["_law_way", "_law_model_here", "_law_thing"] []
  m__law_state : mg "_law_state" = some (.ref A.a__law_state)
  F__law_state : Fun K "_law_state" "_law_state" s__law_state A.a__law_state A.d__law_state
  b__law_state : Binds K A.d__law_state ["_law_frames"] []
  m__law_goes_on : mg "_law_goes_on" = some (.ref A.a__law_goes_on)
  F__law_goes_on : Fun K "_law_goes_on" "_law_goes_on" s__law_goes_on A.a__law_goes_on A.d__law_goes_on
  b__law_goes_on : Binds K A.d__law_goes_on ["_law_box_here", "_law_frames", "_law_model_here"] []
  m__law_things : mg "_law_things" = some (.ref A.a__law_things)
  F__law_things : Fun K "_law_things" "_law_things" s__law_things A.a__law_things A.d__law_things
  b__law_things : Binds K A.d__law_things ["_law_box_here", "_law_model_here"] []
  m_law : mg "law" = some (.ref A.a_law)
  F_law : Fun K "law" "law" s_law A.a_law A.d_law
  b_law : Binds K A.d_law ["_law_script"] []
  m_RoomError : mg "RoomError" = some (.ref A.a_RoomError)
  X_RoomError : ExcMk K A.a_RoomError A.a_RoomError___init__
  c_RoomError___init__ : ClsFn K A.a_RoomError "__init__" A.a_RoomError___init__
  e_RoomError : ExcF K A.a_RoomError
  g_RoomError : ExcG K A.a_RoomError
  U_RoomError_RoomError : Under K A.a_RoomError A.a_RoomError
  m_NoFrame : mg "NoFrame" = some (.ref A.a_NoFrame)
  X_NoFrame : ExcMk K A.a_NoFrame A.a_NoFrame___init__
  c_NoFrame___init__ : ClsFn K A.a_NoFrame "__init__" A.a_NoFrame___init__
  e_NoFrame : ExcF K A.a_NoFrame
  g_NoFrame : ExcG K A.a_NoFrame
  U_NoFrame_NoFrame : Under K A.a_NoFrame A.a_NoFrame
  U_NoFrame_RoomError : Under K A.a_NoFrame A.a_RoomError
  n_NoFrame_found : NoAttr K A.a_NoFrame "found"
  k_NoFrame : ExcK K A.a_NoFrame
  i_NoFrame_NoFrame : PySem.W.kitOne K (.ref A.a_NoFrame) (.ref A.a_NoFrame) = some true
  i_NoFrame_Gone : PySem.W.kitOne K (.ref A.a_NoFrame) (.ref A.a_Gone) = some false
  i_NoFrame_Ground : PySem.W.kitOne K (.ref A.a_NoFrame) (.ref A.a_Ground) = some false
  i_NoFrame_TooMany : PySem.W.kitOne K (.ref A.a_NoFrame) (.ref A.a_TooMany) = some false
  m_Gone : mg "Gone" = some (.ref A.a_Gone)
  X_Gone : ExcMk K A.a_Gone A.a_Gone___init__
  c_Gone___init__ : ClsFn K A.a_Gone "__init__" A.a_Gone___init__
  e_Gone : ExcF K A.a_Gone
  g_Gone : ExcG K A.a_Gone
  U_Gone_Gone : Under K A.a_Gone A.a_Gone
  U_Gone_RoomError : Under K A.a_Gone A.a_RoomError
  n_Gone_by : NoAttr K A.a_Gone "by"
  n_Gone_found : NoAttr K A.a_Gone "found"
  k_Gone : ExcK K A.a_Gone
  i_Gone_NoFrame : PySem.W.kitOne K (.ref A.a_Gone) (.ref A.a_NoFrame) = some false
  i_Gone_Gone : PySem.W.kitOne K (.ref A.a_Gone) (.ref A.a_Gone) = some true
  i_Gone_Ground : PySem.W.kitOne K (.ref A.a_Gone) (.ref A.a_Ground) = some false
  i_Gone_TooMany : PySem.W.kitOne K (.ref A.a_Gone) (.ref A.a_TooMany) = some false
  m_Ground : mg "Ground" = some (.ref A.a_Ground)
  X_Ground : ExcMk K A.a_Ground A.a_Ground___init__
  c_Ground___init__ : ClsFn K A.a_Ground "__init__" A.a_Ground___init__
  e_Ground : ExcF K A.a_Ground
  g_Ground : ExcG K A.a_Ground
  U_Ground_Ground : Under K A.a_Ground A.a_Ground
  U_Ground_RoomError : Under K A.a_Ground A.a_RoomError
  k_Ground : ExcK K A.a_Ground
  i_Ground_NoFrame : PySem.W.kitOne K (.ref A.a_Ground) (.ref A.a_NoFrame) = some false
  i_Ground_Gone : PySem.W.kitOne K (.ref A.a_Ground) (.ref A.a_Gone) = some false
  i_Ground_Ground : PySem.W.kitOne K (.ref A.a_Ground) (.ref A.a_Ground) = some true
  i_Ground_TooMany : PySem.W.kitOne K (.ref A.a_Ground) (.ref A.a_TooMany) = some false
  m_TooMany : mg "TooMany" = some (.ref A.a_TooMany)
  X_TooMany : ExcMk K A.a_TooMany A.a_TooMany___init__
  c_TooMany___init__ : ClsFn K A.a_TooMany "__init__" A.a_TooMany___init__
  e_TooMany : ExcF K A.a_TooMany
  g_TooMany : ExcG K A.a_TooMany
  U_TooMany_TooMany : Under K A.a_TooMany A.a_TooMany
  U_TooMany_RoomError : Under K A.a_TooMany A.a_RoomError
  n_TooMany_many : NoAttr K A.a_TooMany "many"
  k_TooMany : ExcK K A.a_TooMany
  i_TooMany_NoFrame : PySem.W.kitOne K (.ref A.a_TooMany) (.ref A.a_NoFrame) = some false
  i_TooMany_Gone : PySem.W.kitOne K (.ref A.a_TooMany) (.ref A.a_Gone) = some false
  i_TooMany_Ground : PySem.W.kitOne K (.ref A.a_TooMany) (.ref A.a_Ground) = some false
  i_TooMany_TooMany : PySem.W.kitOne K (.ref A.a_TooMany) (.ref A.a_TooMany) = some true
  m_Frames : mg "Frames" = some (.ref A.a_Frames)
  K_Frames : Cls K A.a_Frames
  M_Frames : Mk K A.a_Frames A.a_Frames___init__
  n_Frames_parents : NoAttr K A.a_Frames "parents"
  n_Frames_takers : NoAttr K A.a_Frames "takers"
  B_law : ∀ (s : Shared) (u : Value), BindsTo s A.d_law ⟨[u], []⟩ [("_law_script", u)]
  z_ValueError : mg "ValueError" = none
  z_bool : mg "bool" = none
  z_enumerate : mg "enumerate" = none
  z_int : mg "int" = none
  z_isinstance : mg "isinstance" = none
  z_len : mg "len" = none
  z_list : mg "list" = none
  z_max : mg "max" = none
  z_min : mg "min" = none
  z_range : mg "range" = none
  z_repr : mg "repr" = none
  z_reversed : mg "reversed" = none
  u_GROUND : ∃ u, RelV (V.int 0) u ∧ mg "GROUND" = some u
  u_MOST_FRAMES : ∃ u, RelV (V.int 100) u ∧ mg "MOST_FRAMES" = some u
/-! ### the mirror: frames by their lists -/
def oV : Option Nat → V
  | none => .non
  | some n => .int n
theorem pt_ne : ¬ (("parents" : Str) = "takers") := by decide +kernel
def flds (pa ta : Addr) : List (Str × V) := putF "takers" (.ref ta) (putF "parents" (.ref pa) [])
theorem flds_p (pa ta : Addr) : (flds pa ta).lookup ("parents" : Str) = some (.ref pa) := by
  unfold flds
  rw [lookup_putF, if_neg pt_ne, lookup_putF, if_pos rfl]
theorem flds_t (pa ta : Addr) : (flds pa ta).lookup ("takers" : Str) = some (.ref ta) := by
  unfold flds
  rw [lookup_putF, if_pos rfl]
theorem flds_no (pa ta : Addr) {m : Str} (h1 : ¬ m = "takers") (h2 : ¬ m = "parents") : (flds pa ta).lookup m = none := by
  unfold flds
  rw [lookup_putF, if_neg h1, lookup_putF, if_neg h2]
  all_goals rfl
/-- Frames stand at f, their lists at pa and ta -/
structure FrAt (C : Addr) (H : Hp) (f pa ta : Addr) (ps ts : List (Option Nat)) : Prop where
  ob : ∃ dx, H f = some (.ins C dx (flds pa ta))
  pl : H pa = some (.lst (ps.map oV))
  tl : H ta = some (.lst (ts.map oV))
  ne : pa ≠ ta
theorem FrAt.same {C : Addr} {H H' : Hp} {f pa ta : Addr} {ps ts : List (Option Nat)} (F : FrAt C H f pa ta ps ts) (s : Same H H') : FrAt C H' f pa ta ps ts := by
  obtain ⟨⟨dx, h⟩, h1, h2, h3⟩ := F
  exact ⟨⟨dx, s _ _ h⟩, s _ _ h1, s _ _ h2, h3⟩
structure WF (ps ts : List (Option Nat)) : Prop where
  len : ps.length = ts.length
  pos : 0 < ps.length
  le : ps.length ≤ 101
  root : ps[0]? = some none
  par : ∀ i, 0 < i → i < ps.length → ∃ j, ps[i]? = some (some j) ∧ j < i
  tk : ∀ (i j : Nat), ts[i]? = some (some j) → j < ps.length
def begunB (ps : List (Option Nat)) (t : Int) : Bool := decide (0 ≤ t) && decide (t ≤ (ps.length : Int) - 1)
def standB (ts : List (Option Nat)) (t : Int) : Bool := decide (0 ≤ t) && (ts[t.toNat]? == some none)
theorem at_map {xs : List (Option Nat)} {i : Nat} {o : Option Nat} (h : xs[i]? = some o) : atI (xs.map oV) (i : Int) = some (oV o) := atI_nat (by rw [List.getElem?_map, h]; rfl)
section
variable {P : Program} {w : World} {K : PySem.W.Frag} {mg : Str → Option Value} {base : Heap} {A : Adr}
def spNumI : Sp := fun vs H Q _ => ∃ i : Int, vs = [.int i] ∧ Q (.bl true) H
theorem ok_is_number (T : Txt K mg A) : FnOk P w K mg base CX0 1 A.a_is_number A.d_is_number ["thing"] spNumI := by
  refine T.F_is_number.ok sc_is_number (fun vs H Q E h => ?_) (fun cdv Ar outer s H vs Q E hr h => ?_)
  · obtain ⟨v, rfl, _⟩ := h
    rfl
  · obtain ⟨i, rfl, k⟩ := h
    refine ⟨_, (pss_one (ps_ret (pe_and (pe_callB call_isinst (by rfl) T.z_isinstance Boot.«isinstance» (pa_cons (pv 0) (pa_cons (pe_bltn (v := .ty "int") rfl T.z_int Boot.«int» rfl) pa_nil))) (pe_one (pe_not (pe_callB call_isinst (by rfl) T.z_isinstance Boot.«isinstance» (pa_cons (pv 0) (pa_cons (pe_bltn (v := .ty "bool") rfl T.z_bool Boot.«bool» rfl) pa_nil)))))))), ?_⟩
    exact ⟨_, rfl, _, _, _, _, rfl, .int i, rfl, _, rfl, iteT ⟨_, rfl, _, _, _, _, rfl, .int i, rfl, _, rfl, k⟩⟩
def spWholeI : Sp := fun vs H Q _ => ∃ i lo hi : Int, vs = [.int i, .int lo, .int hi] ∧ Q (.bl (decide (lo ≤ i) && decide (i ≤ hi))) H
theorem whole_if {lo hi i : Int} {Q : Bool → Prop} (k : Q (decide (lo ≤ i) && decide (i ≤ hi))) (A1 : Prop) (h : Q (decide (i ≤ hi)) → A1) : if decide (lo ≤ i) = true then A1 else Q false := by
  by_cases q : lo ≤ i
  · rw [decide_eq_true q] at k ⊢
    exact iteT (h (by simpa using k))
  · rw [decide_eq_false q] at k ⊢
    exact iteF (by simpa using k)
theorem ok_is_whole (T : Txt K mg A) : FnOk P w K mg base CX0 2 A.a_is_whole A.d_is_whole ["thing", "low", "high"] spWholeI := by
  have G_is_number : FnOk P w K mg base CX0 1 A.a_is_number A.d_is_number ["thing"] spNumI := ok_is_number T
  refine T.F_is_whole.ok sc_is_whole (fun vs H Q E h => ?_) (fun cdv Ar outer s H vs Q E hr h => ?_)
  · obtain ⟨v, lo, hi, rfl, _⟩ := h
    rfl
  · obtain ⟨i, lo, hi, rfl, k⟩ := h
    refine ⟨_, (pss_one (ps_ret (pe_and (pe_call G_is_number hr rfl T.m_is_number T.F_is_number.kp T.b_is_number .nil pass0 (pa_cons (pv 0) pa_nil)) (pe_one (pe_chain op_le op_le (pv 1) (pv 0) (pv 2)))))), ?_⟩
    refine ⟨_, rfl, i, rfl, _, rfl, ?_⟩
    exact iteT ⟨_, rfl, _, rfl, lo, i, rfl, rfl, _, rfl, whole_if (Q := fun b => Q (.bl b) H) k _ fun q => ⟨_, rfl, i, hi, rfl, rfl, q⟩⟩
def spBegun (C : Addr) : Sp := fun vs H Q _ => ∃ f pa ta ps ts, vs = [.ref f] ∧ FrAt C H f pa ta ps ts ∧ Q (.int ((ps.length : Int) - 1)) H
theorem ok_Frames_begun (T : Txt K mg A) : FnOk P w K mg base CX0 1 A.a_Frames_begun A.d_Frames_begun ["self"] (spBegun A.a_Frames) := by
  refine T.F_Frames_begun.ok sc_Frames_begun (fun vs H Q E h => ?_) (fun cdv Ar outer s H vs Q E hr h => ?_)
  · obtain ⟨f, pa, ta, ps, ts, rfl, _⟩ := h
    rfl
  · obtain ⟨f, pa, ta, ps, ts, rfl, F, k⟩ := h
    obtain ⟨⟨dx, ho⟩, hp, ht, ne⟩ := id F
    refine ⟨_, (pss_one (ps_ret (pe_op op_sub (pe_callB call_len_seq (by rfl) T.z_len Boot.«len» (pa_cons (pe_fld (pv 0) rfl) pa_nil)) pe_int))), ?_⟩
    refine ⟨_, rfl, f, A.a_Frames, dx, _, _, rfl, ho, T.K_Frames, T.n_Frames_parents, flds_p _ _, pa, _, rfl, .inl (SqL.of hp), _, 1, rfl, rfl, ?_⟩
    rw [List.length_map]
    exact k
def spWas (C : Addr) : Sp := fun vs H Q _ => ∃ f pa ta ps ts, ∃ t : Int, vs = [.ref f, .int t] ∧ FrAt C H f pa ta ps ts ∧ Q (.bl (begunB ps t)) H
theorem ok_Frames_was_begun (T : Txt K mg A) : FnOk P w K mg base CX0 3 A.a_Frames_was_begun A.d_Frames_was_begun ["self", "thing"] (spWas A.a_Frames) := by
  have G_is_whole : FnOk P w K mg base CX0 2 A.a_is_whole A.d_is_whole ["thing", "low", "high"] spWholeI := ok_is_whole T
  have G_Frames_begun : FnOk P w K mg base CX0 2 A.a_Frames_begun A.d_Frames_begun ["self"] (spBegun A.a_Frames) := (ok_Frames_begun T).mono (by decide)
  refine T.F_Frames_was_begun.ok sc_Frames_was_begun (fun vs H Q E h => ?_) (fun cdv Ar outer s H vs Q E hr h => ?_)
  · obtain ⟨f, pa, ta, ps, ts, t, rfl, _⟩ := h
    rfl
  · obtain ⟨f, pa, ta, ps, ts, t, rfl, F, k⟩ := h
    obtain ⟨⟨dx, ho⟩, hp, ht, ne⟩ := id F
    obtain ⟨u1, c_GROUND⟩ := T.u_GROUND
    refine ⟨_, (pss_one (ps_ret (pe_call G_is_whole hr rfl T.m_is_whole T.F_is_whole.kp T.b_is_whole .nil pass0 (pa_cons (pv 1) (pa_cons (pe_glob rfl c_GROUND.2 c_GROUND.1) (pa_cons (pe_meth0 (pv 0) T.K_Frames T.t_Frames_begun G_Frames_begun hr T.b_Frames_begun .nil pass0) pa_nil)))))), ?_⟩
    exact ⟨_, rfl, _, rfl, f, dx, _, rfl, ho, flds_no _ _ (by decide +kernel) (by decide +kernel), f, pa, ta, ps, ts, rfl, F, t, 0, _, rfl, k⟩
def spWantB (C : Addr) : Sp := fun vs H Q _ => ∃ f pa ta ps ts, ∃ t : Int, vs = [.ref f, .int t] ∧ FrAt C H f pa ta ps ts ∧ begunB ps t = true ∧ Q .non H
theorem ok_Frames_want_begun (T : Txt K mg A) : FnOk P w K mg base CX0 4 A.a_Frames_want_begun A.d_Frames_want_begun ["self", "thing"] (spWantB A.a_Frames) := by
  have G_Frames_was_begun : FnOk P w K mg base CX0 3 A.a_Frames_was_begun A.d_Frames_was_begun ["self", "thing"] (spWas A.a_Frames) := ok_Frames_was_begun T
  refine T.F_Frames_want_begun.ok sc_Frames_want_begun (fun vs H Q E h => ?_) (fun cdv Ar outer s H vs Q E hr h => ?_)
  · obtain ⟨f, pa, ta, ps, ts, t, rfl, _⟩ := h
    rfl
  · obtain ⟨f, pa, ta, ps, ts, t, rfl, F, hb, k⟩ := h
    obtain ⟨⟨dx, ho⟩, hp, ht, ne⟩ := id F
    refine ⟨_, (pss_one (ps_if (pt_not (pt_val (pe_meth (pv 0) T.K_Frames T.t_Frames_was_begun G_Frames_was_begun hr T.b_Frames_was_begun .nil pass0 (pa_cons (pv 1) pa_nil)))) (pss_one ps_never) pss_nil)), ?_⟩
    refine ⟨_, rfl, f, dx, _, rfl, ho, flds_no _ _ (by decide +kernel) (by decide +kernel), _, rfl, f, pa, ta, ps, ts, t, rfl, F, _, rfl, ?_⟩
    rw [hb]
    exact k
def spStands (C : Addr) : Sp := fun vs H Q _ => ∃ f pa ta ps ts, ∃ t : Int, vs = [.ref f, .int t] ∧ FrAt C H f pa ta ps ts ∧ ps.length = ts.length ∧ Q (.bl (standB ts t)) H
theorem ok_Frames_stands (T : Txt K mg A) : FnOk P w K mg base CX0 4 A.a_Frames_stands A.d_Frames_stands ["self", "thing"] (spStands A.a_Frames) := by
  have G_Frames_was_begun : FnOk P w K mg base CX0 3 A.a_Frames_was_begun A.d_Frames_was_begun ["self", "thing"] (spWas A.a_Frames) := ok_Frames_was_begun T
  refine T.F_Frames_stands.ok sc_Frames_stands (fun vs H Q E h => ?_) (fun cdv Ar outer s H vs Q E hr h => ?_)
  · obtain ⟨f, pa, ta, ps, ts, t, rfl, _⟩ := h
    rfl
  · obtain ⟨f, pa, ta, ps, ts, t, rfl, F, hl, k⟩ := h
    obtain ⟨⟨dx, ho⟩, hp, ht, ne⟩ := id F
    refine ⟨_, (pss_one (ps_ret (pe_and (pe_meth (pv 0) T.K_Frames T.t_Frames_was_begun G_Frames_was_begun hr T.b_Frames_was_begun .nil pass0 (pa_cons (pv 1) pa_nil)) (pe_one (pe_cmpR op_isN (pe_ix ix_list (pe_fld (pv 0) rfl) (pv 1) (fun _ _ => rfl)) pe_non (nomark _)))))), ?_⟩
    refine ⟨_, rfl, f, dx, _, rfl, ho, flds_no _ _ (by decide +kernel) (by decide +kernel), _, rfl, f, pa, ta, ps, ts, t, rfl, F, _, rfl, ?_⟩
    cases hb : begunB ps t with
    | true =>
      unfold begunB at hb
      rw [Bool.and_eq_true, decide_eq_true_iff, decide_eq_true_iff] at hb
      obtain ⟨j, rfl⟩ : ∃ j : Nat, t = j := ⟨t.toNat, by omega⟩
      have hj : j < ts.length := by omega
      have hx : ts[j]? = some ts[j] := by simp [hj]
      refine iteT ⟨_, rfl, f, A.a_Frames, dx, _, _, rfl, ho, T.K_Frames, T.n_Frames_takers, flds_t _ _, _, rfl, ta, _, _, _, rfl, rfl, SqL.of ht, at_map hx, rfl, ?_⟩
      have e : standB ts (j : Int) = decide (oV ts[j] = .non) := by
        unfold standB
        rw [decide_eq_true hb.1, Int.toNat_natCast, hx, Bool.true_and]
        cases ts[j] with
        | none => rfl
        | some n => rfl
      rw [← e]
      exact k
    | false =>
      have e : standB ts t = false := by
        unfold standB
        unfold begunB at hb
        by_cases h0 : 0 ≤ t
        · rw [decide_eq_true h0, Bool.true_and] at hb ⊢
          have h1 := of_decide_eq_false hb
          have : ts[t.toNat]? = none := List.getElem?_eq_none (by omega)
          rw [this]
          rfl
        · rw [decide_eq_false h0]
          rfl
      rw [e] at k
      exact iteF k
theorem stand_begun {ps ts : List (Option Nat)} {t : Int} (hl : ps.length = ts.length) (h : standB ts t = true) : begunB ps t = true := by
  unfold standB at h
  rw [Bool.and_eq_true, decide_eq_true_iff] at h
  have h1 := eq_of_beq h.2
  have h2 := (List.getElem?_eq_some_iff.mp h1).1
  unfold begunB
  rw [decide_eq_true h.1, decide_eq_true (show t ≤ (ps.length : Int) - 1 by omega)]
  rfl
def spWantS (C : Addr) : Sp := fun vs H Q _ => ∃ f pa ta ps ts, ∃ t : Int, vs = [.ref f, .int t] ∧ FrAt C H f pa ta ps ts ∧ ps.length = ts.length ∧ standB ts t = true ∧ Q .non H
theorem ok_Frames_want_standing (T : Txt K mg A) : FnOk P w K mg base CX0 5 A.a_Frames_want_standing A.d_Frames_want_standing ["self", "thing"] (spWantS A.a_Frames) := by
  have G_Frames_want_begun : FnOk P w K mg base CX0 4 A.a_Frames_want_begun A.d_Frames_want_begun ["self", "thing"] (spWantB A.a_Frames) := ok_Frames_want_begun T
  have G_Frames_stands : FnOk P w K mg base CX0 4 A.a_Frames_stands A.d_Frames_stands ["self", "thing"] (spStands A.a_Frames) := ok_Frames_stands T
  refine T.F_Frames_want_standing.ok sc_Frames_want_standing (fun vs H Q E h => ?_) (fun cdv Ar outer s H vs Q E hr h => ?_)
  · obtain ⟨f, pa, ta, ps, ts, t, rfl, _⟩ := h
    rfl
  · obtain ⟨f, pa, ta, ps, ts, t, rfl, F, hl, hb, k⟩ := h
    obtain ⟨⟨dx, ho⟩, hp, ht, ne⟩ := id F
    refine ⟨_, (pss_cons (ps_expr (pe_meth (pv 0) T.K_Frames T.t_Frames_want_begun G_Frames_want_begun hr T.b_Frames_want_begun .nil pass0 (pa_cons (pv 1) pa_nil))) (pss_one (ps_if (pt_not (pt_val (pe_meth (pv 0) T.K_Frames T.t_Frames_stands G_Frames_stands hr T.b_Frames_stands .nil pass0 (pa_cons (pv 1) pa_nil)))) (pss_one ps_never) pss_nil))), ?_⟩
    refine ⟨_, rfl, f, dx, _, rfl, ho, flds_no _ _ (by decide +kernel) (by decide +kernel), _, rfl, f, pa, ta, ps, ts, t, rfl, F, stand_begun hl hb, ?_⟩
    refine ⟨_, rfl, f, dx, _, rfl, ho, flds_no _ _ (by decide +kernel) (by decide +kernel), _, rfl, f, pa, ta, ps, ts, t, rfl, F, hl, _, rfl, ?_⟩
    rw [hb]
    exact k
def spBy (C : Addr) : Sp := fun vs H Q _ => ∃ f pa ta ps ts, ∃ (t : Nat) (o : Option Nat), vs = [.ref f, .int t] ∧ FrAt C H f pa ta ps ts ∧ ps.length = ts.length ∧ ts[t]? = some o ∧ Q (oV o) H
theorem ok_Frames_ended_by (T : Txt K mg A) : FnOk P w K mg base CX0 5 A.a_Frames_ended_by A.d_Frames_ended_by ["self", "frame"] (spBy A.a_Frames) := by
  have G_Frames_want_begun : FnOk P w K mg base CX0 4 A.a_Frames_want_begun A.d_Frames_want_begun ["self", "thing"] (spWantB A.a_Frames) := ok_Frames_want_begun T
  refine T.F_Frames_ended_by.ok sc_Frames_ended_by (fun vs H Q E h => ?_) (fun cdv Ar outer s H vs Q E hr h => ?_)
  · obtain ⟨f, pa, ta, ps, ts, t, o, rfl, _⟩ := h
    rfl
  · obtain ⟨f, pa, ta, ps, ts, t, o, rfl, F, hl, hx, k⟩ := h
    obtain ⟨⟨dx, ho⟩, hp, ht, ne⟩ := id F
    have hj : t < ts.length := (List.getElem?_eq_some_iff.mp hx).1
    have hb : begunB ps (t : Int) = true := by
      unfold begunB
      rw [decide_eq_true (show (0 : Int) ≤ t by omega), decide_eq_true (show (t : Int) ≤ (ps.length : Int) - 1 by omega)]
      rfl
    refine ⟨_, (pss_cons (ps_expr (pe_meth (pv 0) T.K_Frames T.t_Frames_want_begun G_Frames_want_begun hr T.b_Frames_want_begun .nil pass0 (pa_cons (pv 1) pa_nil))) (pss_one (ps_ret (pe_ix ix_list (pe_fld (pv 0) rfl) (pv 1) (fun _ _ => rfl))))), ?_⟩
    refine ⟨_, rfl, f, dx, _, rfl, ho, flds_no _ _ (by decide +kernel) (by decide +kernel), _, rfl, f, pa, ta, ps, ts, t, rfl, F, hb, ?_⟩
    exact ⟨_, rfl, f, A.a_Frames, dx, _, _, rfl, ho, T.K_Frames, T.n_Frames_takers, flds_t _ _, _, rfl, ta, _, _, _, rfl, rfl, SqL.of ht, at_map hx, k⟩
end
end My

namespace My
open PySem L2 PyProof.Rows
/-! ### the mirror: who stands, the way up -/
def standM (ts : List (Option Nat)) : List Nat := (List.range ts.length).filter fun i => ts[i]? == some none
def nV (n : Nat) : V := .int n
def upF (ps : List (Option Nat)) : Nat → Nat → List Nat
  | 0, f => [f]
  | n + 1, f => f :: (match ps[f]? with | some (some j) => upF ps n j | _ => [])
def upM (ps : List (Option Nat)) (f : Nat) : List Nat := upF ps f f
theorem up_zero {ps ts : List (Option Nat)} (W : WF ps ts) (n : Nat) : upF ps n 0 = [0] := by
  cases n with
  | zero => rfl
  | succ n =>
    show 0 :: (match ps[0]? with | some (some j) => upF ps n j | _ => []) = [0]
    rw [W.root]
theorem up_fuel {ps ts : List (Option Nat)} (W : WF ps ts) (f : Nat) : f < ps.length → ∀ n m, f ≤ n → f ≤ m → upF ps n f = upF ps m f := by
  induction f using Nat.strongRecOn with
  | _ f ih =>
    intro hf n m hn hm
    cases f with
    | zero => rw [up_zero W, up_zero W]
    | succ g =>
      obtain ⟨j, e, hj⟩ := W.par (g + 1) (by omega) hf
      obtain ⟨n', rfl⟩ : ∃ n', n = n' + 1 := ⟨n - 1, by omega⟩
      obtain ⟨m', rfl⟩ : ∃ m', m = m' + 1 := ⟨m - 1, by omega⟩
      show (g + 1) :: (match ps[g + 1]? with | some (some j) => upF ps n' j | _ => []) = (g + 1) :: (match ps[g + 1]? with | some (some j) => upF ps m' j | _ => [])
      rw [e]
      show (g + 1) :: upF ps n' j = (g + 1) :: upF ps m' j
      rw [ih j hj (by omega) n' m' (by omega) (by omega)]
/-- the way up from nothing, or from a frame -/
def upO (ps : List (Option Nat)) : Option Nat → List Nat
  | none => []
  | some j => upM ps j
theorem up_step {ps ts : List (Option Nat)} (W : WF ps ts) {f : Nat} {o : Option Nat} (h : ps[f]? = some o) : upM ps f = f :: upO ps o := by
  have hf : f < ps.length := (List.getElem?_eq_some_iff.mp h).1
  cases f with
  | zero =>
    rw [W.root] at h
    cases h
    rfl
  | succ g =>
    obtain ⟨j, e, hj⟩ := W.par (g + 1) (by omega) hf
    rw [e] at h
    cases h
    show (g + 1) :: (match ps[g + 1]? with | some (some j) => upF ps g j | _ => []) = (g + 1) :: upM ps j
    rw [e]
    show (g + 1) :: upF ps g j = (g + 1) :: upF ps j j
    rw [up_fuel W j (by omega) g j (by omega) (Nat.le_refl _)]
theorem up_len (ps : List (Option Nat)) : ∀ (n f : Nat), (upF ps n f).length ≤ n + 1
  | 0, f => Nat.le_refl _
  | n + 1, f => by
    show (match ps[f]? with | some (some j) => upF ps n j | _ => []).length + 1 ≤ n + 1 + 1
    split
    · have := up_len ps n ‹_›
      omega
    · simp
def rowM (ps : List (Option Nat)) (f : Nat) : List Nat := (upM ps f).reverse
section
variable {P : Program} {w : World} {K : PySem.W.Frag} {mg : Str → Option Value} {base : Heap} {A : Adr}
def spStanding (C : Addr) : Sp := fun vs H Q _ => ∃ f pa ta ps ts, vs = [.ref f] ∧ FrAt C H f pa ta ps ts ∧ ts.length ≤ 1000 ∧ ∀ l H', H l = none → Same H H' → H' l = some (.lst ((standM ts).map nV)) → Q (.ref l) H'
theorem ok_Frames_standing (T : Txt K mg A) : FnOk P w K mg base CX0 1 A.a_Frames_standing A.d_Frames_standing ["self"] (spStanding A.a_Frames) := by
  refine T.F_Frames_standing.ok sc_Frames_standing (fun vs H Q E h => ?_) (fun cdv Ar outer s H vs Q E hr h => ?_)
  · obtain ⟨f, pa, ta, ps, ts, rfl, _⟩ := h
    rfl
  · obtain ⟨f, pa, ta, ps, ts, rfl, F, hle, k⟩ := h
    obtain ⟨⟨dx, ho⟩, hp, ht, ne⟩ := id F
    refine ⟨_, (pss_one (ps_ret (pe_comp (N := ["number", "taker"]) (k := 2) (js := []) rfl (cscope_of (by kernel_rfl)) (pi_enumerate rfl T.z_enumerate (pa_cons (pe_fld (pv 0) rfl) pa_nil)) (fun _ _ _ _ _ => ⟨(pg_tupK (K := K) (n := 2) rfl rfl (pgs_cons (pg_name (i := 0) (show (["number", "taker"] : List Str).Nodup by decide +kernel) rfl (Or.inl rfl) (Or.inr rfl)) (pgs_cons (pg_name (i := 1) (show (["number", "taker"] : List Str).Nodup by decide +kernel) rfl (Or.inl rfl) (Or.inr rfl)) pgs_nil)) rfl rfl), (pif1 (pt_cmpR op_isN (pv 1) pe_non (nomark _))), (pv 0)⟩)))), ?_⟩
    refine ⟨_, rfl, f, A.a_Frames, dx, _, _, rfl, ho, T.K_Frames, T.n_Frames_takers, flds_t _ _, ta, _, rfl, ht, ?_⟩
    refine comp_grow (fun i => ts[i]? == some none) nV (feeds_enum (SqL.of ht)) ?_ ?_ fun p H' hp sm hl => k p H' hp sm ?_
    · rw [List.length_map]
      exact Nat.le_trans hle (by decide)
    · rintro i x H' C1 C0 hi sm ⟨t, y, rfl, hT, hy⟩ c1 c0
      rw [List.getElem?_map] at hy
      cases eo : ts[i]? with
      | none => rw [eo] at hy; cases hy
      | some o =>
        rw [eo] at hy c1 c0
        cases hy
        refine ⟨t, _, rfl, SqT.of hT, rfl, _, _, rfl, _, _, rfl, rfl, ((SubS.refl _).own (by decide)).own (by decide), _, rfl, rfl, _, rfl, ?_⟩
        cases o with
        | none => exact ⟨_, rfl, c1 rfl H' (Same.refl H')⟩
        | some n => exact c0 rfl H' (Same.refl H')
    · rw [List.length_map] at hl
      exact hl
def spRow (C : Addr) : Sp := fun vs H Q _ => ∃ f pa ta ps ts, ∃ t : Nat, vs = [.ref f, .int t] ∧ FrAt C H f pa ta ps ts ∧ WF ps ts ∧ t < ps.length ∧ ∀ l H', H l = none → Same H H' → H' l = some (.lst ((rowM ps t).map nV)) → Q (.ref l) H'
theorem begun_nat {ps : List (Option Nat)} {t : Nat} (h : t < ps.length) : begunB ps (t : Int) = true := by
  unfold begunB
  rw [decide_eq_true (show (0 : Int) ≤ t by omega), decide_eq_true (show (t : Int) ≤ (ps.length : Int) - 1 by omega)]
  rfl
theorem ok_Frames_row (T : Txt K mg A) : FnOk P w K mg base CX0 5 A.a_Frames_row A.d_Frames_row ["self", "frame"] (spRow A.a_Frames) := by
  have G_Frames_want_begun : FnOk P w K mg base CX0 4 A.a_Frames_want_begun A.d_Frames_want_begun ["self", "thing"] (spWantB A.a_Frames) := ok_Frames_want_begun T
  refine T.F_Frames_row.ok sc_Frames_row (fun vs H Q E h => ?_) (fun cdv Ar outer s H vs Q E hr h => ?_)
  · obtain ⟨f, pa, ta, ps, ts, t, rfl, _⟩ := h
    rfl
  · obtain ⟨f, pa, ta, ps, ts, t, rfl, F, W, hlt, k⟩ := h
    obtain ⟨⟨dx, ho⟩, hp, ht, ne⟩ := id F
    refine ⟨_, (pss_cons (ps_expr (pe_meth (pv 0) T.K_Frames T.t_Frames_want_begun G_Frames_want_begun hr T.b_Frames_want_begun .nil pass0 (pa_cons (pv 1) pa_nil))) (pss_cons (ps_set (i := 2) sc_Frames_row.nd rfl (Or.inl rfl) (pe_lst pa_nil)) (pss_cons (ps_set (i := 3) sc_Frames_row.nd rfl (Or.inl rfl) (pv 1)) (pss_cons (ps_while PassesOwn.never (pt_cmpR op_notN (pv 3) pe_non (nomark _)) (pss_cons (ps_expr (pe_bm PySem.F.plainAttrs_list PySem.F.slot_list_append PySem.F.type_list_append mt_append (pv 2) (pa_cons (pv 3) pa_nil))) (pss_one (ps_set (i := 3) sc_Frames_row.nd rfl (Or.inl rfl) (pe_ix ix_list (pe_fld (pv 0) rfl) (pv 3) (fun _ _ => rfl)))))) (pss_one (ps_ret (pe_listrev rfl rfl T.z_list rfl T.z_reversed (pa_cons (pv 2) pa_nil)))))))), ?_⟩
    refine ⟨_, rfl, f, dx, _, rfl, ho, flds_no _ _ (by decide +kernel) (by decide +kernel), _, rfl, f, pa, ta, ps, ts, t, rfl, F, begun_nat hlt, ?_⟩
    refine ⟨Nat.zero_le _, fun l hl => ?_⟩
    refine ⟨_, rfl, ?_⟩
    have up101 : (upM ps t).length ≤ 101 := by
      have := up_len ps t t
      have := W.le
      show (upF ps t t).length ≤ 101
      omega
    refine ⟨fun m σ H' => ∃ (acc : List Nat) (o : Option Nat), σ = [some (.ref f), some (.int t), some (.ref l), some (oV o)] ∧ H' = upd H l (.lst (acc.map nV)) ∧ acc ++ upO ps o = upM ps t ∧ (∀ j, o = some j → j < ps.length) ∧ m = (match o with | none => 0 | some j => j + 1), ⟨t + 1, [], some t, rfl, rfl, rfl, ?_, rfl⟩, ?_⟩
    · intro j e
      cases e
      exact hlt
    · rintro m σ H' ⟨acc, o, rfl, rfl, hacc, hj, rfl⟩
      have sm := Same.upd (o := .lst (acc.map nV)) hl
      refine ⟨_, rfl, rfl, _, rfl, ?_⟩
      cases o with
      | none =>
        refine ⟨_, rfl, l, _, rfl, SqL.of upd_same, fun l2 hl2 => ?_⟩
        have s2 := Same.upd (o := .lst (acc.map nV).reverse) hl2
        refine k l2 _ (sm.free hl2) (sm.trans s2) ?_
        have e : acc = upM ps t := by simpa [upO] using hacc
        rw [upd_same, e, ← List.map_reverse]
        rfl
      | some j =>
        have hjl := hj j rfl
        have hx : ps[j]? = some ps[j] := by simp [hjl]
        have est := up_step W hx
        have hacc2 : acc ++ upM ps j = upM ps t := hacc
        have hal : acc.length < 101 := by
          have e1 : (acc ++ upM ps j).length ≤ 101 := by rw [hacc2]; exact up101
          rw [est, List.length_append, List.length_cons] at e1
          omega
        refine ⟨fun σ' H' => ∃ m', m' < j + 1 ∧ ∃ (acc : List Nat) (o : Option Nat), σ' = [some (.ref f), some (.int t), some (.ref l), some (oV o)] ∧ H' = upd H l (.lst (acc.map nV)) ∧ acc ++ upO ps o = upM ps t ∧ (∀ j, o = some j → j < ps.length) ∧ m' = (match o with | none => 0 | some j => j + 1), fun σ' H' h => h, ?_⟩
        refine ⟨_, rfl, .inl ⟨rfl, _, SqL.of upd_same⟩, _, rfl, l, _, _, rfl, rfl, upd_same, ?_, ?_⟩
        · rw [List.length_map]
          exact Nat.lt_of_lt_of_le hal (by decide)
        rw [upd_upd]
        have s3 := Same.upd (o := .lst (acc.map nV ++ [oV (some j)])) hl
        refine ⟨_, rfl, f, A.a_Frames, dx, _, _, rfl, s3 _ _ ho, T.K_Frames, T.n_Frames_parents, flds_p _ _, _, rfl, pa, _, _, _, rfl, rfl, SqL.of (s3 _ _ hp), at_map hx, ?_⟩
        have hpar : ∀ i, ps[j] = some i → i < j := fun i e => by
          rw [e] at hx
          cases j with
          | zero => rw [W.root] at hx; cases hx
          | succ g =>
            obtain ⟨i', e', hi'⟩ := W.par (g + 1) (by omega) hjl
            rw [e'] at hx
            cases hx
            exact hi'
        refine ⟨(match ps[j] with | none => 0 | some i => i + 1), ?_, acc ++ [j], ps[j], rfl, ?_, ?_, fun i e => ?_, rfl⟩
        · cases e : ps[j] with
          | none => show 0 < j + 1; omega
          | some i => have := hpar i e; show i + 1 < j + 1; omega
        · rw [List.map_append]
          rfl
        · rw [List.append_assoc, ← hacc2, est]
          rfl
        · have := hpar i e
          omega
end
end My

namespace My
open PySem L2 PyProof.Rows
def Kept2 (pa ta : Addr) (H H' : Hp) : Prop := ∀ c o, c ≠ pa → c ≠ ta → H c = some o → H' c = some o
theorem Kept2.refl (pa ta : Addr) (H : Hp) : Kept2 pa ta H H := fun _ _ _ _ e => e
theorem Kept2.trans {pa ta : Addr} {H H1 H2 : Hp} (h : Kept2 pa ta H H1) (h' : Kept2 pa ta H1 H2) : Kept2 pa ta H H2 := fun c o h1 h2 e => h' c o h1 h2 (h c o h1 h2 e)
def finM (ps ts : List (Option Nat)) (t : Nat) : List Nat := (standM ts).reverse.filter fun n => decide (t ∈ rowM ps n)
def setM (t : Nat) : List Nat → List (Option Nat) → List (Option Nat)
  | [], ts => ts
  | n :: r, ts => setM t r (ts.set n (some t))
theorem setM_len (t : Nat) : ∀ (E : List Nat) (ts : List (Option Nat)), (setM t E ts).length = ts.length
  | [], ts => rfl
  | n :: r, ts => by
    show (setM t r (ts.set n (some t))).length = ts.length
    rw [setM_len t r, List.length_set]
theorem setM_snoc (t n : Nat) : ∀ (E : List Nat) (ts : List (Option Nat)), setM t (E ++ [n]) ts = (setM t E ts).set n (some t)
  | [], ts => rfl
  | m :: r, ts => setM_snoc t n r (ts.set m (some t))
theorem stand_lt {ts : List (Option Nat)} {n : Nat} (h : n ∈ standM ts) : n < ts.length := List.mem_range.mp (List.mem_filter.mp h).1
theorem stand_iff {ts : List (Option Nat)} {n : Nat} : n ∈ standM ts ↔ standB ts (n : Int) = true := by
  unfold standM standB
  rw [List.mem_filter, List.mem_range, decide_eq_true (show (0 : Int) ≤ n by omega), Bool.true_and, Int.toNat_natCast]
  constructor
  · exact fun h => h.2
  · intro h
    exact ⟨(List.getElem?_eq_some_iff.mp (eq_of_beq h)).1, h⟩
theorem fin_lt {ps ts : List (Option Nat)} {t n : Nat} (h : n ∈ finM ps ts t) : n < ts.length := stand_lt (List.mem_reverse.mp (List.mem_filter.mp h).1)
theorem getD_range (S : List Nat) : S = (List.range S.length).map fun i => S.getD i 0 := by
  apply List.ext_getElem?
  intro i
  rw [List.getElem?_map]
  by_cases h : i < S.length
  · rw [List.getElem?_range h]
    simp [List.getD_eq_getElem?_getD, h]
  · rw [List.getElem?_eq_none (by omega), List.getElem?_eq_none (by rw [List.length_range]; omega)]
    rfl
theorem range_filter (S : List Nat) (p : Nat → Bool) (g : Nat → V) : ((List.range S.length).filter fun i => p (S.getD i 0)).map (fun i => g (S.getD i 0)) = (S.filter p).map g := by
  conv => rhs; rw [getD_range S]
  rw [List.filter_map, List.map_map]
  rfl
theorem inV_nV (t : Nat) (R : List Nat) : inV (nV t) (R.map nV) = decide (t ∈ R) := by
  unfold inV
  rw [List.any_map, Bool.eq_iff_iff, List.any_eq_true, decide_eq_true_iff]
  constructor
  · rintro ⟨n, hn, e⟩
    have e : ((n : Int) == (t : Int)) = true := e
    have e := eq_of_beq e
    have : n = t := by omega
    rw [← this]
    exact hn
  · intro h
    exact ⟨t, h, by show ((t : Int) == (t : Int)) = true; simp⟩
theorem flat_nV (R : List Nat) : (R.map nV).all flatV = true := by
  rw [List.all_map, List.all_eq_true]
  intro n _
  rfl
section
variable {P : Program} {w : World} {K : PySem.W.Frag} {mg : Str → Option Value} {base : Heap} {A : Adr}
def spInit (C : Addr) : Sp := fun vs H Q _ => ∃ (p dx : Addr), vs = [.ref p] ∧ H p = some (.ins C dx []) ∧ ∀ pa ta H', H pa = none → H ta = none → FrAt C H' p pa ta [none] [none] → (∀ b o, H b = some o → b ≠ p → H' b = some o) → Q .non H'
theorem ok_Frames___init__ (T : Txt K mg A) : FnOk P w K mg base CX0 1 A.a_Frames___init__ A.d_Frames___init__ ["self"] (spInit A.a_Frames) := by
  refine T.F_Frames___init__.ok sc_Frames___init__ (fun vs H Q E h => ?_) (fun cdv Ar outer s H vs Q E hr h => ?_)
  · obtain ⟨p, dx, rfl, _⟩ := h
    rfl
  · obtain ⟨p, dx, rfl, hp, k⟩ := h
    refine ⟨_, (pss_cons (ps_fld (pv 0) (pe_lst (pa_cons pe_non pa_nil)) rfl) (pss_one (ps_fld (pv 0) (pe_lst (pa_cons pe_non pa_nil)) rfl))), ?_⟩
    refine ⟨(show 1 ≤ sizeLine by decide), fun pa hpa => ?_⟩
    have np : p ≠ pa := ne_of_none hp hpa
    refine ⟨_, rfl, p, A.a_Frames, dx, [], rfl, (by rw [upd_ne np]; exact hp), T.K_Frames, T.n_Frames_parents, (by show 0 < 1000; decide), (show 1 ≤ sizeLine by decide), fun ta hta => ?_⟩
    have nt : p ≠ ta := ne_of_none upd_same hta
    have hta1 : upd H pa (.lst [.non]) ta = none := by
      rw [upd_ne nt.symm] at hta
      exact hta
    have npt : pa ≠ ta := ne_of_none upd_same hta1
    have hta0 : H ta = none := by
      rw [upd_ne npt.symm] at hta1
      exact hta1
    refine ⟨_, rfl, p, A.a_Frames, dx, _, rfl, (by rw [upd_ne nt, upd_same]), T.K_Frames, T.n_Frames_takers, (by show 1 < 1000; decide), ?_⟩
    refine k pa ta _ hpa hta0 ⟨⟨dx, upd_same⟩, ?_, ?_, npt⟩ fun b o e hb => ?_
    · rw [upd_ne np.symm, upd_ne npt, upd_ne np.symm, upd_same]
      rfl
    · rw [upd_ne nt.symm, upd_same]
      rfl
    · rw [upd_ne hb, upd_ne (ne_of_none e hta0), upd_ne hb, upd_ne (ne_of_none e hpa)]
      exact e
def spWantBeg (C : Addr) : Sp := fun vs H Q _ => ∃ f pa ta ps ts, ∃ t : Nat, vs = [.ref f, .int t] ∧ FrAt C H f pa ta ps ts ∧ ps.length = ts.length ∧ standB ts (t : Int) = true ∧ ps.length ≤ 100 ∧ Q .non H
def spBegin (C : Addr) : Sp := fun vs H Q _ => ∃ f pa ta ps ts, ∃ t : Nat, vs = [.ref f, .int t] ∧ FrAt C H f pa ta ps ts ∧ ps.length = ts.length ∧ standB ts (t : Int) = true ∧ ps.length ≤ 100 ∧
  ∀ H', FrAt C H' f pa ta (ps ++ [some t]) (ts ++ [none]) → Kept2 pa ta H H' → Q (.int ps.length) H'
theorem ok_Frames_want_beginning (T : Txt K mg A) : FnOk P w K mg base CX0 6 A.a_Frames_want_beginning A.d_Frames_want_beginning ["self", "thing"] (spWantBeg A.a_Frames) := by
  have G_Frames_want_standing : FnOk P w K mg base CX0 5 A.a_Frames_want_standing A.d_Frames_want_standing ["self", "thing"] (spWantS A.a_Frames) := ok_Frames_want_standing T
  have G_Frames_begun : FnOk P w K mg base CX0 5 A.a_Frames_begun A.d_Frames_begun ["self"] (spBegun A.a_Frames) := (ok_Frames_begun T).mono (by decide)
  refine T.F_Frames_want_beginning.ok sc_Frames_want_beginning (fun vs H Q E h => ?_) (fun cdv Ar outer s H vs Q E hr h => ?_)
  · obtain ⟨f, pa, ta, ps, ts, t, rfl, _⟩ := h
    rfl
  · obtain ⟨f, pa, ta, ps, ts, t, rfl, F, hl, hb, hle, k⟩ := h
    obtain ⟨⟨dx, ho⟩, hp, ht, ne⟩ := id F
    obtain ⟨u1, c_MOST_FRAMES⟩ := T.u_MOST_FRAMES
    refine ⟨_, (pss_cons (ps_expr (pe_meth (pv 0) T.K_Frames T.t_Frames_want_standing G_Frames_want_standing hr T.b_Frames_want_standing .nil pass0 (pa_cons (pv 1) pa_nil))) (pss_one (ps_if (pt_cmpR op_eq (pe_meth0 (pv 0) T.K_Frames T.t_Frames_begun G_Frames_begun hr T.b_Frames_begun .nil pass0) (pe_glob rfl c_MOST_FRAMES.2 c_MOST_FRAMES.1) (nomark _)) (pss_one ps_never) pss_nil))), ?_⟩
    refine ⟨_, rfl, f, dx, _, rfl, ho, flds_no _ _ (by decide +kernel) (by decide +kernel), _, rfl, f, pa, ta, ps, ts, t, rfl, F, hl, hb, ?_⟩
    refine ⟨_, rfl, f, dx, _, rfl, ho, flds_no _ _ (by decide +kernel) (by decide +kernel), f, pa, ta, ps, ts, rfl, F, ?_⟩
    refine ⟨rfl, _, rfl, ?_⟩
    rw [decide_eq_false (show ¬ V.int ((ps.length : Int) - 1) = V.int 100 by intro z; injection z with z; omega)]
    exact iteF k
theorem ok_Frames_begin (T : Txt K mg A) : FnOk P w K mg base CX0 7 A.a_Frames_begin A.d_Frames_begin ["self", "frame"] (spBegin A.a_Frames) := by
  have G_Frames_want_beginning : FnOk P w K mg base CX0 6 A.a_Frames_want_beginning A.d_Frames_want_beginning ["self", "thing"] (spWantBeg A.a_Frames) := ok_Frames_want_beginning T
  have G_Frames_begun : FnOk P w K mg base CX0 6 A.a_Frames_begun A.d_Frames_begun ["self"] (spBegun A.a_Frames) := (ok_Frames_begun T).mono (by decide)
  refine T.F_Frames_begin.ok sc_Frames_begin (fun vs H Q E h => ?_) (fun cdv Ar outer s H vs Q E hr h => ?_)
  · obtain ⟨f, pa, ta, ps, ts, t, rfl, _⟩ := h
    rfl
  · obtain ⟨f, pa, ta, ps, ts, t, rfl, F, hl, hb, hle, k⟩ := h
    obtain ⟨⟨dx, ho⟩, hp, ht, ne⟩ := id F
    have fp : f ≠ pa := ne_of ho hp (by intro z; cases z)
    have ft : f ≠ ta := ne_of ho ht (by intro z; cases z)
    refine ⟨_, (pss_cons (ps_expr (pe_meth (pv 0) T.K_Frames T.t_Frames_want_beginning G_Frames_want_beginning hr T.b_Frames_want_beginning .nil pass0 (pa_cons (pv 1) pa_nil))) (pss_cons (ps_expr (pe_bm PySem.F.plainAttrs_list PySem.F.slot_list_append PySem.F.type_list_append mt_append (pe_fld (pv 0) rfl) (pa_cons (pv 1) pa_nil))) (pss_cons (ps_expr (pe_bm PySem.F.plainAttrs_list PySem.F.slot_list_append PySem.F.type_list_append mt_append (pe_fld (pv 0) rfl) (pa_cons pe_non pa_nil))) (pss_one (ps_ret (pe_meth0 (pv 0) T.K_Frames T.t_Frames_begun G_Frames_begun hr T.b_Frames_begun .nil pass0)))))), ?_⟩
    refine ⟨_, rfl, f, dx, _, rfl, ho, flds_no _ _ (by decide +kernel) (by decide +kernel), _, rfl, f, pa, ta, ps, ts, t, rfl, F, hl, hb, hle, ?_⟩
    refine ⟨_, rfl, f, A.a_Frames, dx, _, _, rfl, ho, T.K_Frames, T.n_Frames_parents, flds_p _ _, .inl ⟨rfl, _, SqL.of hp⟩, _, rfl, pa, _, _, rfl, rfl, hp, ?_, ?_⟩
    · rw [List.length_map]
      exact Nat.lt_of_le_of_lt hle (by decide)
    have ho2 : ∀ o, upd H pa o f = some (.ins A.a_Frames dx (flds pa ta)) := fun o => by rw [upd_ne fp]; exact ho
    have ht2 : ∀ o, upd H pa o ta = some (.lst (ts.map oV)) := fun o => by rw [upd_ne ne.symm]; exact ht
    refine ⟨_, rfl, f, A.a_Frames, dx, _, _, rfl, ho2 _, T.K_Frames, T.n_Frames_takers, flds_t _ _, .inl ⟨rfl, _, SqL.of (ht2 _)⟩, ta, _, _, rfl, rfl, ht2 _, ?_, ?_⟩
    · rw [List.length_map]
      exact Nat.lt_of_le_of_lt (show ts.length ≤ 100 by omega) (by decide)
    have ho3 : ∀ o o', upd (upd H pa o) ta o' f = some (.ins A.a_Frames dx (flds pa ta)) := fun o o' => by rw [upd_ne ft]; exact ho2 _
    have F3 : FrAt A.a_Frames (upd (upd H pa (.lst (ps.map oV ++ [V.int t]))) ta (.lst (ts.map oV ++ [V.non]))) f pa ta (ps ++ [some t]) (ts ++ [none]) := by
      refine ⟨⟨dx, ho3 _ _⟩, ?_, ?_, ne⟩
      · rw [upd_ne ne, upd_same, List.map_append]
        rfl
      · rw [upd_same, List.map_append]
        rfl
    refine ⟨_, rfl, f, dx, _, rfl, ho3 _ _, flds_no _ _ (by decide +kernel) (by decide +kernel), f, pa, ta, _, _, rfl, F3, ?_⟩
    rw [show (((ps ++ [some t]).length : Nat) : Int) - 1 = (ps.length : Int) by rw [List.length_append, List.length_singleton]; omega]
    refine k _ F3 fun c o h1 h2 e => ?_
    rw [upd_ne h2, upd_ne h1]
    exact e
end
end My

namespace My
open PySem L2 PyProof.Rows
theorem map_set_oV (ts : List (Option Nat)) (n t : Nat) : (ts.map oV).set n (.int t) = (ts.set n (some t)).map oV := by
  rw [List.map_set]
  rfl
theorem ixN_nat {n i : Nat} (h : i < n) : ixN n (i : Int) = some i := by
  unfold ixN
  rw [if_pos (show (0 : Int) ≤ (i : Int) by omega), if_pos (show (i : Int) < (n : Int) by omega), Int.toNat_natCast]
section
variable {P : Program} {w : World} {K : PySem.W.Frag} {mg : Str → Option Value} {base : Heap} {A : Adr}
def spWantFin (C : Addr) : Sp := fun vs H Q _ => ∃ f pa ta ps ts, ∃ t : Nat, vs = [.ref f, .int t] ∧ FrAt C H f pa ta ps ts ∧ ps.length = ts.length ∧ standB ts (t : Int) = true ∧ t ≠ 0 ∧ Q .non H
theorem ok_Frames_want_finishing (T : Txt K mg A) : FnOk P w K mg base CX0 6 A.a_Frames_want_finishing A.d_Frames_want_finishing ["self", "thing"] (spWantFin A.a_Frames) := by
  have G_Frames_want_standing : FnOk P w K mg base CX0 5 A.a_Frames_want_standing A.d_Frames_want_standing ["self", "thing"] (spWantS A.a_Frames) := ok_Frames_want_standing T
  refine T.F_Frames_want_finishing.ok sc_Frames_want_finishing (fun vs H Q E h => ?_) (fun cdv Ar outer s H vs Q E hr h => ?_)
  · obtain ⟨f, pa, ta, ps, ts, t, rfl, _⟩ := h
    rfl
  · obtain ⟨f, pa, ta, ps, ts, t, rfl, F, hl, hb, h0, k⟩ := h
    obtain ⟨⟨dx, ho⟩, hp, ht, ne⟩ := id F
    obtain ⟨u1, c_GROUND⟩ := T.u_GROUND
    refine ⟨_, (pss_cons (ps_expr (pe_meth (pv 0) T.K_Frames T.t_Frames_want_standing G_Frames_want_standing hr T.b_Frames_want_standing .nil pass0 (pa_cons (pv 1) pa_nil))) (pss_one (ps_if (pt_cmpR op_eq (pv 1) (pe_glob rfl c_GROUND.2 c_GROUND.1) (nomark _)) (pss_one ps_never) pss_nil))), ?_⟩
    refine ⟨_, rfl, f, dx, _, rfl, ho, flds_no _ _ (by decide +kernel) (by decide +kernel), _, rfl, f, pa, ta, ps, ts, t, rfl, F, hl, hb, ?_⟩
    refine ⟨_, rfl, rfl, _, rfl, ?_⟩
    rw [decide_eq_false (show ¬ V.int (t : Int) = V.int 0 by intro z; injection z with z; omega)]
    exact iteF k
def spPart (C : Addr) : Sp := fun vs H Q _ => ∃ f pa ta ps ts, ∃ t : Nat, vs = [.ref f, .int t] ∧ FrAt C H f pa ta ps ts ∧ WF ps ts ∧
  ∀ l H', H l = none → Same H H' → H' l = some (.lst ((finM ps ts t).map nV)) → Q (.ref l) H'
theorem ok_Frames_part (T : Txt K mg A) : FnOk P w K mg base CX0 6 A.a_Frames_part A.d_Frames_part ["self", "frame"] (spPart A.a_Frames) := by
  have G_Frames_standing : FnOk P w K mg base CX0 5 A.a_Frames_standing A.d_Frames_standing ["self"] (spStanding A.a_Frames) := (ok_Frames_standing T).mono (by decide)
  have G_Frames_row : FnOk P w K mg base CX0 5 A.a_Frames_row A.d_Frames_row ["self", "frame"] (spRow A.a_Frames) := ok_Frames_row T
  refine T.F_Frames_part.ok sc_Frames_part (fun vs H Q E h => ?_) (fun cdv Ar outer s H vs Q E hr h => ?_)
  · obtain ⟨f, pa, ta, ps, ts, t, rfl, _⟩ := h
    rfl
  · obtain ⟨f, pa, ta, ps, ts, t, rfl, F, W, k⟩ := h
    obtain ⟨⟨dx, ho⟩, hp, ht, ne⟩ := id F
    have hl := W.len
    refine ⟨_, (pss_one (ps_ret (pe_comp (N := ["number", "frame", "self"]) (k := 1) (js := [1, 0]) rfl (cscope_of (by kernel_rfl)) (pi_reversed rfl T.z_reversed (pa_cons (pe_meth0 (pv 0) T.K_Frames T.t_Frames_standing G_Frames_standing hr T.b_Frames_standing .nil pass0) pa_nil)) (fun _ _ _ _ _ => ⟨(pg_name (i := 0) (show (["number", "frame", "self"] : List Str).Nodup by decide +kernel) rfl (Or.inl rfl) (Or.inr rfl)), (pif1 (pt_cmpR (op_in_seqK (K := K) rfl) (pv 1) (pe_meth (pv 2) T.K_Frames T.t_Frames_row G_Frames_row hr T.b_Frames_row .nil pass0 (pa_cons (pv 0) pa_nil)) (by with_unfolding_all rfl))), (pv 0)⟩)))), ?_⟩
    refine ⟨_, rfl, f, dx, _, rfl, ho, flds_no _ _ (by decide +kernel) (by decide +kernel), f, pa, ta, ps, ts, rfl, F, by have := W.le; omega, fun sl H1 hsl s1 hs1 => ?_⟩
    have F1 := F.same s1
    obtain ⟨⟨dx1, ho1⟩, hp1, ht1, _⟩ := id F1
    refine ⟨sl, _, rfl, SqL.of hs1, ?_⟩
    have hS : ((standM ts).map nV).reverse = (standM ts).reverse.map nV := by rw [List.map_reverse]
    have hSl : ((standM ts).map nV).reverse.length = (standM ts).reverse.length := by rw [hS, List.length_map]
    refine comp_grow (fun i => decide (t ∈ rowM ps ((standM ts).reverse.getD i 0))) (fun i => nV ((standM ts).reverse.getD i 0)) (feeds_rev (SqL.of hs1)).g ?_ ?_ fun l H2 hl2 s2 hL => ?_
    · rw [hSl, List.length_reverse]
      refine Nat.le_trans (List.length_filter_le _ _) ?_
      rw [List.length_range]
      have := W.le
      exact Nat.le_trans (show ts.length ≤ 101 by omega) (by decide)
    · intro i x H' C1 C0 hi sm hx c1 c0
      rw [hS, List.getElem?_map] at hx
      cases en : (standM ts).reverse[i]? with
      | none => rw [en] at hx; cases hx
      | some n =>
        rw [en] at hx
        cases hx
        have ed : (standM ts).reverse.getD i 0 = n := by rw [List.getD_eq_getElem?_getD, en]; rfl
        have hn : n < ps.length := by
          have := stand_lt (List.mem_reverse.mp (List.mem_of_getElem? en))
          omega
        rw [ed] at c1 c0
        have F' := F1.same sm
        obtain ⟨⟨dx', ho'⟩, _, _, _⟩ := id F'
        refine ⟨(SubS.refl _).own (by decide), _, rfl, _, rfl, f, dx', _, rfl, ho', flds_no _ _ (by decide +kernel) (by decide +kernel), _, rfl, f, pa, ta, ps, ts, n, rfl, F', W, hn, fun rl H3 hrl s3 hr3 => ?_⟩
        refine ⟨rl, _, rfl, .inl (SqL.of hr3), rfl, flat_nV _, _, rfl, ?_⟩
        have e : inV (V.int (t : Int)) ((rowM ps n).map nV) = decide (t ∈ rowM ps n) := inV_nV t _
        show if inV (V.int (t : Int)) ((rowM ps n).map nV) = true then _ else _
        rw [e]
        cases hd : decide (t ∈ rowM ps n) with
        | true => exact iteT ⟨_, rfl, c1 hd H3 s3⟩
        | false => exact iteF (c0 hd H3 s3)
    · rw [hSl] at hL
      have hL : H2 l = some (.lst ((finM ps ts t).map nV)) := by
        rw [hL]
        exact congrArg (fun z => some (HO.lst z)) (range_filter (standM ts).reverse (fun n => decide (t ∈ rowM ps n)) nV)
      exact k l H2 (s1.free hl2) (s1.trans s2) hL
def spFinish (C : Addr) : Sp := fun vs H Q _ => ∃ f pa ta ps ts, ∃ t : Nat, vs = [.ref f, .int t] ∧ FrAt C H f pa ta ps ts ∧ WF ps ts ∧ standB ts (t : Int) = true ∧ t ≠ 0 ∧
  ∀ l H', H l = none → H' l = some (.lst ((finM ps ts t).map nV)) → FrAt C H' f pa ta ps (setM t (finM ps ts t) ts) → Kept2 pa ta H H' → Q (.ref l) H'
theorem ok_Frames_finish (T : Txt K mg A) : FnOk P w K mg base CX0 7 A.a_Frames_finish A.d_Frames_finish ["self", "frame"] (spFinish A.a_Frames) := by
  have G_Frames_want_finishing : FnOk P w K mg base CX0 6 A.a_Frames_want_finishing A.d_Frames_want_finishing ["self", "thing"] (spWantFin A.a_Frames) := ok_Frames_want_finishing T
  have G_Frames_part : FnOk P w K mg base CX0 6 A.a_Frames_part A.d_Frames_part ["self", "frame"] (spPart A.a_Frames) := ok_Frames_part T
  refine T.F_Frames_finish.ok sc_Frames_finish (fun vs H Q E h => ?_) (fun cdv Ar outer s H vs Q E hr h => ?_)
  · obtain ⟨f, pa, ta, ps, ts, t, rfl, _⟩ := h
    rfl
  · obtain ⟨f, pa, ta, ps, ts, t, rfl, F, W, hb, h0, k⟩ := h
    obtain ⟨⟨dx, ho⟩, hp, ht, ne⟩ := id F
    have hl := W.len
    have fp : f ≠ pa := ne_of ho hp (by intro z; cases z)
    have ft : f ≠ ta := ne_of ho ht (by intro z; cases z)
    refine ⟨_, (pss_cons (ps_expr (pe_meth (pv 0) T.K_Frames T.t_Frames_want_finishing G_Frames_want_finishing hr T.b_Frames_want_finishing .nil pass0 (pa_cons (pv 1) pa_nil))) (pss_cons (ps_set (i := 2) sc_Frames_finish.nd rfl (Or.inl rfl) (pe_meth (pv 0) T.K_Frames T.t_Frames_part G_Frames_part hr T.b_Frames_part .nil pass0 (pa_cons (pv 1) pa_nil))) (pss_cons (ps_for PassesOwn.never rfl (pi_list (pv 2)) (pg_name (i := 3) sc_Frames_finish.nd rfl (Or.inl rfl) (Or.inl rfl)) (pss_one (ps_asg (pv 1) (pg_sub (pe_fld (pv 0) rfl) (pv 3) set_list)))) (pss_one (ps_ret (pv 2)))))), ?_⟩
    refine ⟨_, rfl, f, dx, _, rfl, ho, flds_no _ _ (by decide +kernel) (by decide +kernel), _, rfl, f, pa, ta, ps, ts, t, rfl, F, hl, hb, h0, ?_⟩
    refine ⟨_, rfl, f, dx, _, rfl, ho, flds_no _ _ (by decide +kernel) (by decide +kernel), _, rfl, f, pa, ta, ps, ts, t, rfl, F, W, fun l H2 hl0 s12 hL => ?_⟩
    · have F2 := F.same s12
      obtain ⟨⟨dx2, ho2⟩, hp2, ht2, _⟩ := id F2
      have hlt : l ≠ ta := fun z => by
        rw [z, ht] at hl0
        cases hl0
      refine ⟨_, rfl, l, rfl, ⟨_, SqL.of hL⟩, ?_⟩
      refine for_list (K := K) (a := l) (xs := (finM ps ts t).map nV) (fun i σ H3 => ∃ (x : Option V), σ = [some (.ref f), some (.int t), some (.ref l), x] ∧ H3 = upd H2 ta (.lst ((setM t ((finM ps ts t).take i) ts).map oV))) ⟨none, rfl, ?_⟩ ?_ ?_ ?_
      · show H2 = upd H2 ta (.lst (ts.map oV))
        funext c
        by_cases hc : c = ta
        · subst hc
          rw [upd_same]
          exact ht2
        · rw [upd_ne hc]
      · rintro i σ H3 _ ⟨x, rfl, rfl⟩
        exact SqL.of (by rw [upd_ne hlt]; exact hL)
      · rintro i x σ H3 hi ⟨x', rfl, rfl⟩
        rw [List.getElem?_map] at hi
        cases en : (finM ps ts t)[i]? with
        | none => rw [en] at hi; cases hi
        | some n =>
          rw [en] at hi
          cases hi
          have hn := fin_lt (List.mem_of_getElem? en)
          refine ⟨_, rfl, _, rfl, f, A.a_Frames, dx2, _, _, rfl, (by rw [upd_ne ft]; exact ho2), T.K_Frames, T.n_Frames_takers, flds_t _ _, _, rfl, ta, _, _, n, rfl, rfl, upd_same, ixN_nat (by rw [List.length_map, setM_len]; exact hn), ?_⟩
          refine ⟨_, rfl, ?_⟩
          rw [upd_upd]
          have e1 : (finM ps ts t).take (i + 1) = (finM ps ts t).take i ++ [n] := by
            rw [List.take_add_one, en]
            rfl
          rw [e1, setM_snoc, ← map_set_oV]
      · rintro σ H3 ⟨x, rfl, rfl⟩
        rw [List.length_map, List.take_length]
        refine ⟨_, rfl, k l _ hl0 (by rw [upd_ne hlt]; exact hL) ⟨⟨dx2, by rw [upd_ne ft]; exact ho2⟩, by rw [upd_ne ne]; exact hp2, upd_same, ne⟩ fun c o h1 h2 e => ?_⟩
        rw [upd_ne h2]
        exact s12 c o e
end
end My

namespace My
open PySem L2 PyProof.Rows
/-- all but b is as it was -/
def Kept (b : Addr) (H H' : Hp) : Prop := ∀ c o, c ≠ b → H c = some o → H' c = some o

section
variable {P : Program} {w : World} {K : PySem.W.Frag} {mg : Str → Option Value} {base : Heap} {A : Adr}
/-! ### the draws -/
def spCell (K : PySem.W.Frag) : Sp := fun vs H Q _ => ∃ (a : Addr) (ns : List Int) (k : Int), vs = [.ref a, .int k] ∧ SqL K H a (ns.map V.int) ∧ 0 ≤ k ∧ k < 1000 ∧ ∀ c, Q (.int c) H
theorem ok__law_cell (T : Txt K mg A) : FnOk P w K mg base CX0 1 A.a__law_cell A.d__law_cell ["_law_script", "_law_k"] (spCell K) := by
  refine T.F__law_cell.ok sc__law_cell (fun vs H Q E h => ?_) (fun cdv Ar outer s H vs Q E hr h => ?_)
  · obtain ⟨a, ns, k, rfl, _⟩ := h
    rfl
  · obtain ⟨a, ns, k, rfl, hS, h0, h1, q⟩ := h
    refine ⟨_, (pss_cons (ps_if (pt_cmpR op_lt (pv 1) (pe_callB call_len_seq (by rfl) T.z_len Boot.«len» (pa_cons (pv 0) pa_nil)) (nomark _)) (pss_one (ps_ret (pe_ix ix_list (pv 0) (pv 1) (fun _ _ => rfl)))) pss_nil) (pss_one (ps_ret (pe_op op_add (pe_op op_mul pe_int (pv 1)) pe_int)))), ?_⟩
    refine ⟨_, rfl, _, rfl, a, _, rfl, .inl hS, k, _, rfl, rfl, _, rfl, ?_⟩
    refine ite2 (fun hk => ?_) (fun hk => ?_)
    · have hk := of_decide_eq_true hk
      rw [List.length_map] at hk
      obtain ⟨j, rfl⟩ : ∃ j : Nat, k = j := ⟨k.toNat, by omega⟩
      have hj : j < ns.length := by omega
      exact ⟨_, rfl, _, rfl, a, _, _, _, rfl, rfl, hS, atI_nat (v := .int ns[j]) (by simp [hj]), q _⟩
    · exact ⟨_, rfl, 7919, k, rfl, rfl, .inl ⟨by decide, by decide⟩, _, _, rfl, rfl, q _⟩
def BoxAt (H : Hp) (b : Addr) (k : Nat) : Prop := ∃ (x y z : Int), H b = some (.lst [.int x, .int y, .int z]) ∧ 0 ≤ x ∧ 0 ≤ y ∧ y < 2147483629 ∧ 0 ≤ z ∧ z ≤ (k : Int)
/-- at b alone something has changed -/
def Only (b : Addr) (H H' : Hp) : Prop := ∀ c, c ≠ b → H' c = H c
theorem Only.upd {b : Addr} {H : Hp} {o : HO} : Only b H (upd H b o) := fun c hc => upd_ne hc
theorem Only.kept {b : Addr} {H H' : Hp} (h : Only b H H') : Kept b H H' := fun c o hc e => (h c hc).trans e
theorem Kept.refl (b : Addr) (H : Hp) : Kept b H H := fun _ _ _ e => e
theorem Kept.trans {b : Addr} {H H1 H2 : Hp} (h : Kept b H H1) (h' : Kept b H1 H2) : Kept b H H2 := fun c o hc e => h' c o hc (h c o hc e)
theorem _root_.L2.Same.kept {b : Addr} {H H' : Hp} (h : Same H H') : Kept b H H' := fun c o _ e => h c o e
theorem BoxAt.same {b : Addr} {k : Nat} {H H' : Hp} (B : BoxAt H b k) (h : Same H H') : BoxAt H' b k := by
  obtain ⟨x, y, z, hb, r⟩ := B
  exact ⟨x, y, z, h _ _ hb, r⟩
theorem BoxAt.mono {b : Addr} {k j : Nat} {H : Hp} (B : BoxAt H b k) (h : k ≤ j) : BoxAt H b j := by
  obtain ⟨x, y, z, hb, h1, h2, h3, h4, h5⟩ := B
  exact ⟨x, y, z, hb, h1, h2, h3, h4, by omega⟩
theorem BoxAt.ne {b p : Addr} {k : Nat} {H : Hp} (B : BoxAt H b k) (h : H p = none) : p ≠ b := by
  obtain ⟨x, y, z, hb, _⟩ := B
  exact (ne_of_none hb h).symm
theorem BoxAt.ne' {b t : Addr} {k : Nat} {H : Hp} {xs : List V} (B : BoxAt H b k) {H0 : Hp} (_ : H0 t = none) (h : H t = some (.tup xs)) : t ≠ b := by
  obtain ⟨x, y, z, hb, _⟩ := B
  exact (ne_of hb h (by intro q; cases q)).symm
/-- an item of a list that is known item by item -/
theorem ix_any {K : PySem.W.Frag} {H : Hp} {p : Addr} {xs : List V} {i : Int} {Q : VK} (Pv : V → Prop) (h : H p = some (.lst xs)) (h0 : 0 ≤ i) (h1 : i < xs.length) (hP : ∀ x ∈ xs, Pv x) (q : ∀ v, Pv v → Q v H) : rIxL K (.ref p) (.int i) H Q := by
  obtain ⟨j, rfl⟩ : ∃ j : Nat, i = j := ⟨i.toNat, by omega⟩
  have hj : j < xs.length := by omega
  exact ⟨p, xs, j, xs[j], rfl, rfl, SqL.of h, atI_nat (by simp [hj]), q _ (hP _ (List.getElem_mem hj))⟩
def spBox : Sp := fun vs H Q _ => ∃ c, vs = [.int c] ∧ ∀ b H', H b = none → BoxAt H' b 0 → Same H H' → Q (.ref b) H'
theorem ok__law_box (T : Txt K mg A) : FnOk P w K mg base CX0 1 A.a__law_box A.d__law_box ["_law_cell_here"] spBox := by
  refine T.F__law_box.ok sc__law_box (fun vs H Q E h => ?_) (fun cdv Ar outer s H vs Q E hr h => ?_)
  · obtain ⟨c, rfl, _⟩ := h
    rfl
  · obtain ⟨c, rfl, q⟩ := h
    refine ⟨_, (pss_one (ps_ret (pe_lst (pa_cons (pe_callB (call_max2 rfl) (by rfl) T.z_max Boot.«max» (pa_cons pe_int (pa_cons (pe_op op_sub (pv 0) (pe_op op_pow pe_int pe_int)) pa_nil))) (pa_cons (pe_op op_mod (pv 0) pe_int) (pa_cons pe_int pa_nil)))))), ?_⟩
    refine ⟨_, rfl, 10, 18, rfl, rfl, ⟨by decide, by decide, by decide⟩, c, _, rfl, rfl, 0, _, rfl, ?_⟩
    refine ⟨_, rfl, c, 2147483629, rfl, rfl, (show (0 : Int) < 2147483629 by decide), (show 3 ≤ sizeLine by decide), fun p hp => ?_⟩
    refine q p _ hp ⟨_, _, 0, upd_same, ?_, ?_, ?_, by decide, by decide⟩ (Same.upd hp)
    · split <;> omega
    · omega
    · omega
def spTake : Sp := fun vs H Q _ => ∃ (b : Addr) (n : Int) (k : Nat), vs = [.ref b, .int n] ∧ BoxAt H b k ∧ k ≤ 100000 ∧ 0 < n ∧ n < 1073741824 ∧
  ∀ (r : Int) (H' : Hp), 0 ≤ r → r < n → BoxAt H' b (k + 1) → Only b H H' → Q (.int r) H'
theorem ok__law_take (T : Txt K mg A) : FnOk P w K mg base CX0 1 A.a__law_take A.d__law_take ["_law_box_here", "_law_many"] spTake := by
  refine T.F__law_take.ok sc__law_take (fun vs H Q E h => ?_) (fun cdv Ar outer s H vs Q E hr h => ?_)
  · obtain ⟨b, n, k, rfl, _⟩ := h
    rfl
  · obtain ⟨b, n, k, rfl, ⟨x, y, z, hb, hx, hy, hy2, hz, hz2⟩, hk, hn, hn2, q⟩ := h
    refine ⟨_, (pss_cons (ps_if (pt_cmpR op_gt (pe_ix ix_list (pv 0) pe_int (fun _ _ => rfl)) pe_int (nomark _)) (pss_cons (ps_set (i := 2) sc__law_take.nd rfl (Or.inl rfl) (pe_op op_mod (pe_ix ix_list (pv 0) pe_int (fun _ _ => rfl)) (pv 1))) (pss_cons (ps_asg (pe_op op_fdiv (pe_ix ix_list (pv 0) pe_int (fun _ _ => rfl)) (pv 1)) (pg_sub (pv 0) pe_int set_list)) (pss_one (ps_ret (pv 2))))) pss_nil) (pss_cons (ps_asg (pe_op op_add (pe_ix ix_list (pv 0) pe_int (fun _ _ => rfl)) pe_int) (pg_sub (pv 0) pe_int set_list)) (pss_cons (ps_set (i := 3) sc__law_take.nd rfl (Or.inl rfl) (pe_op op_mod (pe_op op_pow (pe_op op_add (pe_op op_add (pe_ix ix_list (pv 0) pe_int (fun _ _ => rfl)) (pe_op op_mul pe_int (pe_ix ix_list (pv 0) pe_int (fun _ _ => rfl)))) pe_int) pe_int) pe_int)) (pss_cons (ps_set (i := 4) sc__law_take.nd rfl (Or.inl rfl) (pe_op op_mod (pe_op op_pow (pe_op op_add (pe_op op_add (pe_op op_fdiv (pv 3) pe_int) (pe_op op_mul pe_int (pe_ix ix_list (pv 0) pe_int (fun _ _ => rfl)))) pe_int) pe_int) pe_int)) (pss_one (ps_ret (pe_op op_mod (pe_op op_add (pe_op op_fdiv (pv 3) pe_int) (pe_op op_mul pe_int (pe_op op_fdiv (pv 4) pe_int))) (pv 1)))))))), ?_⟩
    refine ⟨_, rfl, b, _, _, _, rfl, rfl, SqL.of hb, rfl, _, _, rfl, rfl, _, rfl, ?_⟩
    refine ite2 (fun h0 => ?_) (fun h0 => ?_)
    · refine ⟨_, rfl, b, _, _, _, rfl, rfl, SqL.of hb, rfl, _, rfl, x, n, rfl, rfl, hn, ?_⟩
      refine ⟨_, rfl, b, _, _, _, rfl, rfl, SqL.of hb, rfl, _, rfl, x, n, rfl, rfl, ⟨hn, hn2⟩, ?_⟩
      refine ⟨_, rfl, b, _, 0, 0, rfl, rfl, hb, rfl, ?_⟩
      refine ⟨_, rfl, q _ _ (Int.emod_nonneg _ (by omega)) (Int.emod_lt_of_pos _ hn) ⟨_, y, z, upd_same, Int.ediv_nonneg hx (by omega), hy, hy2, hz, by omega⟩ Only.upd⟩
    · refine ⟨_, rfl, b, _, _, _, rfl, rfl, SqL.of hb, rfl, z, 1, rfl, rfl, ?_⟩
      refine ⟨_, rfl, b, _, 2, 2, rfl, rfl, hb, rfl, ?_⟩
      have hb' : upd H b (.lst [.int x, .int y, .int (z + 1)]) b = some (.lst [.int x, .int y, .int (z + 1)]) := upd_same
      refine ⟨_, rfl, b, _, _, _, rfl, rfl, SqL.of hb', rfl, _, rfl, b, _, _, _, rfl, rfl, SqL.of hb', rfl, 7919, z + 1, rfl, rfl, .inl ⟨by decide, by decide⟩, y, _, rfl, rfl, _, 29, rfl, rfl, _, 5, rfl, rfl, ⟨by decide, by decide, ?_⟩, _, 2147483647, rfl, rfl, (show (0 : Int) < 2147483647 by decide), ?_⟩
      · omega
      dsimp only
      generalize e1 : (y + 7919 * (z + 1) + 29) ^ (5 : Int).toNat % 2147483647 = one
      have b1 : 0 ≤ one := by rw [← e1]; exact Int.emod_nonneg _ (by decide)
      have b2 : one < 2147483647 := by rw [← e1]; exact Int.emod_lt_of_pos _ (by decide)
      refine ⟨_, rfl, one, 8, rfl, rfl, ⟨by decide, by decide⟩, _, rfl, b, _, _, _, rfl, rfl, SqL.of hb', rfl, 104729, z + 1, rfl, rfl, .inl ⟨by decide, by decide⟩, _, _, rfl, rfl, _, 3, rfl, rfl, _, 3, rfl, rfl, ⟨by decide, by decide, ?_⟩, _, 2147483629, rfl, rfl, (show (0 : Int) < 2147483629 by decide), ?_⟩
      · omega
      dsimp only
      generalize e2 : (one / 8 + 104729 * (z + 1) + 3) ^ (3 : Int).toNat % 2147483629 = other
      have b3 : 0 ≤ other := by rw [← e2]; exact Int.emod_nonneg _ (by decide)
      have b4 : other < 2147483629 := by rw [← e2]; exact Int.emod_lt_of_pos _ (by decide)
      refine ⟨_, rfl, one, 4, rfl, rfl, ⟨by decide, by decide⟩, _, rfl, other, 4, rfl, rfl, ⟨by decide, by decide⟩, 536870909, _, rfl, rfl, .inl ⟨by decide, by decide⟩, _, _, rfl, rfl, _, rfl, _, n, rfl, rfl, hn, ?_⟩
      exact q _ _ (Int.emod_nonneg _ (by omega)) (Int.emod_lt_of_pos _ hn) ⟨x, y, z + 1, upd_same, hx, hy, hy2, by omega, by omega⟩ Only.upd

/-! ### the law's own frames: a dict of two lists -/
abbrev kH : Key := Sum.inr "holders"
abbrev kT : Key := Sum.inr "takers"
theorem kHT : ¬ kH = kT := by decide +kernel
def kvM (ha tk : Addr) : List (Key × V) := [(kH, .ref ha), (kT, .ref tk)]
theorem val_h (ha tk : Addr) : valV (kvM ha tk) kH = some (.ref ha) := valV_pos rfl
theorem val_t (ha tk : Addr) : valV (kvM ha tk) kT = some (.ref tk) := (valV_neg kHT).trans (valV_pos rfl)
structure ModAt (H : Hp) (d ha tk : Addr) (ps ts : List (Option Nat)) : Prop where
  ob : H d = some (.dK (kvM ha tk))
  hl : H ha = some (.lst (ps.map oV))
  tl : H tk = some (.lst (ts.map oV))
  ne : ha ≠ tk
theorem ModAt.same {H H' : Hp} {d ha tk : Addr} {ps ts : List (Option Nat)} (M : ModAt H d ha tk ps ts) (s : Same H H') : ModAt H' d ha tk ps ts := ⟨s _ _ M.ob, s _ _ M.hl, s _ _ M.tl, M.ne⟩
theorem ModAt.getH {H : Hp} {d ha tk : Addr} {ps ts : List (Option Nat)} (M : ModAt H d ha tk ps ts) : DGet H d (.str "holders") (some (.ref ha)) := by
  have := DGet.k (k := kH) M.ob
  rw [val_h] at this
  exact this
theorem ModAt.getT {H : Hp} {d ha tk : Addr} {ps ts : List (Option Nat)} (M : ModAt H d ha tk ps ts) : DGet H d (.str "takers") (some (.ref tk)) := by
  have := DGet.k (k := kT) M.ob
  rw [val_t] at this
  exact this
def spModel : Sp := fun vs H Q _ => vs = [] ∧ ∀ d ha tk H', H d = none → H ha = none → H tk = none → ModAt H' d ha tk [none] [none] → Same H H' → Q (.ref d) H'
theorem ok__law_model (T : Txt K mg A) : FnOk P w K mg base CX0 1 A.a__law_model A.d__law_model [] spModel := by
  refine T.F__law_model.ok sc__law_model (fun vs H Q E h => ?_) (fun cdv Ar outer s H vs Q E hr h => ?_)
  · obtain ⟨rfl, _⟩ := h
    rfl
  · obtain ⟨rfl, k⟩ := h
    refine ⟨_, (pss_one (ps_ret (pe_disp (pps_cons pe_str (pe_lst (pa_cons pe_non pa_nil)) (pps_cons pe_str (pe_lst (pa_cons pe_non pa_nil)) pps_nil)) rfl rfl (by simp) (by decide)))), ?_⟩
    intro d hd
    have s0 := Same.upd (o := .dK []) hd
    refine ⟨(show 1 ≤ sizeLine by decide), fun ha hha => ⟨(show 1 ≤ sizeLine by decide), fun tk htk => ?_⟩⟩
    have s1 := Same.upd (o := .lst [.non]) hha
    have s2 := Same.upd (o := .lst [.non]) htk
    have hd2 := s2 _ _ (s1 _ _ (upd_same (H := H) (a := d) (o := .dK [])))
    have dh : ha ≠ d := (ne_of_none upd_same hha).symm
    have dt : tk ≠ d := (ne_of_none (s1 _ _ upd_same) htk).symm
    have ht : ha ≠ tk := ne_of_none upd_same htk
    refine ⟨hd2, [(kH, .ref ha), (kT, .ref tk)], rfl, by show 2 ≤ 15; decide, ?_⟩
    have em : mergeK [] [(kH, V.ref ha), (kT, V.ref tk)] = kvM ha tk := by
      show putK (putK [] kH (V.ref ha)) kT (V.ref tk) = _
      rw [putK_new (kvs := []) (V.ref ha) rfl]
      show putK [(kH, V.ref ha)] kT (V.ref tk) = _
      have hv : valV [(kH, V.ref ha)] kT = none := (valV_neg (p := (kH, V.ref ha)) (r := []) kHT).trans valV_nil
      rw [putK_new (kvs := [(kH, V.ref ha)]) (V.ref tk) hv]
      rfl
    rw [em]
    refine k d ha tk _ hd (s0.free hha) (s0.free (s1.free htk)) ⟨upd_same, ?_, ?_, ht⟩ fun c o e => ?_
    · rw [upd_ne dh, upd_ne ht, upd_same]
      rfl
    · rw [upd_ne dt, upd_same]
      rfl
    · rw [upd_ne (ne_of_none e hd)]
      exact s2 _ _ (s1 _ _ (s0 _ _ e))
def spLStanding : Sp := fun vs H Q _ => ∃ d ha tk ps ts, vs = [.ref d] ∧ ModAt H d ha tk ps ts ∧ ts.length ≤ 1000 ∧ ∀ l H', H l = none → Same H H' → H' l = some (.lst ((standM ts).map nV)) → Q (.ref l) H'
theorem ok__law_standing (T : Txt K mg A) : FnOk P w K mg base CX0 1 A.a__law_standing A.d__law_standing ["_law_model_here"] spLStanding := by
  refine T.F__law_standing.ok sc__law_standing (fun vs H Q E h => ?_) (fun cdv Ar outer s H vs Q E hr h => ?_)
  · obtain ⟨d, ha, tk, ps, ts, rfl, _⟩ := h
    rfl
  · obtain ⟨d, ha, tk, ps, ts, rfl, M, hle, k⟩ := h
    have hu := hu_of hr
    refine ⟨_, (pss_one (ps_ret (pe_comp (N := ["_law_k", "_law_model_here"]) (k := 1) (js := [0]) rfl (cscope_of (by kernel_rfl)) (pi_range1 rfl T.z_range (pa_cons (pe_callB call_len_seq (by rfl) T.z_len Boot.«len» (pa_cons (pe_dget hu (pv 0) pe_str (fun _ _ => rfl)) pa_nil)) pa_nil)) (fun _ _ _ _ _ => ⟨(pg_name (i := 0) (show (["_law_k", "_law_model_here"] : List Str).Nodup by decide +kernel) rfl (Or.inl rfl) (Or.inr rfl)), (pif1 (pt_cmpR op_isN (pe_ix (ix_listK (K := K) rfl) (pe_dget hu (pv 1) pe_str (fun _ _ => rfl)) (pv 0) (fun _ _ => rfl)) pe_non (nomark _))), (pv 0)⟩)))), ?_⟩
    refine ⟨_, rfl, d, _, rfl, M.getT, tk, _, rfl, .inl (SqL.of M.tl), _, rfl, ?_, ?_, ?_⟩
    · omega
    · rw [List.length_map]
      omega
    rw [List.length_map, Int.toNat_natCast]
    have hln : ((List.range ts.length).map fun (i : Nat) => V.int (0 + (i : Int))).length = ts.length := by rw [List.length_map, List.length_range]
    refine comp_grow (fun i => ts[i]? == some none) nV (feeds_range 0 ts.length H).g ?_ ?_ fun p H' hp sm hl => k p H' hp sm ?_
    · rw [hln]
      exact Nat.le_trans hle (by decide)
    · intro i x H' C1 C0 hi sm hx c1 c0
      rw [hln] at hi
      rw [List.getElem?_map, List.getElem?_range hi] at hx
      cases hx
      have hxi : ts[i]? = some ts[i] := by simp [hi]
      have M' := M.same sm
      rw [hxi] at c1 c0
      refine ⟨(SubS.refl _).own (by decide), _, rfl, d, _, rfl, M'.getT, _, rfl, tk, _, _, _, rfl, rfl, SqL.of M'.tl, (by rw [Int.zero_add]; exact at_map hxi), rfl, _, rfl, ?_⟩
      cases eo : ts[i] with
      | none =>
        rw [eo] at c1
        refine ⟨_, rfl, ?_⟩
        have q := c1 rfl H' (Same.refl H')
        have e : V.int (0 + (i : Int)) = nV i := by
          show V.int (0 + (i : Int)) = V.int (i : Int)
          rw [Int.zero_add]
        show C1 (V.int (0 + (i : Int))) H'
        rw [e]
        exact q
      | some n =>
        rw [eo] at c0
        exact c0 rfl H' (Same.refl H')
    · rw [hln] at hl
      exact hl
theorem at_head (m : Nat) (rest : List Nat) : atI ((m :: rest).map nV) 0 = some (nV m) := atI_nat (xs := (m :: rest).map nV) (j := 0) (v := nV m) rfl
def spLRow : Sp := fun vs H Q _ => ∃ d ha tk ps ts, ∃ t : Nat, vs = [.ref d, .int t] ∧ ModAt H d ha tk ps ts ∧ WF ps ts ∧ t < ps.length ∧ ∀ l H', H l = none → Same H H' → H' l = some (.lst ((rowM ps t).map nV)) → Q (.ref l) H'
theorem ok__law_row (T : Txt K mg A) : FnOk P w K mg base CX0 1 A.a__law_row A.d__law_row ["_law_model_here", "_law_frame"] spLRow := by
  refine T.F__law_row.ok sc__law_row (fun vs H Q E h => ?_) (fun cdv Ar outer s H vs Q E hr h => ?_)
  · obtain ⟨d, ha, tk, ps, ts, t, rfl, _⟩ := h
    rfl
  · obtain ⟨d, ha, tk, ps, ts, t, rfl, M, W, hlt, k⟩ := h
    have hu := hu_of hr
    refine ⟨_, (pss_cons (ps_set (i := 2) sc__law_row.nd rfl (Or.inl rfl) (pe_lst (pa_cons (pv 1) pa_nil))) (pss_cons (ps_while PassesOwn.never (pt_cmpR op_notN (pe_ix ix_list (pe_dget hu (pv 0) pe_str (fun _ _ => rfl)) (pe_ix ix_list (pv 2) pe_int (fun _ _ => rfl)) (fun _ _ => rfl)) pe_non (nomark _)) (pss_one (ps_set (i := 2) sc__law_row.nd rfl (Or.inl rfl) (pe_op op_cat (pe_lst (pa_cons (pe_ix ix_list (pe_dget hu (pv 0) pe_str (fun _ _ => rfl)) (pe_ix ix_list (pv 2) pe_int (fun _ _ => rfl)) (fun _ _ => rfl)) pa_nil)) (pv 2))))) (pss_one (ps_ret (pv 2))))), ?_⟩
    refine ⟨_, rfl, (show 1 ≤ sizeLine by decide), fun l0 hl0 => ?_⟩
    have up101 : (upM ps t).length ≤ 101 := by
      have := up_len ps t t
      have := W.le
      show (upF ps t t).length ≤ 101
      omega
    refine ⟨fun m σ H' => ∃ (c : Nat) (rest : List Nat) (l : Addr) (o : Option Nat), σ = [some (.ref d), some (.int t), some (.ref l)] ∧ H' l = some (.lst ((c :: rest).map nV)) ∧ H l = none ∧ Same H H' ∧ ps[c]? = some o ∧ (c :: rest).reverse ++ upO ps o = upM ps t ∧ m = c, ⟨t, t, [], l0, ps[t], rfl, upd_same, hl0, Same.upd hl0, by simp [hlt], ?_, rfl⟩, ?_⟩
    · exact (up_step W (by simp [hlt])).symm
    · rintro m σ H' ⟨c, rest, l, o, rfl, hl, hlH, sm, hc, hup, rfl⟩
      have M' := M.same sm
      refine ⟨_, rfl, d, _, rfl, M'.getH, _, rfl, l, _, _, _, rfl, rfl, SqL.of hl, at_head _ _, ha, _, _, _, rfl, rfl, SqL.of M'.hl, at_map hc, rfl, _, rfl, ?_⟩
      cases o with
      | none =>
        refine ⟨_, rfl, k l H' hlH sm ?_⟩
        have e : (m :: rest).reverse = upM ps t := by simpa [upO] using hup
        have e2 : m :: rest = rowM ps t := by
          show m :: rest = (upM ps t).reverse
          rw [← e, List.reverse_reverse]
        rw [hl, e2]
      | some j =>
        have hjm : j < m ∧ j < ps.length := by
          have hml : m < ps.length := (List.getElem?_eq_some_iff.mp hc).1
          cases m with
          | zero => rw [W.root] at hc; cases hc
          | succ g =>
            obtain ⟨i', e', hi'⟩ := W.par (g + 1) (by omega) hml
            rw [e'] at hc
            cases hc
            exact ⟨hi', by omega⟩
        have hxj : ps[j]? = some ps[j] := by simp [hjm.2]
        have hup2 : (m :: rest).reverse ++ upM ps j = upM ps t := hup
        have hlen : (m :: rest).length ≤ 101 := by
          have e1 : ((m :: rest).reverse ++ upM ps j).length ≤ 101 := by rw [hup2]; exact up101
          rw [List.length_append, List.length_reverse] at e1
          omega
        refine ⟨_, fun σ' H' h => h, ?_⟩
        refine ⟨_, rfl, d, _, rfl, M'.getH, _, rfl, l, _, _, _, rfl, rfl, SqL.of hl, at_head _ _, ha, _, _, _, rfl, rfl, SqL.of M'.hl, at_map hc, (show 1 ≤ sizeLine by decide), fun p1 h1 => ?_⟩
        have s1 := Same.upd (o := .lst [oV (some j)]) h1
        refine ⟨_, rfl, p1, l, _, _, rfl, rfl, upd_same, s1 _ _ hl, ?_, fun p2 h2 => ?_⟩
        · rw [List.length_map]
          exact Nat.le_trans (show 1 + (m :: rest).length ≤ 200 by omega) (by decide)
        have s2 := Same.upd (o := .lst ([oV (some j)] ++ (m :: rest).map nV)) h2
        refine ⟨j, hjm.1, j, m :: rest, p2, ps[j], rfl, ?_, sm.free (s1.free h2), sm.trans (s1.trans s2), hxj, ?_, rfl⟩
        · rw [upd_same]
          rfl
        · rw [List.reverse_cons, List.append_assoc, ← hup2, up_step W hxj]
          rfl
end
end My

namespace My
open PySem L2 PyProof.Rows
section
variable {P : Program} {w : World} {K : PySem.W.Frag} {mg : Str → Option Value} {base : Heap} {A : Adr}
theorem ModAt.apart {H : Hp} {d ha tk : Addr} {ps ts : List (Option Nat)} (M : ModAt H d ha tk ps ts) : d ≠ ha ∧ d ≠ tk := ⟨ne_of M.ob M.hl (by intro z; cases z), ne_of M.ob M.tl (by intro z; cases z)⟩
def spLBegin : Sp := fun vs H Q _ => ∃ d ha tk ps ts, ∃ t : Nat, vs = [.ref d, .int t] ∧ ModAt H d ha tk ps ts ∧ ps.length ≤ 100 ∧ ts.length ≤ 100 ∧
  ∀ H', ModAt H' d ha tk (ps ++ [some t]) (ts ++ [none]) → Kept2 ha tk H H' → Q (.int ps.length) H'
theorem ok__law_begin (T : Txt K mg A) : FnOk P w K mg base CX0 1 A.a__law_begin A.d__law_begin ["_law_model_here", "_law_frame"] spLBegin := by
  refine T.F__law_begin.ok sc__law_begin (fun vs H Q E h => ?_) (fun cdv Ar outer s H vs Q E hr h => ?_)
  · obtain ⟨d, ha, tk, ps, ts, t, rfl, _⟩ := h
    rfl
  · obtain ⟨d, ha, tk, ps, ts, t, rfl, M, hle, hle2, k⟩ := h
    have hu := hu_of hr
    obtain ⟨n1, n2⟩ := M.apart
    refine ⟨_, (pss_cons (ps_expr (pe_bm PySem.F.plainAttrs_list PySem.F.slot_list_append PySem.F.type_list_append mt_append (pe_dget hu (pv 0) pe_str (fun _ _ => rfl)) (pa_cons (pv 1) pa_nil))) (pss_cons (ps_expr (pe_bm PySem.F.plainAttrs_list PySem.F.slot_list_append PySem.F.type_list_append mt_append (pe_dget hu (pv 0) pe_str (fun _ _ => rfl)) (pa_cons pe_non pa_nil))) (pss_one (ps_ret (pe_op op_sub (pe_callB call_len_seq (by rfl) T.z_len Boot.«len» (pa_cons (pe_dget hu (pv 0) pe_str (fun _ _ => rfl)) pa_nil)) pe_int))))), ?_⟩
    refine ⟨_, rfl, d, _, rfl, M.getH, .inl ⟨rfl, _, SqL.of M.hl⟩, _, rfl, ha, _, _, rfl, rfl, M.hl, ?_, ?_⟩
    · rw [List.length_map]
      exact Nat.lt_of_le_of_lt hle (by decide)
    have e1 : ps.map oV ++ [V.int (t : Int)] = (ps ++ [some t]).map oV := by rw [List.map_append]; rfl
    rw [e1]
    have M1 : ModAt (upd H ha (.lst ((ps ++ [some t]).map oV))) d ha tk (ps ++ [some t]) ts := ⟨by rw [upd_ne n1]; exact M.ob, upd_same, by rw [upd_ne M.ne.symm]; exact M.tl, M.ne⟩
    refine ⟨_, rfl, d, _, rfl, M1.getT, .inl ⟨rfl, _, SqL.of M1.tl⟩, tk, _, _, rfl, rfl, M1.tl, ?_, ?_⟩
    · rw [List.length_map]
      exact Nat.lt_of_le_of_lt hle2 (by decide)
    have e2 : ts.map oV ++ [V.non] = (ts ++ [none]).map oV := by rw [List.map_append]; rfl
    rw [e2]
    have M2 : ModAt (upd (upd H ha (.lst ((ps ++ [some t]).map oV))) tk (.lst ((ts ++ [none]).map oV))) d ha tk (ps ++ [some t]) (ts ++ [none]) := ⟨by rw [upd_ne n2]; exact M1.ob, by rw [upd_ne M.ne]; exact M1.hl, upd_same, M.ne⟩
    refine ⟨_, rfl, d, _, rfl, M2.getH, ha, _, rfl, .inl (SqL.of M2.hl), _, 1, rfl, rfl, ?_⟩
    have e3 : (((List.map oV (ps ++ [some t])).length : Int) - 1) = (ps.length : Int) := by
      rw [List.length_map, List.length_append]
      show ((ps.length + 1 : Nat) : Int) - 1 = _
      omega
    show Q (V.int (((List.map oV (ps ++ [some t])).length : Int) - 1)) _
    rw [e3]
    refine k _ M2 fun c o h1 h2 e => ?_
    rw [upd_ne h2, upd_ne h1]
    exact e
def spLFinish : Sp := fun vs H Q _ => ∃ d ha tk ps ts, ∃ t : Nat, vs = [.ref d, .int t] ∧ ModAt H d ha tk ps ts ∧ WF ps ts ∧
  ∀ l H', H l = none → H' l = some (.lst ((finM ps ts t).map nV)) → ModAt H' d ha tk ps (setM t (finM ps ts t) ts) → Kept2 ha tk H H' → Q (.ref l) H'
theorem ok__law_finish (T : Txt K mg A) : FnOk P w K mg base CX0 2 A.a__law_finish A.d__law_finish ["_law_model_here", "_law_frame"] spLFinish := by
  have G__law_standing : FnOk P w K mg base CX0 1 A.a__law_standing A.d__law_standing ["_law_model_here"] spLStanding := ok__law_standing T
  have G__law_row : FnOk P w K mg base CX0 1 A.a__law_row A.d__law_row ["_law_model_here", "_law_frame"] spLRow := ok__law_row T
  refine T.F__law_finish.ok sc__law_finish (fun vs H Q E h => ?_) (fun cdv Ar outer s H vs Q E hr h => ?_)
  · obtain ⟨d, ha, tk, ps, ts, t, rfl, _⟩ := h
    rfl
  · obtain ⟨d, ha, tk, ps, ts, t, rfl, M, W, k⟩ := h
    have hu := hu_of hr
    have hl := W.len
    obtain ⟨n1, n2⟩ := M.apart
    refine ⟨_, (pss_cons (ps_setC (i := 2) sc__law_finish.nd rfl (Or.inl rfl) (N := ["_law_k", "_law_frame", "_law_model_here"]) (k := 1) (js := [1, 0]) rfl (cscope_of (by kernel_rfl)) (pi_list (pe_revsl (pe_call G__law_standing hr rfl T.m__law_standing T.F__law_standing.kp T.b__law_standing .nil pass0 (pa_cons (pv 0) pa_nil)) (pe_un un_neg pe_int))) (fun _ _ _ _ _ => ⟨(pg_name (i := 0) (show (["_law_k", "_law_frame", "_law_model_here"] : List Str).Nodup by decide +kernel) rfl (Or.inl rfl) (Or.inr rfl)), (pif1 (pt_cmpR (op_in_seqK (K := K) rfl) (pv 1) (pe_call G__law_row hr rfl T.m__law_row T.F__law_row.kp T.b__law_row .nil pass0 (pa_cons (pv 2) (pa_cons (pv 0) pa_nil))) (by with_unfolding_all rfl))), (pv 0)⟩)) (pss_cons (ps_for PassesOwn.never rfl (pi_list (pv 2)) (pg_name (i := 3) sc__law_finish.nd rfl (Or.inl rfl) (Or.inl rfl)) (pss_one (ps_asg (pv 1) (pg_sub (pe_dget hu (pv 0) pe_str (fun _ _ => rfl)) (pv 3) set_list)))) (pss_one (ps_ret (pv 2))))), ?_⟩
    refine ⟨_, rfl, d, ha, tk, ps, ts, rfl, M, by have := W.le; omega, fun sl H1 hsl s1 hs1 => ?_⟩
    refine ⟨1, rfl, _, rfl, sl, _, rfl, rfl, SqL.of hs1, fun rl hrl => ?_⟩
    have s1' := s1.trans (Same.upd (o := .lst ((standM ts).map nV).reverse) hrl)
    have hS : ((standM ts).map nV).reverse = (standM ts).reverse.map nV := by rw [List.map_reverse]
    have hR : upd H1 rl (.lst ((standM ts).map nV).reverse) rl = some (.lst ((standM ts).reverse.map nV)) := by rw [upd_same, hS]
    have M1 := M.same s1'
    generalize upd H1 rl (.lst ((standM ts).map nV).reverse) = H1' at s1' hR M1
    refine ⟨rl, rfl, ⟨_, SqL.of hR⟩, ?_⟩
    have hSl : ((standM ts).reverse.map nV).length = (standM ts).reverse.length := by rw [List.length_map]
    refine comp_grow (fun i => decide (t ∈ rowM ps ((standM ts).reverse.getD i 0))) (fun i => nV ((standM ts).reverse.getD i 0)) (feeds_list (SqL.of hR)).g ?_ ?_ fun l H2 hl2 s2 hL => ?_
    · rw [hSl, List.length_reverse]
      refine Nat.le_trans (List.length_filter_le _ _) ?_
      rw [List.length_range]
      have := W.le
      exact Nat.le_trans (show ts.length ≤ 101 by omega) (by decide)
    · intro i x H' C1 C0 hi sm hx c1 c0
      rw [List.getElem?_map] at hx
      cases en : (standM ts).reverse[i]? with
      | none => rw [en] at hx; cases hx
      | some n =>
        rw [en] at hx
        cases hx
        have ed : (standM ts).reverse.getD i 0 = n := by rw [List.getD_eq_getElem?_getD, en]; rfl
        have hn : n < ps.length := by
          have := stand_lt (List.mem_reverse.mp (List.mem_of_getElem? en))
          omega
        rw [ed] at c1 c0
        have M' := M1.same sm
        refine ⟨(SubS.refl _).own (by decide), _, rfl, _, rfl, _, rfl, d, ha, tk, ps, ts, n, rfl, M', W, hn, fun rl H3 hrl s3 hr3 => ?_⟩
        refine ⟨rl, _, rfl, .inl (SqL.of hr3), rfl, flat_nV _, _, rfl, ?_⟩
        have e : inV (V.int (t : Int)) ((rowM ps n).map nV) = decide (t ∈ rowM ps n) := inV_nV t _
        show if inV (V.int (t : Int)) ((rowM ps n).map nV) = true then _ else _
        rw [e]
        cases hd : decide (t ∈ rowM ps n) with
        | true => exact iteT ⟨_, rfl, c1 hd H3 s3⟩
        | false => exact iteF (c0 hd H3 s3)
    · rw [hSl] at hL
      have hL : H2 l = some (.lst ((finM ps ts t).map nV)) := by
        rw [hL]
        exact congrArg (fun z => some (HO.lst z)) (range_filter (standM ts).reverse (fun n => decide (t ∈ rowM ps n)) nV)
      have s12 := s1'.trans s2
      have M2 := M.same s12
      have hlt : l ≠ tk := fun z => by
        have := s1' _ _ M.tl
        rw [← z, hl2] at this
        cases this
      have hl0 : H l = none := s1'.free hl2
      refine ⟨_, rfl, l, rfl, ⟨_, SqL.of hL⟩, ?_⟩
      refine for_list (K := K) (a := l) (xs := (finM ps ts t).map nV) (fun i σ H3 => ∃ (x : Option V), σ = [some (.ref d), some (.int t), some (.ref l), x] ∧ H3 = upd H2 tk (.lst ((setM t ((finM ps ts t).take i) ts).map oV))) ⟨none, rfl, ?_⟩ ?_ ?_ ?_
      · show H2 = upd H2 tk (.lst (ts.map oV))
        funext c
        by_cases hc : c = tk
        · subst hc
          rw [upd_same]
          exact M2.tl
        · rw [upd_ne hc]
      · rintro i σ H3 _ ⟨x, rfl, rfl⟩
        exact SqL.of (by rw [upd_ne hlt]; exact hL)
      · rintro i x σ H3 hi ⟨x', rfl, rfl⟩
        rw [List.getElem?_map] at hi
        cases en : (finM ps ts t)[i]? with
        | none => rw [en] at hi; cases hi
        | some n =>
          rw [en] at hi
          cases hi
          have hn := fin_lt (List.mem_of_getElem? en)
          have M3 : ModAt (upd H2 tk (.lst ((setM t ((finM ps ts t).take i) ts).map oV))) d ha tk ps (setM t ((finM ps ts t).take i) ts) := ⟨by rw [upd_ne n2]; exact M2.ob, by rw [upd_ne M.ne]; exact M2.hl, upd_same, M.ne⟩
          refine ⟨_, rfl, _, rfl, d, _, rfl, M3.getT, _, rfl, tk, _, _, n, rfl, rfl, upd_same, ixN_nat (by rw [List.length_map, setM_len]; exact hn), ?_⟩
          refine ⟨_, rfl, ?_⟩
          rw [upd_upd]
          have e1 : (finM ps ts t).take (i + 1) = (finM ps ts t).take i ++ [n] := by
            rw [List.take_add_one, en]
            rfl
          rw [e1, setM_snoc, ← map_set_oV]
      · rintro σ H3 ⟨x, rfl, rfl⟩
        rw [List.length_map, List.take_length]
        refine ⟨_, rfl, k l _ hl0 (by rw [upd_ne hlt]; exact hL) ⟨by rw [upd_ne n2]; exact M2.ob, by rw [upd_ne M.ne]; exact M2.hl, upd_same, M.ne⟩ fun c o h1 h2 e => ?_⟩
        rw [upd_ne h2]
        exact s12 c o e
def spOne : Sp := fun vs H Q _ => ∃ (b l : Addr) (k : Nat) (S : List Nat), vs = [.ref b, .ref l] ∧ BoxAt H b k ∧ k + 2 ≤ 2000 ∧ H l = some (.lst (S.map nV)) ∧ l ≠ b ∧ S ≠ [] ∧ S.length ≤ 1000 ∧
  ∀ n H', n ∈ S → BoxAt H' b (k + 2) → Kept b H H' → Q (nV n) H'
theorem ok__law_one (T : Txt K mg A) : FnOk P w K mg base CX0 2 A.a__law_one A.d__law_one ["_law_box_here", "_law_some"] spOne := by
  have G__law_take : FnOk P w K mg base CX0 1 A.a__law_take A.d__law_take ["_law_box_here", "_law_many"] spTake := ok__law_take T
  refine T.F__law_one.ok sc__law_one (fun vs H Q E h => ?_) (fun cdv Ar outer s H vs Q E hr h => ?_)
  · obtain ⟨b, l, k, S, rfl, _⟩ := h
    rfl
  · obtain ⟨b, l, k, S, rfl, B, hk, hl, lb, hS, hlen, q⟩ := h
    have hpos : 0 < S.length := List.length_pos_iff.mpr hS
    refine ⟨_, (pss_cons (ps_set (i := 2) sc__law_one.nd rfl (Or.inl rfl) (pe_call G__law_take hr rfl T.m__law_take T.F__law_take.kp T.b__law_take .nil pass0 (pa_cons (pv 0) (pa_cons pe_int pa_nil)))) (pss_cons (ps_set (i := 3) sc__law_one.nd rfl (Or.inl rfl) (pe_call G__law_take hr rfl T.m__law_take T.F__law_take.kp T.b__law_take .nil pass0 (pa_cons (pv 0) (pa_cons (pe_callB call_len_seq (by rfl) T.z_len Boot.«len» (pa_cons (pv 1) pa_nil)) pa_nil)))) (pss_one (ps_ret (pe_ix ix_list (pv 1) (pe_ix ix_list (pe_lst (pa_cons (pv 3) (pa_cons (pe_op op_sub (pe_callB call_len_seq (by rfl) T.z_len Boot.«len» (pa_cons (pv 1) pa_nil)) pe_int) (pa_cons (pv 3) pa_nil)))) (pv 2) (fun _ _ => rfl)) (fun _ _ => rfl)))))), ?_⟩
    refine ⟨_, rfl, b, 3, k, rfl, B, by omega, by decide, by decide, fun way H1 w0 w1 B1 O1 => ?_⟩
    have hl1 := O1.kept _ _ lb hl
    have e1 : (S.map nV).length = S.length := List.length_map ..
    refine ⟨_, rfl, _, rfl, l, _, rfl, .inl (SqL.of hl1), b, _, k + 1, rfl, B1, by omega, by omega, by omega, fun at_ H2 a0 a1 B2 O2 => ?_⟩
    have hl2 := O2.kept _ _ lb hl1
    refine ⟨_, rfl, _, rfl, _, rfl, l, _, rfl, .inl (SqL.of hl2), _, 1, rfl, rfl, _, rfl, (show 3 ≤ sizeLine by decide), fun p hp => ?_⟩
    have sp := Same.upd (o := .lst [V.int at_, V.int (((S.map nV).length : Int) - 1), V.int at_]) hp
    refine ⟨_, rfl, ?_⟩
    refine ix_any (fun v => ∃ i : Nat, v = .int i ∧ i < S.length) upd_same w0 w1 ?_ fun v hv => ?_
    · intro x hx
      simp only [List.mem_cons, List.not_mem_nil, or_false] at hx
      rcases hx with rfl | rfl | rfl
      · exact ⟨at_.toNat, by congr 1; omega, by omega⟩
      · exact ⟨S.length - 1, by congr 1; omega, by omega⟩
      · exact ⟨at_.toNat, by congr 1; omega, by omega⟩
    obtain ⟨i, rfl, hi⟩ := hv
    have hx : (S.map nV)[i]? = some (nV S[i]) := by
      rw [List.getElem?_map]
      simp [hi]
    exact ⟨l, _, _, _, rfl, rfl, SqL.of (sp _ _ hl2), atI_nat hx, q _ _ (List.getElem_mem hi) (B2.same sp) ((O1.kept.trans O2.kept).trans sp.kept)⟩
end
end My

namespace My
open PySem L2 PyProof.Rows
/-! ### the frame straight around, and those straight within -/
def withinM (ps ts : List (Option Nat)) (t : Nat) : List Nat := (standM ts).filter fun n => ps[n]? == some (some t)
theorem oV_int (o : Option Nat) (t : Nat) : (oV o = V.int (t : Int)) ↔ o = some t := by
  cases o with
  | none => exact ⟨(fun z => by cases z), (fun z => by cases z)⟩
  | some n =>
    constructor
    · intro z
      have z : V.int (n : Int) = V.int (t : Int) := z
      injection z with z
      rw [Int.ofNat.inj z]
    · intro z
      cases z
      rfl
section
variable {P : Program} {w : World} {K : PySem.W.Frag} {mg : Str → Option Value} {base : Heap} {A : Adr}
def spInside (C : Addr) : Sp := fun vs H Q _ => ∃ f pa ta ps ts, ∃ (t : Nat) (o : Option Nat), vs = [.ref f, .int t] ∧ FrAt C H f pa ta ps ts ∧ ps[t]? = some o ∧ Q (oV o) H
theorem ok_Frames_inside (T : Txt K mg A) : FnOk P w K mg base CX0 5 A.a_Frames_inside A.d_Frames_inside ["self", "frame"] (spInside A.a_Frames) := by
  have G_Frames_want_begun : FnOk P w K mg base CX0 4 A.a_Frames_want_begun A.d_Frames_want_begun ["self", "thing"] (spWantB A.a_Frames) := ok_Frames_want_begun T
  refine T.F_Frames_inside.ok sc_Frames_inside (fun vs H Q E h => ?_) (fun cdv Ar outer s H vs Q E hr h => ?_)
  · obtain ⟨f, pa, ta, ps, ts, t, o, rfl, _⟩ := h
    rfl
  · obtain ⟨f, pa, ta, ps, ts, t, o, rfl, F, hx, k⟩ := h
    obtain ⟨⟨dx, ho⟩, hp, ht, ne⟩ := id F
    have hj : t < ps.length := (List.getElem?_eq_some_iff.mp hx).1
    refine ⟨_, (pss_cons (ps_expr (pe_meth (pv 0) T.K_Frames T.t_Frames_want_begun G_Frames_want_begun hr T.b_Frames_want_begun .nil pass0 (pa_cons (pv 1) pa_nil))) (pss_one (ps_ret (pe_ix ix_list (pe_fld (pv 0) rfl) (pv 1) (fun _ _ => rfl))))), ?_⟩
    refine ⟨_, rfl, f, dx, _, rfl, ho, flds_no _ _ (by decide +kernel) (by decide +kernel), _, rfl, f, pa, ta, ps, ts, t, rfl, F, begun_nat hj, ?_⟩
    exact ⟨_, rfl, f, A.a_Frames, dx, _, _, rfl, ho, T.K_Frames, T.n_Frames_parents, flds_p _ _, _, rfl, pa, _, _, _, rfl, rfl, SqL.of hp, at_map hx, k⟩
def spWithin (C : Addr) : Sp := fun vs H Q _ => ∃ f pa ta ps ts, ∃ t : Nat, vs = [.ref f, .int t] ∧ FrAt C H f pa ta ps ts ∧ WF ps ts ∧ t < ps.length ∧ ∀ l H', H l = none → Same H H' → H' l = some (.lst ((withinM ps ts t).map nV)) → Q (.ref l) H'
theorem ok_Frames_within (T : Txt K mg A) : FnOk P w K mg base CX0 5 A.a_Frames_within A.d_Frames_within ["self", "frame"] (spWithin A.a_Frames) := by
  have G_Frames_want_begun : FnOk P w K mg base CX0 4 A.a_Frames_want_begun A.d_Frames_want_begun ["self", "thing"] (spWantB A.a_Frames) := ok_Frames_want_begun T
  have G_Frames_standing : FnOk P w K mg base CX0 4 A.a_Frames_standing A.d_Frames_standing ["self"] (spStanding A.a_Frames) := (ok_Frames_standing T).mono (by decide)
  refine T.F_Frames_within.ok sc_Frames_within (fun vs H Q E h => ?_) (fun cdv Ar outer s H vs Q E hr h => ?_)
  · obtain ⟨f, pa, ta, ps, ts, t, rfl, _⟩ := h
    rfl
  · obtain ⟨f, pa, ta, ps, ts, t, rfl, F, W, hlt, k⟩ := h
    obtain ⟨⟨dx, ho⟩, hp, ht, ne⟩ := id F
    have hl := W.len
    refine ⟨_, (pss_cons (ps_expr (pe_meth (pv 0) T.K_Frames T.t_Frames_want_begun G_Frames_want_begun hr T.b_Frames_want_begun .nil pass0 (pa_cons (pv 1) pa_nil))) (pss_one (ps_ret (pe_comp (N := ["number", "frame", "self"]) (k := 1) (js := [1, 0]) rfl (cscope_of (by kernel_rfl)) (pi_list (pe_meth0 (pv 0) T.K_Frames T.t_Frames_standing G_Frames_standing hr T.b_Frames_standing .nil pass0)) (fun _ _ _ _ _ => ⟨(pg_name (i := 0) (show (["number", "frame", "self"] : List Str).Nodup by decide +kernel) rfl (Or.inl rfl) (Or.inr rfl)), (pif1 (pt_cmpR op_eq (pe_ix (ix_listK (K := K) rfl) (pe_fldK (K := K) rfl (pv 2) rfl) (pv 0) (fun _ _ => rfl)) (pv 1) (nomark _))), (pv 0)⟩))))), ?_⟩
    refine ⟨_, rfl, f, dx, _, rfl, ho, flds_no _ _ (by decide +kernel) (by decide +kernel), _, rfl, f, pa, ta, ps, ts, t, rfl, F, begun_nat hlt, ?_⟩
    refine ⟨_, rfl, f, dx, _, rfl, ho, flds_no _ _ (by decide +kernel) (by decide +kernel), f, pa, ta, ps, ts, rfl, F, by have := W.le; omega, fun sl H1 hsl s1 hs1 => ?_⟩
    have F1 := F.same s1
    refine ⟨sl, rfl, ⟨_, SqL.of hs1⟩, ?_⟩
    have hSl : ((standM ts).map nV).length = (standM ts).length := List.length_map ..
    refine comp_grow (fun i => ps[(standM ts).getD i 0]? == some (some t)) (fun i => nV ((standM ts).getD i 0)) (feeds_list (SqL.of hs1)).g ?_ ?_ fun l H2 hl2 s2 hL => ?_
    · rw [hSl]
      refine Nat.le_trans (List.length_filter_le _ _) ?_
      rw [List.length_range]
      have := W.le
      exact Nat.le_trans (show ts.length ≤ 101 by omega) (by decide)
    · intro i x H' C1 C0 hi sm hx c1 c0
      rw [List.getElem?_map] at hx
      cases en : (standM ts)[i]? with
      | none => rw [en] at hx; cases hx
      | some n =>
        rw [en] at hx
        cases hx
        have ed : (standM ts).getD i 0 = n := by rw [List.getD_eq_getElem?_getD, en]; rfl
        have hn : n < ps.length := by
          have := stand_lt (List.mem_of_getElem? en)
          omega
        rw [ed] at c1 c0
        have F' := F1.same sm
        obtain ⟨⟨dx', ho'⟩, hp', _, _⟩ := id F'
        have hxn : ps[n]? = some ps[n] := by simp [hn]
        rw [hxn] at c1 c0
        refine ⟨(SubS.refl _).own (by decide), ?_⟩
        refine ⟨_, rfl, f, A.a_Frames, dx', _, _, rfl, ho', T.K_Frames, T.n_Frames_parents, flds_p _ _, _, rfl, pa, _, _, _, rfl, rfl, SqL.of hp', at_map hxn, ?_⟩
        refine ⟨_, rfl, ?_, ?_⟩
        · cases ps[n] <;> rfl
        · refine ⟨_, rfl, ?_⟩
          by_cases e : ps[n] = some t
          · rw [decide_eq_true ((oV_int _ _).mpr e)]
            exact iteT ⟨_, rfl, c1 (by rw [e]; exact beq_self_eq_true _) H' (Same.refl H')⟩
          · rw [decide_eq_false (fun z => e ((oV_int _ _).mp z))]
            exact iteF (c0 (beq_eq_false_iff_ne.mpr (fun z => e (Option.some.inj z))) H' (Same.refl H'))
    · refine k l H2 (s1.free hl2) (s1.trans s2) ?_
      rw [hSl] at hL
      rw [hL]
      exact congrArg (fun z => some (HO.lst z)) (range_filter (standM ts) (fun n => ps[n]? == some (some t)) nV)
end
end My

namespace My
open PySem L2 PyProof.Rows
/-! ### what the law hands in -/
inductive TV (H : Hp) : V → Prop
  | non : TV H .non
  | bl (b : Bool) : TV H (.bl b)
  | int (i : Int) (h : i.natAbs < 10 ^ 40) : TV H (.int i)
  | str (x : Str) (h : (PyData.str x).shown.length ≤ 100) : TV H (.str x)
  | lst {a : Addr} (e : H a = some (.lst [.int 0])) : TV H (.ref a)
  | tup {a : Addr} (e : H a = some (.tup [.int 0])) : TV H (.ref a)
  | dK {a : Addr} (e : H a = some (.dK [])) : TV H (.ref a)
theorem TV.same {H H' : Hp} {v : V} (t : TV H v) (s : Same H H') : TV H' v := by
  cases t with
  | non => exact .non
  | bl b => exact .bl b
  | int i h => exact .int i h
  | str x h => exact .str x h
  | lst e => exact .lst (s _ _ e)
  | tup e => exact .tup (s _ _ e)
  | dK e => exact .dK (s _ _ e)
def isNum : V → Bool
  | .int _ => true
  | _ => false
def wholeV (lo hi : Int) : V → Bool
  | .int i => decide (lo ≤ i) && decide (i ≤ hi)
  | _ => false
def begV (ps : List (Option Nat)) : V → Bool
  | .int i => begunB ps i
  | _ => false
def standV (ts : List (Option Nat)) : V → Bool
  | .int i => standB ts i
  | _ => false
theorem begV_whole (ps : List (Option Nat)) (v : V) : wholeV 0 ((ps.length : Int) - 1) v = begV ps v := by cases v <;> rfl
/-! ### the refusals -/
inductive Rf
  | frame (v : V)
  | gone (v b : V)
  | ground
  | many
def Rf.told : Rf → List V
  | .frame v => [.str "frame", v]
  | .gone v b => [.str "gone", v, b]
  | .ground => [.str "ground"]
  | .many => [.str "many", .int 101]
def Raises (A : Adr) (H : Hp) (E : XK) : Rf → Prop
  | .frame v => ∀ dx H2, Same H H2 → H2 dx = some (.xd [("found", v)]) → E (.ref A.a_NoFrame) (some dx) H2
  | .gone v b => ∀ dx H2, Same H H2 → H2 dx = some (.xd (putF "by" b [("found", v)])) → E (.ref A.a_Gone) (some dx) H2
  | .ground => ∀ H2, Same H H2 → E (.ref A.a_Ground) none H2
  | .many => ∀ dx H2, Same H H2 → H2 dx = some (.xd [("many", .int 101)]) → E (.ref A.a_TooMany) (some dx) H2
theorem Raises.on {A : Adr} {H H1 : Hp} {E : XK} {r : Rf} (h : Raises A H E r) (s : Same H H1) : Raises A H1 E r := by
  cases r with
  | frame v => exact fun dx H2 s2 e => h dx H2 (s.trans s2) e
  | gone v b => exact fun dx H2 s2 e => h dx H2 (s.trans s2) e
  | ground => exact fun H2 s2 => h H2 (s.trans s2)
  | many => exact fun dx H2 s2 e => h dx H2 (s.trans s2) e
def goneOf (ts : List (Option Nat)) : V → Option Rf
  | .int t => match ts[t.toNat]? with
    | some (some j) => some (.gone (.int t) (.int j))
    | _ => none
  | _ => none
def rG (ps : List (Option Nat)) (v : V) : Option Rf := if begV ps v = true then none else some (.frame v)
def rS (ps ts : List (Option Nat)) (v : V) : Option Rf := if begV ps v = true then goneOf ts v else some (.frame v)
def rB (ps ts : List (Option Nat)) (v : V) : Option Rf := match rS ps ts v with
  | some r => some r
  | none => if ps.length = 101 then some .many else none
def rF (ps ts : List (Option Nat)) (v : V) : Option Rf := match rS ps ts v with
  | some r => some r
  | none => if v = .int 0 then some .ground else none
theorem begV_nat {ps : List (Option Nat)} {v : V} (h : begV ps v = true) : ∃ t : Nat, v = .int t ∧ t < ps.length := by
  cases v with
  | int i =>
    have h : begunB ps i = true := h
    unfold begunB at h
    rw [Bool.and_eq_true, decide_eq_true_iff, decide_eq_true_iff] at h
    exact ⟨i.toNat, by congr 1; omega, by omega⟩
  | _ => cases h
/-- a def that raises nothing, where it may -/
theorem _root_.L2.FnOk.toX {P : Program} {w : World} {K : PySem.W.Frag} {mg : Str → Option Value} {base : Heap} {k : Nat} {f : Addr} {fd : FuncData} {ps : List Str} {sp : Sp} (F : FnOk P w K mg base CX0 k f fd ps sp) : FnOk P w K mg base (CX1 P w) k f fd ps sp :=
  ⟨F.len, fun A outer s H args us vs Q E hr he hb hv hs => codeAny_mono (F.run A outer s H args us vs Q E hr he hb hv hs) fun r s' h => by
    cases r with
    | error e => exact False.elim h
    | ok fl => cases fl <;> exact h⟩
/-- of two promises one -/
def spOr (a b : Sp) : Sp := fun vs H Q E => a vs H Q E ∨ b vs H Q E
theorem _root_.L2.FnOk.or {P : Program} {w : World} {K : PySem.W.Frag} {mg : Str → Option Value} {base : Heap} {CX : CXT} {k : Nat} {f : Addr} {fd : FuncData} {ps : List Str} {a b : Sp} (F : FnOk P w K mg base CX k f fd ps a) (G : FnOk P w K mg base CX k f fd ps b) : FnOk P w K mg base CX k f fd ps (spOr a b) :=
  ⟨fun vs H Q E h => h.elim (F.len vs H Q E) (G.len vs H Q E), fun A outer s H args us vs Q E hr he hb hv hs => hs.elim (F.run A outer s H args us vs Q E hr he hb hv) (G.run A outer s H args us vs Q E hr he hb hv)⟩
section
variable {P : Program} {w : World} {K : PySem.W.Frag} {mg : Str → Option Value} {base : Heap} {A : Adr}
def spNumG : Sp := fun vs H Q _ => ∃ v, vs = [v] ∧ TV H v ∧ Q (.bl (isNum v)) H
theorem ok_is_numberG (T : Txt K mg A) : FnOk P w K mg base CX0 1 A.a_is_number A.d_is_number ["thing"] spNumG := by
  refine T.F_is_number.ok sc_is_number (fun vs H Q E h => ?_) (fun cdv Ar outer s H vs Q E hr h => ?_)
  · obtain ⟨v, rfl, _⟩ := h
    rfl
  · obtain ⟨v, rfl, p, k⟩ := h
    refine ⟨_, (pss_one (ps_ret (pe_and (pe_callB call_isinst (by rfl) T.z_isinstance Boot.«isinstance» (pa_cons (pv 0) (pa_cons (pe_bltn (v := .ty "int") rfl T.z_int Boot.«int» rfl) pa_nil))) (pe_one (pe_not (pe_callB call_isinst (by rfl) T.z_isinstance Boot.«isinstance» (pa_cons (pv 0) (pa_cons (pe_bltn (v := .ty "bool") rfl T.z_bool Boot.«bool» rfl) pa_nil)))))))), ?_⟩
    cases p with
    | non => exact ⟨_, rfl, _, _, _, _, rfl, .non, rfl, _, rfl, iteF k⟩
    | bl b => exact ⟨_, rfl, _, _, _, _, rfl, .bl b, rfl, _, rfl, iteT ⟨_, rfl, _, _, _, _, rfl, .bl b, rfl, _, rfl, k⟩⟩
    | int i h => exact ⟨_, rfl, _, _, _, _, rfl, .int i, rfl, _, rfl, iteT ⟨_, rfl, _, _, _, _, rfl, .int i, rfl, _, rfl, k⟩⟩
    | str x h => exact ⟨_, rfl, _, _, _, _, rfl, .str x, rfl, _, rfl, iteF k⟩
    | lst e => exact ⟨_, rfl, _, _, _, _, rfl, .lst e, rfl, _, rfl, iteF k⟩
    | tup e => exact ⟨_, rfl, _, _, _, _, rfl, .tup e, rfl, _, rfl, iteF k⟩
    | dK e => exact ⟨_, rfl, _, _, _, _, rfl, .dK e, rfl, _, rfl, iteF k⟩
def spWholeG : Sp := fun vs H Q _ => ∃ (v : V) (lo hi : Int), vs = [v, .int lo, .int hi] ∧ TV H v ∧ Q (.bl (wholeV lo hi v)) H
theorem ok_is_wholeG (T : Txt K mg A) : FnOk P w K mg base CX0 2 A.a_is_whole A.d_is_whole ["thing", "low", "high"] spWholeG := by
  have G_is_number : FnOk P w K mg base CX0 1 A.a_is_number A.d_is_number ["thing"] spNumG := ok_is_numberG T
  refine T.F_is_whole.ok sc_is_whole (fun vs H Q E h => ?_) (fun cdv Ar outer s H vs Q E hr h => ?_)
  · obtain ⟨v, lo, hi, rfl, _⟩ := h
    rfl
  · obtain ⟨v, lo, hi, rfl, p, k⟩ := h
    refine ⟨_, (pss_one (ps_ret (pe_and (pe_call G_is_number hr rfl T.m_is_number T.F_is_number.kp T.b_is_number .nil pass0 (pa_cons (pv 0) pa_nil)) (pe_one (pe_chain op_le op_le (pv 1) (pv 0) (pv 2)))))), ?_⟩
    refine ⟨_, rfl, v, rfl, p, _, rfl, ?_⟩
    cases p with
    | int i h => exact iteT ⟨_, rfl, _, rfl, lo, i, rfl, rfl, _, rfl, whole_if (Q := fun b => Q (.bl b) H) k _ fun q => ⟨_, rfl, i, hi, rfl, rfl, q⟩⟩
    | non => exact iteF k
    | bl b => exact iteF k
    | str x h => exact iteF k
    | lst e => exact iteF k
    | tup e => exact iteF k
    | dK e => exact iteF k
def spWasG (C : Addr) : Sp := fun vs H Q _ => ∃ f pa ta ps ts, ∃ v : V, vs = [.ref f, v] ∧ FrAt C H f pa ta ps ts ∧ TV H v ∧ Q (.bl (begV ps v)) H
theorem ok_Frames_was_begunG (T : Txt K mg A) : FnOk P w K mg base CX0 3 A.a_Frames_was_begun A.d_Frames_was_begun ["self", "thing"] (spWasG A.a_Frames) := by
  have G_is_whole : FnOk P w K mg base CX0 2 A.a_is_whole A.d_is_whole ["thing", "low", "high"] spWholeG := ok_is_wholeG T
  have G_Frames_begun : FnOk P w K mg base CX0 2 A.a_Frames_begun A.d_Frames_begun ["self"] (spBegun A.a_Frames) := (ok_Frames_begun T).mono (by decide)
  refine T.F_Frames_was_begun.ok sc_Frames_was_begun (fun vs H Q E h => ?_) (fun cdv Ar outer s H vs Q E hr h => ?_)
  · obtain ⟨f, pa, ta, ps, ts, v, rfl, _⟩ := h
    rfl
  · obtain ⟨f, pa, ta, ps, ts, v, rfl, F, p, k⟩ := h
    obtain ⟨⟨dx, ho⟩, hp, ht, ne⟩ := id F
    obtain ⟨u1, c_GROUND⟩ := T.u_GROUND
    refine ⟨_, (pss_one (ps_ret (pe_call G_is_whole hr rfl T.m_is_whole T.F_is_whole.kp T.b_is_whole .nil pass0 (pa_cons (pv 1) (pa_cons (pe_glob rfl c_GROUND.2 c_GROUND.1) (pa_cons (pe_meth0 (pv 0) T.K_Frames T.t_Frames_begun G_Frames_begun hr T.b_Frames_begun .nil pass0) pa_nil)))))), ?_⟩
    refine ⟨_, rfl, _, rfl, f, dx, _, rfl, ho, flds_no _ _ (by decide +kernel) (by decide +kernel), f, pa, ta, ps, ts, rfl, F, v, 0, _, rfl, p, ?_⟩
    rw [begV_whole]
    exact k
def spStandsG (C : Addr) : Sp := fun vs H Q _ => ∃ f pa ta ps ts, ∃ v : V, vs = [.ref f, v] ∧ FrAt C H f pa ta ps ts ∧ ps.length = ts.length ∧ TV H v ∧ Q (.bl (standV ts v)) H
theorem ok_Frames_standsG (T : Txt K mg A) : FnOk P w K mg base CX0 4 A.a_Frames_stands A.d_Frames_stands ["self", "thing"] (spStandsG A.a_Frames) := by
  have G_Frames_was_begun : FnOk P w K mg base CX0 3 A.a_Frames_was_begun A.d_Frames_was_begun ["self", "thing"] (spWasG A.a_Frames) := ok_Frames_was_begunG T
  refine T.F_Frames_stands.ok sc_Frames_stands (fun vs H Q E h => ?_) (fun cdv Ar outer s H vs Q E hr h => ?_)
  · obtain ⟨f, pa, ta, ps, ts, v, rfl, _⟩ := h
    rfl
  · obtain ⟨f, pa, ta, ps, ts, v, rfl, F, hl, p, k⟩ := h
    obtain ⟨⟨dx, ho⟩, hp, ht, ne⟩ := id F
    refine ⟨_, (pss_one (ps_ret (pe_and (pe_meth (pv 0) T.K_Frames T.t_Frames_was_begun G_Frames_was_begun hr T.b_Frames_was_begun .nil pass0 (pa_cons (pv 1) pa_nil)) (pe_one (pe_cmpR op_isN (pe_ix ix_list (pe_fld (pv 0) rfl) (pv 1) (fun _ _ => rfl)) pe_non (nomark _)))))), ?_⟩
    refine ⟨_, rfl, f, dx, _, rfl, ho, flds_no _ _ (by decide +kernel) (by decide +kernel), _, rfl, f, pa, ta, ps, ts, v, rfl, F, p, _, rfl, ?_⟩
    cases hb : begV ps v with
    | true =>
      obtain ⟨j, rfl, hj⟩ := begV_nat hb
      have hj : j < ts.length := by omega
      have hx : ts[j]? = some ts[j] := by simp [hj]
      refine iteT ⟨_, rfl, f, A.a_Frames, dx, _, _, rfl, ho, T.K_Frames, T.n_Frames_takers, flds_t _ _, _, rfl, ta, _, _, _, rfl, rfl, SqL.of ht, at_map hx, rfl, ?_⟩
      have e : standV ts (.int (j : Int)) = decide (oV ts[j] = .non) := by
        show standB ts (j : Int) = _
        unfold standB
        rw [decide_eq_true (show (0 : Int) ≤ j by omega), Int.toNat_natCast, hx, Bool.true_and]
        cases ts[j] with
        | none => rfl
        | some n => rfl
      rw [← e]
      exact k
    | false =>
      have e : standV ts v = false := by
        cases v with
        | int i =>
          have hb : begunB ps i = false := hb
          cases q : standB ts i with
          | true => rw [stand_begun hl q] at hb; cases hb
          | false => exact q
        | _ => rfl
      rw [e] at k
      exact iteF k
/-! ### making the exceptions -/
def spRI (K : PySem.W.Frag) : Sp := fun vs H Q _ => ∃ a C dd n x, vs = [.ref a, x] ∧ H a = some (.ext (excP a C dd n)) ∧ ExcC K C ∧ Q .non H
theorem ok_RoomError___init__ (T : Txt K mg A) : FnOk P w K mg base CX0 1 A.a_RoomError___init__ A.d_RoomError___init__ ["self", "text"] (spRI K) := by
  refine T.F_RoomError___init__.ok sc_RoomError___init__ (fun vs H Q E h => ?_) (fun cdv Ar outer s H vs Q E hr h => ?_)
  · obtain ⟨a, C, dd, n, x, rfl, _⟩ := h
    rfl
  · obtain ⟨a, C, dd, n, x, rfl, ea, hc, k⟩ := h
    refine ⟨_, (pss_one (ps_expr (pe_vinit rfl T.z_ValueError (pa_cons (pv 0) (pa_cons (pv 1) pa_nil))))), ?_⟩
    exact ⟨_, rfl, _, rfl, a, C, dd, n, x, rfl, ea, hc, k⟩
def spX1 (C : Addr) (fd : Str) : Sp := fun vs H Q _ => ∃ a x, vs = [.ref a, x] ∧ H a = some (.ext (excP a C none true)) ∧ ∀ dx, H dx = none → dx ≠ a → Q .non (upd (upd H a (.ext (excP a C (some dx) true))) dx (.xd [(fd, x)]))
theorem ok_NoFrame___init__ (T : Txt K mg A) : FnOk P w K mg base CX0 2 A.a_NoFrame___init__ A.d_NoFrame___init__ ["self", "found"] (spX1 A.a_NoFrame "found") := by
  have G_RoomError___init__ : FnOk P w K mg base CX0 1 A.a_RoomError___init__ A.d_RoomError___init__ ["self", "text"] (spRI K) := ok_RoomError___init__ T
  refine T.F_NoFrame___init__.ok sc_NoFrame___init__ (fun vs H Q E h => ?_) (fun cdv Ar outer s H vs Q E hr h => ?_)
  · obtain ⟨a, x, rfl, _⟩ := h
    rfl
  · obtain ⟨a, x, rfl, ea, k⟩ := h
    refine ⟨_, (pss_cons (ps_expr (pe_ccall T.c_RoomError___init__ rfl T.m_RoomError G_RoomError___init__ hr T.b_RoomError___init__ .nil pass0 (pa_cons (pv 0) (pa_cons pe_str pa_nil)))) (pss_one (ps_fldX (pv 0) (pv 1) rfl))), ?_⟩
    refine ⟨_, rfl, a, A.a_NoFrame, none, true, _, rfl, ea, T.X_NoFrame.toExcC, ?_⟩
    exact ⟨_, rfl, _, rfl, a, A.a_NoFrame, true, rfl, T.e_NoFrame, T.n_NoFrame_found, .inl ⟨ea, fun dx hn ne => k dx hn ne⟩⟩
theorem ok_TooMany___init__ (T : Txt K mg A) : FnOk P w K mg base CX0 2 A.a_TooMany___init__ A.d_TooMany___init__ ["self", "many"] (spX1 A.a_TooMany "many") := by
  have G_RoomError___init__ : FnOk P w K mg base CX0 1 A.a_RoomError___init__ A.d_RoomError___init__ ["self", "text"] (spRI K) := ok_RoomError___init__ T
  refine T.F_TooMany___init__.ok sc_TooMany___init__ (fun vs H Q E h => ?_) (fun cdv Ar outer s H vs Q E hr h => ?_)
  · obtain ⟨a, x, rfl, _⟩ := h
    rfl
  · obtain ⟨a, x, rfl, ea, k⟩ := h
    refine ⟨_, (pss_cons (ps_expr (pe_ccall T.c_RoomError___init__ rfl T.m_RoomError G_RoomError___init__ hr T.b_RoomError___init__ .nil pass0 (pa_cons (pv 0) (pa_cons pe_str pa_nil)))) (pss_one (ps_fldX (pv 0) (pv 1) rfl))), ?_⟩
    refine ⟨_, rfl, a, A.a_TooMany, none, true, _, rfl, ea, T.X_TooMany.toExcC, ?_⟩
    exact ⟨_, rfl, _, rfl, a, A.a_TooMany, true, rfl, T.e_TooMany, T.n_TooMany_many, .inl ⟨ea, fun dx hn ne => k dx hn ne⟩⟩
def spX0 (C : Addr) : Sp := fun vs H Q _ => ∃ a, vs = [.ref a] ∧ H a = some (.ext (excP a C none true)) ∧ Q .non H
theorem ok_Ground___init__ (T : Txt K mg A) : FnOk P w K mg base CX0 2 A.a_Ground___init__ A.d_Ground___init__ ["self"] (spX0 A.a_Ground) := by
  have G_RoomError___init__ : FnOk P w K mg base CX0 1 A.a_RoomError___init__ A.d_RoomError___init__ ["self", "text"] (spRI K) := ok_RoomError___init__ T
  refine T.F_Ground___init__.ok sc_Ground___init__ (fun vs H Q E h => ?_) (fun cdv Ar outer s H vs Q E hr h => ?_)
  · obtain ⟨a, rfl, _⟩ := h
    rfl
  · obtain ⟨a, rfl, ea, k⟩ := h
    refine ⟨_, (pss_one (ps_expr (pe_ccall T.c_RoomError___init__ rfl T.m_RoomError G_RoomError___init__ hr T.b_RoomError___init__ .nil pass0 (pa_cons (pv 0) (pa_cons pe_str pa_nil))))), ?_⟩
    exact ⟨_, rfl, a, A.a_Ground, none, true, _, rfl, ea, T.X_Ground.toExcC, k⟩
def spX2 (C : Addr) : Sp := fun vs H Q _ => ∃ a x y, vs = [.ref a, x, y] ∧ H a = some (.ext (excP a C none true)) ∧ ∀ dx, H dx = none → dx ≠ a → Q .non (upd (upd (upd H a (.ext (excP a C (some dx) true))) dx (.xd [("found", x)])) dx (.xd (putF "by" y [("found", x)])))
theorem ok_Gone___init__ (T : Txt K mg A) : FnOk P w K mg base CX0 2 A.a_Gone___init__ A.d_Gone___init__ ["self", "found", "by"] (spX2 A.a_Gone) := by
  have G_RoomError___init__ : FnOk P w K mg base CX0 1 A.a_RoomError___init__ A.d_RoomError___init__ ["self", "text"] (spRI K) := ok_RoomError___init__ T
  refine T.F_Gone___init__.ok sc_Gone___init__ (fun vs H Q E h => ?_) (fun cdv Ar outer s H vs Q E hr h => ?_)
  · obtain ⟨a, x, y, rfl, _⟩ := h
    rfl
  · obtain ⟨a, x, y, rfl, ea, k⟩ := h
    refine ⟨_, (pss_cons (ps_expr (pe_ccall T.c_RoomError___init__ rfl T.m_RoomError G_RoomError___init__ hr T.b_RoomError___init__ .nil pass0 (pa_cons (pv 0) (pa_cons pe_str pa_nil)))) (pss_cons (ps_fldX (pv 0) (pv 1) rfl) (pss_one (ps_fldX (pv 0) (pv 2) rfl)))), ?_⟩
    refine ⟨_, rfl, a, A.a_Gone, none, true, _, rfl, ea, T.X_Gone.toExcC, ?_⟩
    refine ⟨_, rfl, _, rfl, a, A.a_Gone, true, rfl, T.e_Gone, T.n_Gone_found, .inl ⟨ea, fun dx hn ne => ?_⟩⟩
    exact ⟨_, rfl, _, rfl, a, A.a_Gone, true, rfl, T.e_Gone, T.n_Gone_by, .inr ⟨dx, _, (by rw [upd_ne ne.symm, upd_same]), upd_same, ne, (show 1 ≤ 900 by decide), k dx hn ne⟩⟩
end
theorem raise1 {K : PySem.W.Frag} {C : Addr} {fd : Str} {k : Ends} {σ : L2.St} {v : V} {H : Hp} {E : XK} {t : TA} (hc : ExcC K C) (ht : ∀ Q : List V → Hp → Prop, Q [v] H → t σ H Q)
    (r : ∀ dx H2, Same H H2 → H2 dx = some (.xd [(fd, v)]) → E (.ref C) (some dx) H2) : sRaise K E (tMakeX C (spX1 C fd) E0 t) k σ H := by
  refine ht _ fun x hx => ⟨x, v, rfl, upd_same, fun dx hdx ne => ⟨rfl, x, C, some dx, rfl, (by rw [upd_ne (fun z => ne z.symm), upd_same]), hc, r dx _ (fun c o e => ?_) ?_⟩⟩
  · have hd : H dx = none := by rw [upd_ne ne] at hdx; exact hdx
    rw [upd_ne (ne_of_none e hx), upd_ne (ne_of_none e hd), upd_ne (ne_of_none e hx), upd_ne (ne_of_none e hx)]
    exact e
  · rw [upd_ne ne, upd_same]
theorem raise2 {K : PySem.W.Frag} {C : Addr} {k : Ends} {σ : L2.St} {v y : V} {H : Hp} {E : XK} {t : TA} (hc : ExcC K C) (ht : ∀ Q : List V → Hp → Prop, Q [v, y] H → t σ H Q)
    (r : ∀ dx H2, Same H H2 → H2 dx = some (.xd (putF "by" y [("found", v)])) → E (.ref C) (some dx) H2) : sRaise K E (tMakeX C (spX2 C) E0 t) k σ H := by
  refine ht _ fun x hx => ⟨x, v, y, rfl, upd_same, fun dx hdx ne => ⟨rfl, x, C, some dx, rfl, (by rw [upd_ne (fun z => ne z.symm), upd_ne (fun z => ne z.symm), upd_same]), hc, r dx _ (fun c o e => ?_) ?_⟩⟩
  · have hd : H dx = none := by rw [upd_ne ne] at hdx; exact hdx
    rw [upd_ne (ne_of_none e hx), upd_ne (ne_of_none e hd), upd_ne (ne_of_none e hd), upd_ne (ne_of_none e hx), upd_ne (ne_of_none e hx)]
    exact e
  · rw [upd_ne ne, upd_same]
theorem raise0 {K : PySem.W.Frag} {C : Addr} {k : Ends} {σ : L2.St} {H : Hp} {E : XK} (hc : ExcC K C) (r : ∀ H2, Same H H2 → E (.ref C) none H2) : sRaise K E (tMakeX C (spX0 C) E0 tNil) k σ H := by
  refine fun x hx => ⟨x, rfl, upd_same, ⟨rfl, x, C, none, rfl, upd_same, hc, r _ fun c o e => ?_⟩⟩
  rw [upd_ne (ne_of_none e hx), upd_ne (ne_of_none e hx)]
  exact e
end My

namespace My
open PySem L2 PyProof.Rows
section
variable {P : Program} {w : World} {K : PySem.W.Frag} {mg : Str → Option Value} {base : Heap} {A : Adr}
/-! ### what is refused -/
def spRefG (A : Adr) : Sp := fun vs H _ E => ∃ f pa ta ps ts, ∃ v : V, vs = [.ref f, v] ∧ FrAt A.a_Frames H f pa ta ps ts ∧ TV H v ∧ begV ps v = false ∧ Raises A H E (.frame v)
theorem ok_Frames_want_begunX (T : Txt K mg A) : FnOk P w K mg base (CX1 P w) 4 A.a_Frames_want_begun A.d_Frames_want_begun ["self", "thing"] (spRefG A) := by
  have G_Frames_was_begun : FnOk P w K mg base CX0 3 A.a_Frames_was_begun A.d_Frames_was_begun ["self", "thing"] (spWasG A.a_Frames) := ok_Frames_was_begunG T
  have G_NoFrame___init__ : FnOk P w K mg base CX0 2 A.a_NoFrame___init__ A.d_NoFrame___init__ ["self", "found"] (spX1 A.a_NoFrame "found") := ok_NoFrame___init__ T
  refine T.F_Frames_want_begun.okX sc_Frames_want_begun (fun vs H Q E h => ?_) (fun cdv Ar outer s H vs Q E hr h => ?_)
  · obtain ⟨f, pa, ta, ps, ts, v, rfl, _⟩ := h
    rfl
  · obtain ⟨f, pa, ta, ps, ts, v, rfl, F, p, hb, r⟩ := h
    obtain ⟨⟨dx, ho⟩, hp, ht, ne⟩ := id F
    refine ⟨_, (pss_one (ps_if (pt_not (pt_val (pe_meth (pv 0) T.K_Frames T.t_Frames_was_begun G_Frames_was_begun hr T.b_Frames_was_begun .nil pass0 (pa_cons (pv 1) pa_nil)))) (pss_one (ps_raise rfl wants_def (pe_makeX T.X_NoFrame G_NoFrame___init__ hr rfl T.m_NoFrame T.b_NoFrame___init__ pass0 (pa_cons (pv 1) pa_nil) (fun _ _ _ _ h => by rw [G_NoFrame___init__.len _ _ _ _ h]; decide)))) pss_nil)), ?_⟩
    refine ⟨_, rfl, f, dx, _, rfl, ho, flds_no _ _ (by decide +kernel) (by decide +kernel), _, rfl, f, pa, ta, ps, ts, v, rfl, F, p, _, rfl, ?_⟩
    rw [hb]
    exact raise1 (K := K) (k := { nx := fun _ H' => Q .non H', rt := Q }) T.X_NoFrame.toExcC (fun Q' q => ⟨_, rfl, q⟩) r
theorem want_begun_all (T : Txt K mg A) : FnOk P w K mg base (CX1 P w) 4 A.a_Frames_want_begun A.d_Frames_want_begun ["self", "thing"] (spOr (spWantB A.a_Frames) (spRefG A)) := (ok_Frames_want_begun T).toX.or (ok_Frames_want_begunX T)
def spRefS (A : Adr) : Sp := fun vs H _ E => ∃ f pa ta ps ts, ∃ (v : V) (r : Rf), vs = [.ref f, v] ∧ FrAt A.a_Frames H f pa ta ps ts ∧ ps.length = ts.length ∧ TV H v ∧ rS ps ts v = some r ∧ Raises A H E r
theorem ok_Frames_want_standingX (T : Txt K mg A) : FnOk P w K mg base (CX1 P w) 5 A.a_Frames_want_standing A.d_Frames_want_standing ["self", "thing"] (spRefS A) := by
  have G_Frames_want_begun : FnOk P w K mg base (CX1 P w) 4 A.a_Frames_want_begun A.d_Frames_want_begun ["self", "thing"] (spOr (spWantB A.a_Frames) (spRefG A)) := want_begun_all T
  have G_Frames_stands : FnOk P w K mg base CX0 4 A.a_Frames_stands A.d_Frames_stands ["self", "thing"] (spStands A.a_Frames) := ok_Frames_stands T
  have G_Gone___init__ : FnOk P w K mg base CX0 3 A.a_Gone___init__ A.d_Gone___init__ ["self", "found", "by"] (spX2 A.a_Gone) := (ok_Gone___init__ T).mono (by decide)
  refine T.F_Frames_want_standing.okX sc_Frames_want_standing (fun vs H Q E h => ?_) (fun cdv Ar outer s H vs Q E hr h => ?_)
  · obtain ⟨f, pa, ta, ps, ts, v, r, rfl, _⟩ := h
    rfl
  · obtain ⟨f, pa, ta, ps, ts, v, r, rfl, F, hl, p, hr', R⟩ := h
    obtain ⟨⟨dx, ho⟩, hp, ht, ne⟩ := id F
    refine ⟨_, (pss_cons (ps_expr (pe_meth (pv 0) T.K_Frames T.t_Frames_want_begun G_Frames_want_begun hr T.b_Frames_want_begun .nil (passes_of wants_def trivial) (pa_cons (pv 1) pa_nil))) (pss_one (ps_if (pt_not (pt_val (pe_meth (pv 0) T.K_Frames T.t_Frames_stands G_Frames_stands hr T.b_Frames_stands .nil pass0 (pa_cons (pv 1) pa_nil)))) (pss_one (ps_raise rfl wants_def (pe_makeX T.X_Gone G_Gone___init__ hr rfl T.m_Gone T.b_Gone___init__ pass0 (pa_cons (pv 1) (pa_cons (pe_ix ix_list (pe_fld (pv 0) rfl) (pv 1) (fun _ _ => rfl)) pa_nil)) (fun _ _ _ _ h => by rw [G_Gone___init__.len _ _ _ _ h]; decide)))) pss_nil))), ?_⟩
    refine ⟨_, rfl, f, dx, _, rfl, ho, flds_no _ _ (by decide +kernel) (by decide +kernel), _, rfl, ?_⟩
    unfold rS at hr'
    cases hb : begV ps v with
    | false =>
      rw [hb, if_neg Bool.false_ne_true] at hr'
      cases hr'
      exact .inr ⟨f, pa, ta, ps, ts, v, rfl, F, p, hb, R⟩
    | true =>
      rw [hb, if_pos rfl] at hr'
      obtain ⟨t, rfl, htl⟩ := begV_nat hb
      have hts : t < ts.length := by omega
      have hx : ts[t]? = some ts[t] := by simp [hts]
      have hr' : (match ts[((t : Nat) : Int).toNat]? with | some (some j) => some (Rf.gone (.int t) (.int j)) | _ => none) = some r := hr'
      rw [Int.toNat_natCast, hx] at hr'
      cases ej : ts[t] with
      | none => rw [ej] at hr'; cases hr'
      | some j =>
        rw [ej] at hr' hx
        cases hr'
        refine .inl ⟨f, pa, ta, ps, ts, t, rfl, F, hb, ?_⟩
        refine ⟨_, rfl, f, dx, _, rfl, ho, flds_no _ _ (by decide +kernel) (by decide +kernel), _, rfl, f, pa, ta, ps, ts, t, rfl, F, hl, _, rfl, ?_⟩
        have hs : standB ts (t : Int) = false := by
          unfold standB
          rw [Int.toNat_natCast, hx, decide_eq_true (show (0 : Int) ≤ t by omega)]
          rfl
        rw [hs]
        exact raise2 (K := K) (y := .int (j : Int)) (k := { nx := fun _ H' => Q .non H', rt := Q }) T.X_Gone.toExcC (fun Q' q => ⟨_, rfl, _, rfl, f, A.a_Frames, dx, _, _, rfl, ho, T.K_Frames, T.n_Frames_takers, flds_t _ _, _, rfl, ta, _, _, _, rfl, rfl, SqL.of ht, at_map hx, q⟩) R
theorem want_standing_all (T : Txt K mg A) : FnOk P w K mg base (CX1 P w) 5 A.a_Frames_want_standing A.d_Frames_want_standing ["self", "thing"] (spOr (spWantS A.a_Frames) (spRefS A)) := (ok_Frames_want_standing T).toX.or (ok_Frames_want_standingX T)
/-- what is not refused stands -/
theorem rS_none {ps ts : List (Option Nat)} {v : V} (hl : ps.length = ts.length) (h : rS ps ts v = none) : ∃ t : Nat, v = .int t ∧ standB ts (t : Int) = true := by
  unfold rS at h
  cases hb : begV ps v with
  | false => rw [hb, if_neg Bool.false_ne_true] at h; cases h
  | true =>
    rw [hb, if_pos rfl] at h
    obtain ⟨t, rfl, htl⟩ := begV_nat hb
    have hts : t < ts.length := by omega
    have hx : ts[t]? = some ts[t] := by simp [hts]
    have h : (match ts[((t : Nat) : Int).toNat]? with | some (some j) => some (Rf.gone (.int t) (.int j)) | _ => none) = none := h
    rw [Int.toNat_natCast, hx] at h
    refine ⟨t, rfl, ?_⟩
    unfold standB
    rw [Int.toNat_natCast, hx, decide_eq_true (show (0 : Int) ≤ t by omega)]
    cases ej : ts[t] with
    | none => rfl
    | some j => rw [ej] at h; cases h
def spRef (A : Adr) (rX : List (Option Nat) → List (Option Nat) → V → Option Rf) : Sp := fun vs H _ E => ∃ f pa ta ps ts, ∃ (v : V) (r : Rf), vs = [.ref f, v] ∧ FrAt A.a_Frames H f pa ta ps ts ∧ ps.length = ts.length ∧ TV H v ∧ rX ps ts v = some r ∧ Raises A H E r
theorem ok_Frames_want_beginningX (T : Txt K mg A) : FnOk P w K mg base (CX1 P w) 6 A.a_Frames_want_beginning A.d_Frames_want_beginning ["self", "thing"] (spRef A rB) := by
  have G_Frames_want_standing : FnOk P w K mg base (CX1 P w) 5 A.a_Frames_want_standing A.d_Frames_want_standing ["self", "thing"] (spOr (spWantS A.a_Frames) (spRefS A)) := want_standing_all T
  have G_Frames_begun : FnOk P w K mg base CX0 5 A.a_Frames_begun A.d_Frames_begun ["self"] (spBegun A.a_Frames) := (ok_Frames_begun T).mono (by decide)
  have G_TooMany___init__ : FnOk P w K mg base CX0 4 A.a_TooMany___init__ A.d_TooMany___init__ ["self", "many"] (spX1 A.a_TooMany "many") := (ok_TooMany___init__ T).mono (by decide)
  refine T.F_Frames_want_beginning.okX sc_Frames_want_beginning (fun vs H Q E h => ?_) (fun cdv Ar outer s H vs Q E hr h => ?_)
  · obtain ⟨f, pa, ta, ps, ts, v, r, rfl, _⟩ := h
    rfl
  · obtain ⟨f, pa, ta, ps, ts, v, r, rfl, F, hl, p, hr', R⟩ := h
    obtain ⟨⟨dx, ho⟩, hp, ht, ne⟩ := id F
    obtain ⟨u1, c_MOST_FRAMES⟩ := T.u_MOST_FRAMES
    refine ⟨_, (pss_cons (ps_expr (pe_meth (pv 0) T.K_Frames T.t_Frames_want_standing G_Frames_want_standing hr T.b_Frames_want_standing .nil (passes_of wants_def trivial) (pa_cons (pv 1) pa_nil))) (pss_one (ps_if (pt_cmpR op_eq (pe_meth0 (pv 0) T.K_Frames T.t_Frames_begun G_Frames_begun hr T.b_Frames_begun .nil pass0) (pe_glob rfl c_MOST_FRAMES.2 c_MOST_FRAMES.1) (nomark _)) (pss_one (ps_raise rfl wants_def (pe_makeX T.X_TooMany G_TooMany___init__ hr rfl T.m_TooMany T.b_TooMany___init__ pass0 (pa_cons (pe_op op_add (pe_glob rfl c_MOST_FRAMES.2 c_MOST_FRAMES.1) pe_int) pa_nil) (fun _ _ _ _ h => by rw [G_TooMany___init__.len _ _ _ _ h]; decide)))) pss_nil))), ?_⟩
    refine ⟨_, rfl, f, dx, _, rfl, ho, flds_no _ _ (by decide +kernel) (by decide +kernel), _, rfl, ?_⟩
    unfold rB at hr'
    cases hs : rS ps ts v with
    | some r' =>
      rw [hs] at hr'
      cases hr'
      exact .inr ⟨f, pa, ta, ps, ts, v, r, rfl, F, hl, p, hs, R⟩
    | none =>
      rw [hs] at hr'
      obtain ⟨t, rfl, hst⟩ := rS_none hl hs
      have hr' : (if ps.length = 101 then some Rf.many else none) = some r := hr'
      by_cases hn : ps.length = 101
      · rw [if_pos hn] at hr'
        cases hr'
        refine .inl ⟨f, pa, ta, ps, ts, t, rfl, F, hl, hst, ?_⟩
        refine ⟨_, rfl, f, dx, _, rfl, ho, flds_no _ _ (by decide +kernel) (by decide +kernel), f, pa, ta, ps, ts, rfl, F, ?_⟩
        refine ⟨rfl, _, rfl, ?_⟩
        rw [decide_eq_true (show V.int ((ps.length : Int) - 1) = V.int 100 by rw [hn]; rfl)]
        exact iteT (raise1 (K := K) (v := .int 101) (k := { nx := fun _ H' => Q .non H', rt := Q }) T.X_TooMany.toExcC (fun Q' q => ⟨100, 1, rfl, rfl, q⟩) R)
      · rw [if_neg hn] at hr'
        cases hr'
theorem ok_Frames_want_finishingX (T : Txt K mg A) : FnOk P w K mg base (CX1 P w) 6 A.a_Frames_want_finishing A.d_Frames_want_finishing ["self", "thing"] (spRef A rF) := by
  have G_Frames_want_standing : FnOk P w K mg base (CX1 P w) 5 A.a_Frames_want_standing A.d_Frames_want_standing ["self", "thing"] (spOr (spWantS A.a_Frames) (spRefS A)) := want_standing_all T
  have G_Ground___init__ : FnOk P w K mg base CX0 4 A.a_Ground___init__ A.d_Ground___init__ ["self"] (spX0 A.a_Ground) := (ok_Ground___init__ T).mono (by decide)
  refine T.F_Frames_want_finishing.okX sc_Frames_want_finishing (fun vs H Q E h => ?_) (fun cdv Ar outer s H vs Q E hr h => ?_)
  · obtain ⟨f, pa, ta, ps, ts, v, r, rfl, _⟩ := h
    rfl
  · obtain ⟨f, pa, ta, ps, ts, v, r, rfl, F, hl, p, hr', R⟩ := h
    obtain ⟨⟨dx, ho⟩, hp, ht, ne⟩ := id F
    obtain ⟨u1, c_GROUND⟩ := T.u_GROUND
    refine ⟨_, (pss_cons (ps_expr (pe_meth (pv 0) T.K_Frames T.t_Frames_want_standing G_Frames_want_standing hr T.b_Frames_want_standing .nil (passes_of wants_def trivial) (pa_cons (pv 1) pa_nil))) (pss_one (ps_if (pt_cmpR op_eq (pv 1) (pe_glob rfl c_GROUND.2 c_GROUND.1) (nomark _)) (pss_one (ps_raise rfl wants_def (pe_makeX0 T.X_Ground G_Ground___init__ hr rfl T.m_Ground T.b_Ground___init__ pass0))) pss_nil))), ?_⟩
    refine ⟨_, rfl, f, dx, _, rfl, ho, flds_no _ _ (by decide +kernel) (by decide +kernel), _, rfl, ?_⟩
    unfold rF at hr'
    cases hs : rS ps ts v with
    | some r' =>
      rw [hs] at hr'
      cases hr'
      exact .inr ⟨f, pa, ta, ps, ts, v, r, rfl, F, hl, p, hs, R⟩
    | none =>
      rw [hs] at hr'
      obtain ⟨t, rfl, hst⟩ := rS_none hl hs
      have hr' : (if V.int (t : Int) = V.int 0 then some Rf.ground else none) = some r := hr'
      by_cases hn : V.int (t : Int) = V.int 0
      · rw [if_pos hn] at hr'
        cases hr'
        refine .inl ⟨f, pa, ta, ps, ts, t, rfl, F, hl, hst, ?_⟩
        refine ⟨_, rfl, rfl, _, rfl, ?_⟩
        rw [decide_eq_true hn]
        exact iteT (raise0 (K := K) (k := { nx := fun _ H' => Q .non H', rt := Q }) T.X_Ground.toExcC R)
      · rw [if_neg hn] at hr'
        cases hr'
theorem ok_Frames_beginX (T : Txt K mg A) : FnOk P w K mg base (CX1 P w) 7 A.a_Frames_begin A.d_Frames_begin ["self", "frame"] (spRef A rB) := by
  have G_Frames_want_beginning : FnOk P w K mg base (CX1 P w) 6 A.a_Frames_want_beginning A.d_Frames_want_beginning ["self", "thing"] (spRef A rB) := ok_Frames_want_beginningX T
  have G_Frames_begun : FnOk P w K mg base CX0 6 A.a_Frames_begun A.d_Frames_begun ["self"] (spBegun A.a_Frames) := (ok_Frames_begun T).mono (by decide)
  refine T.F_Frames_begin.okX sc_Frames_begin (fun vs H Q E h => ?_) (fun cdv Ar outer s H vs Q E hr h => ?_)
  · obtain ⟨f, pa, ta, ps, ts, v, r, rfl, _⟩ := h
    rfl
  · obtain ⟨f, pa, ta, ps, ts, v, r, rfl, F, z⟩ := h
    obtain ⟨⟨dx, ho⟩, hp, ht, ne⟩ := id F
    refine ⟨_, (pss_cons (ps_expr (pe_meth (pv 0) T.K_Frames T.t_Frames_want_beginning G_Frames_want_beginning hr T.b_Frames_want_beginning .nil (passes_of wants_def trivial) (pa_cons (pv 1) pa_nil))) pss_never), ?_⟩
    exact ⟨_, rfl, f, dx, _, rfl, ho, flds_no _ _ (by decide +kernel) (by decide +kernel), _, rfl, f, pa, ta, ps, ts, v, r, rfl, F, z⟩
theorem ok_Frames_finishX (T : Txt K mg A) : FnOk P w K mg base (CX1 P w) 7 A.a_Frames_finish A.d_Frames_finish ["self", "frame"] (spRef A rF) := by
  have G_Frames_want_finishing : FnOk P w K mg base (CX1 P w) 6 A.a_Frames_want_finishing A.d_Frames_want_finishing ["self", "thing"] (spRef A rF) := ok_Frames_want_finishingX T
  have G_Frames_part : FnOk P w K mg base CX0 6 A.a_Frames_part A.d_Frames_part ["self", "frame"] (spPart A.a_Frames) := (ok_Frames_part T).mono (by decide)
  refine T.F_Frames_finish.okX sc_Frames_finish (fun vs H Q E h => ?_) (fun cdv Ar outer s H vs Q E hr h => ?_)
  · obtain ⟨f, pa, ta, ps, ts, v, r, rfl, _⟩ := h
    rfl
  · obtain ⟨f, pa, ta, ps, ts, v, r, rfl, F, z⟩ := h
    obtain ⟨⟨dx, ho⟩, hp, ht, ne⟩ := id F
    refine ⟨_, (pss_cons (ps_expr (pe_meth (pv 0) T.K_Frames T.t_Frames_want_finishing G_Frames_want_finishing hr T.b_Frames_want_finishing .nil (passes_of wants_def trivial) (pa_cons (pv 1) pa_nil))) pss_never), ?_⟩
    exact ⟨_, rfl, f, dx, _, rfl, ho, flds_no _ _ (by decide +kernel) (by decide +kernel), _, rfl, f, pa, ta, ps, ts, v, r, rfl, F, z⟩
theorem ok_Frames_insideX (T : Txt K mg A) : FnOk P w K mg base (CX1 P w) 5 A.a_Frames_inside A.d_Frames_inside ["self", "frame"] (spRefG A) := by
  have G_Frames_want_begun : FnOk P w K mg base (CX1 P w) 4 A.a_Frames_want_begun A.d_Frames_want_begun ["self", "thing"] (spRefG A) := ok_Frames_want_begunX T
  refine T.F_Frames_inside.okX sc_Frames_inside (fun vs H Q E h => ?_) (fun cdv Ar outer s H vs Q E hr h => ?_)
  · obtain ⟨f, pa, ta, ps, ts, v, rfl, _⟩ := h
    rfl
  · obtain ⟨f, pa, ta, ps, ts, v, rfl, F, z⟩ := h
    obtain ⟨⟨dx, ho⟩, hp, ht, ne⟩ := id F
    refine ⟨_, (pss_cons (ps_expr (pe_meth (pv 0) T.K_Frames T.t_Frames_want_begun G_Frames_want_begun hr T.b_Frames_want_begun .nil (passes_of wants_def trivial) (pa_cons (pv 1) pa_nil))) pss_never), ?_⟩
    exact ⟨_, rfl, f, dx, _, rfl, ho, flds_no _ _ (by decide +kernel) (by decide +kernel), _, rfl, f, pa, ta, ps, ts, v, rfl, F, z⟩
theorem ok_Frames_ended_byX (T : Txt K mg A) : FnOk P w K mg base (CX1 P w) 5 A.a_Frames_ended_by A.d_Frames_ended_by ["self", "frame"] (spRefG A) := by
  have G_Frames_want_begun : FnOk P w K mg base (CX1 P w) 4 A.a_Frames_want_begun A.d_Frames_want_begun ["self", "thing"] (spRefG A) := ok_Frames_want_begunX T
  refine T.F_Frames_ended_by.okX sc_Frames_ended_by (fun vs H Q E h => ?_) (fun cdv Ar outer s H vs Q E hr h => ?_)
  · obtain ⟨f, pa, ta, ps, ts, v, rfl, _⟩ := h
    rfl
  · obtain ⟨f, pa, ta, ps, ts, v, rfl, F, z⟩ := h
    obtain ⟨⟨dx, ho⟩, hp, ht, ne⟩ := id F
    refine ⟨_, (pss_cons (ps_expr (pe_meth (pv 0) T.K_Frames T.t_Frames_want_begun G_Frames_want_begun hr T.b_Frames_want_begun .nil (passes_of wants_def trivial) (pa_cons (pv 1) pa_nil))) pss_never), ?_⟩
    exact ⟨_, rfl, f, dx, _, rfl, ho, flds_no _ _ (by decide +kernel) (by decide +kernel), _, rfl, f, pa, ta, ps, ts, v, rfl, F, z⟩
theorem ok_Frames_rowX (T : Txt K mg A) : FnOk P w K mg base (CX1 P w) 5 A.a_Frames_row A.d_Frames_row ["self", "frame"] (spRefG A) := by
  have G_Frames_want_begun : FnOk P w K mg base (CX1 P w) 4 A.a_Frames_want_begun A.d_Frames_want_begun ["self", "thing"] (spRefG A) := ok_Frames_want_begunX T
  refine T.F_Frames_row.okX sc_Frames_row (fun vs H Q E h => ?_) (fun cdv Ar outer s H vs Q E hr h => ?_)
  · obtain ⟨f, pa, ta, ps, ts, v, rfl, _⟩ := h
    rfl
  · obtain ⟨f, pa, ta, ps, ts, v, rfl, F, z⟩ := h
    obtain ⟨⟨dx, ho⟩, hp, ht, ne⟩ := id F
    refine ⟨_, (pss_cons (ps_expr (pe_meth (pv 0) T.K_Frames T.t_Frames_want_begun G_Frames_want_begun hr T.b_Frames_want_begun .nil (passes_of wants_def trivial) (pa_cons (pv 1) pa_nil))) pss_never), ?_⟩
    exact ⟨_, rfl, f, dx, _, rfl, ho, flds_no _ _ (by decide +kernel) (by decide +kernel), _, rfl, f, pa, ta, ps, ts, v, rfl, F, z⟩
theorem ok_Frames_withinX (T : Txt K mg A) : FnOk P w K mg base (CX1 P w) 5 A.a_Frames_within A.d_Frames_within ["self", "frame"] (spRefG A) := by
  have G_Frames_want_begun : FnOk P w K mg base (CX1 P w) 4 A.a_Frames_want_begun A.d_Frames_want_begun ["self", "thing"] (spRefG A) := ok_Frames_want_begunX T
  have G_Frames_standing : FnOk P w K mg base CX0 4 A.a_Frames_standing A.d_Frames_standing ["self"] (spStanding A.a_Frames) := (ok_Frames_standing T).mono (by decide)
  refine T.F_Frames_within.okX sc_Frames_within (fun vs H Q E h => ?_) (fun cdv Ar outer s H vs Q E hr h => ?_)
  · obtain ⟨f, pa, ta, ps, ts, v, rfl, _⟩ := h
    rfl
  · obtain ⟨f, pa, ta, ps, ts, v, rfl, F, z⟩ := h
    obtain ⟨⟨dx, ho⟩, hp, ht, ne⟩ := id F
    refine ⟨_, (pss_cons (ps_expr (pe_meth (pv 0) T.K_Frames T.t_Frames_want_begun G_Frames_want_begun hr T.b_Frames_want_begun .nil (passes_of wants_def trivial) (pa_cons (pv 1) pa_nil))) pss_never), ?_⟩
    exact ⟨_, rfl, f, dx, _, rfl, ho, flds_no _ _ (by decide +kernel) (by decide +kernel), _, rfl, f, pa, ta, ps, ts, v, rfl, F, z⟩
end
end My

namespace My
open PySem L2 PyProof.Rows
/-! ### the lists behind a deed -/
theorem WF.begun {ps ts : List (Option Nat)} (W : WF ps ts) {t : Nat} (ht : t < ps.length) (hle : ps.length ≤ 100) : WF (ps ++ [some t]) (ts ++ [none]) := by
  have hl := W.len
  refine ⟨by simp [hl], by simp, by simp; omega, ?_, fun i h0 hi => ?_, fun i j e => ?_⟩
  · rw [List.getElem?_append_left W.pos]
    exact W.root
  · by_cases hi2 : i < ps.length
    · rw [List.getElem?_append_left hi2]
      exact W.par i h0 hi2
    · have e : i = ps.length := by simp at hi; omega
      subst e
      exact ⟨t, by simp, ht⟩
  · rw [List.length_append]
    by_cases hi2 : i < ts.length
    · rw [List.getElem?_append_left hi2] at e
      have := W.tk i j e
      omega
    · rw [List.getElem?_append_right (by omega)] at e
      cases q : i - ts.length with
      | zero => rw [q] at e; cases e
      | succ m => rw [q] at e; simp at e
theorem setM_get (t : Nat) : ∀ (E : List Nat) (ts : List (Option Nat)) (i : Nat), (setM t E ts)[i]? = ts[i]? ∨ (i ∈ E ∧ (setM t E ts)[i]? = some (some t))
  | [], ts, i => .inl rfl
  | n :: r, ts, i => by
    rcases setM_get t r (ts.set n (some t)) i with h | ⟨h1, h2⟩
    · by_cases e : n = i
      · subst e
        by_cases hn : n < ts.length
        · exact .inr ⟨List.mem_cons_self, by show (setM t r (ts.set n (some t)))[n]? = _; rw [h, List.getElem?_set_self hn]⟩
        · refine .inl ?_
          show (setM t r (ts.set n (some t)))[n]? = _
          rw [h, List.getElem?_eq_none (by rw [List.length_set]; omega), List.getElem?_eq_none (by omega)]
      · refine .inl ?_
        show (setM t r (ts.set n (some t)))[i]? = _
        rw [h, List.getElem?_set_ne e]
    · exact .inr ⟨List.mem_cons_of_mem _ h1, h2⟩
theorem WF.ended {ps ts : List (Option Nat)} (W : WF ps ts) {t : Nat} (ht : t < ps.length) (E : List Nat) : WF ps (setM t E ts) := by
  refine ⟨by rw [setM_len]; exact W.len, W.pos, W.le, W.root, W.par, fun i j e => ?_⟩
  rcases setM_get t E ts i with h | ⟨_, h⟩
  · rw [h] at e
    exact W.tk i j e
  · rw [h] at e
    cases e
    exact ht
theorem fin_zero {ps ts : List (Option Nat)} (W : WF ps ts) {t : Nat} (h : t ≠ 0) : ¬ 0 ∈ finM ps ts t := fun hm => by
  have h1 := (List.mem_filter.mp hm).2
  have h1 := of_decide_eq_true h1
  have e : rowM ps 0 = [0] := by
    show (upF ps 0 0).reverse = [0]
    rfl
  rw [e] at h1
  simp at h1
  exact h h1
section
variable {P : Program} {w : World} {K : PySem.W.Frag} {mg : Str → Option Value} {base : Heap} {A : Adr}
/-- what a deed leaves alone -/
def KeptD (b pa ta ha tk : Addr) (H H' : Hp) : Prop := ∀ c o, c ≠ b → c ≠ pa → c ≠ ta → c ≠ ha → c ≠ tk → H c = some o → H' c = some o
/-- the five lists stand apart -/
structure Sep (b pa ta ha tk : Addr) : Prop where
  bp : b ≠ pa
  bt : b ≠ ta
  bh : b ≠ ha
  bk : b ≠ tk
  ph : pa ≠ ha
  pk : pa ≠ tk
  th : ta ≠ ha
  tk : ta ≠ tk
theorem FrAt.kept {C : Addr} {H H' : Hp} {f pa ta : Addr} {ps ts : List (Option Nat)} (F : FrAt C H f pa ta ps ts) (h : ∀ c o, (c = f ∨ c = pa ∨ c = ta) → H c = some o → H' c = some o) : FrAt C H' f pa ta ps ts := by
  obtain ⟨⟨dx, h0⟩, h1, h2, h3⟩ := F
  exact ⟨⟨dx, h _ _ (.inl rfl) h0⟩, h _ _ (.inr (.inl rfl)) h1, h _ _ (.inr (.inr rfl)) h2, h3⟩
theorem ModAt.kept {H H' : Hp} {d ha tk : Addr} {ps ts : List (Option Nat)} (M : ModAt H d ha tk ps ts) (h : ∀ c o, (c = d ∨ c = ha ∨ c = tk) → H c = some o → H' c = some o) : ModAt H' d ha tk ps ts :=
  ⟨h _ _ (.inl rfl) M.ob, h _ _ (.inr (.inl rfl)) M.hl, h _ _ (.inr (.inr rfl)) M.tl, M.ne⟩
theorem BoxAt.kept {b : Addr} {k : Nat} {H H' : Hp} (B : BoxAt H b k) (h : ∀ o, H b = some o → H' b = some o) : BoxAt H' b k := by
  obtain ⟨x, y, z, hb, r⟩ := B
  exact ⟨x, y, z, h _ hb, r⟩
theorem FrAt.apart {C : Addr} {H : Hp} {f pa ta l : Addr} {ps ts : List (Option Nat)} {xs : List V} (F : FrAt C H f pa ta ps ts) (h : H l = some (.lst xs)) : f ≠ l := by
  obtain ⟨⟨dx, h0⟩, _⟩ := F
  exact ne_of h0 h (by intro z; cases z)
theorem ModAt.apartL {H : Hp} {d ha tk l : Addr} {ps ts : List (Option Nat)} {xs : List V} (M : ModAt H d ha tk ps ts) (h : H l = some (.lst xs)) : d ≠ l := ne_of M.ob h (by intro z; cases z)
theorem BoxAt.lst {b : Addr} {k : Nat} {H : Hp} (B : BoxAt H b k) : ∃ xs, H b = some (.lst xs) := by
  obtain ⟨x, y, z, hb, _⟩ := B
  exact ⟨_, hb⟩
def spDeeds (C : Addr) : Sp := fun vs H Q _ => ∃ b f pa ta d ha tk ps ts, ∃ (k : Nat) (m : Int), vs = [.ref b, .ref f, .ref d, .int m] ∧ 0 ≤ m ∧ m ≤ 30 ∧ BoxAt H b k ∧ k ≤ 1000 ∧ FrAt C H f pa ta ps ts ∧ ModAt H d ha tk ps ts ∧ WF ps ts ∧ ts[0]? = some none ∧ Sep b pa ta ha tk ∧
  ∀ ps' ts' H', WF ps' ts' → ts'[0]? = some none → FrAt C H' f pa ta ps' ts' → ModAt H' d ha tk ps' ts' → BoxAt H' b (k + 90) → KeptD b pa ta ha tk H H' → Q .non H'
theorem ok__law_deeds (T : Txt K mg A) : FnOk P w K mg base CX0 8 A.a__law_deeds A.d__law_deeds ["_law_box_here", "_law_frames", "_law_model_here", "_law_many"] (spDeeds A.a_Frames) := by
  have G__law_take : FnOk P w K mg base CX0 7 A.a__law_take A.d__law_take ["_law_box_here", "_law_many"] spTake := (ok__law_take T).mono (by decide)
  have G__law_one : FnOk P w K mg base CX0 7 A.a__law_one A.d__law_one ["_law_box_here", "_law_some"] spOne := (ok__law_one T).mono (by decide)
  have G__law_standing : FnOk P w K mg base CX0 7 A.a__law_standing A.d__law_standing ["_law_model_here"] spLStanding := (ok__law_standing T).mono (by decide)
  have G__law_finish : FnOk P w K mg base CX0 7 A.a__law_finish A.d__law_finish ["_law_model_here", "_law_frame"] spLFinish := (ok__law_finish T).mono (by decide)
  have G__law_begin : FnOk P w K mg base CX0 7 A.a__law_begin A.d__law_begin ["_law_model_here", "_law_frame"] spLBegin := (ok__law_begin T).mono (by decide)
  have G_Frames_finish : FnOk P w K mg base CX0 7 A.a_Frames_finish A.d_Frames_finish ["self", "frame"] (spFinish A.a_Frames) := ok_Frames_finish T
  have G_Frames_begin : FnOk P w K mg base CX0 7 A.a_Frames_begin A.d_Frames_begin ["self", "frame"] (spBegin A.a_Frames) := ok_Frames_begin T
  refine T.F__law_deeds.ok sc__law_deeds (fun vs H Q E h => ?_) (fun cdv Ar outer s H vs Q E hr h => ?_)
  · obtain ⟨b, f, pa, ta, d, ha, tk, ps, ts, k, m, rfl, _⟩ := h
    rfl
  · obtain ⟨b, f, pa, ta, d, ha, tk, ps, ts, k, m, rfl, m0, m1, B, hk, F, M, W, g0, S, q⟩ := h
    have hu := hu_of hr
    refine ⟨_, (pss_one (ps_for PassesOwn.never rfl (pi_range1 rfl T.z_range (pa_cons (pv 3) pa_nil)) (pg_name (i := 4) sc__law_deeds.nd rfl (Or.inl rfl) (Or.inl rfl)) (pss_cons (ps_set (i := 5) sc__law_deeds.nd rfl (Or.inl rfl) (pe_cmpR op_eq (pe_call G__law_take hr rfl T.m__law_take T.F__law_take.kp T.b__law_take .nil pass0 (pa_cons (pv 0) (pa_cons pe_int pa_nil))) pe_int (nomark _))) (pss_cons (ps_set (i := 6) sc__law_deeds.nd rfl (Or.inl rfl) (pe_call G__law_one hr rfl T.m__law_one T.F__law_one.kp T.b__law_one .nil pass0 (pa_cons (pv 0) (pa_cons (pe_call G__law_standing hr rfl T.m__law_standing T.F__law_standing.kp T.b__law_standing .nil pass0 (pa_cons (pv 2) pa_nil)) pa_nil)))) (pss_one (ps_if (PW.pt (pw_and (pt_val (pv 5)) (pw_and1 (pt_cmpR op_gt (pv 6) pe_int (nomark _))))) (pss_cons (ps_expr (pe_meth (pv 1) T.K_Frames T.t_Frames_finish G_Frames_finish hr T.b_Frames_finish .nil pass0 (pa_cons (pv 6) pa_nil))) (pss_one (ps_expr (pe_call G__law_finish hr rfl T.m__law_finish T.F__law_finish.kp T.b__law_finish .nil pass0 (pa_cons (pv 2) (pa_cons (pv 6) pa_nil)))))) (pss_one (ps_if (pt_cmpR op_le (pe_callB call_len_seq (by rfl) T.z_len Boot.«len» (pa_cons (pe_dget hu (pv 2) pe_str (fun _ _ => rfl)) pa_nil)) pe_int (nomark _)) (pss_cons (ps_expr (pe_meth (pv 1) T.K_Frames T.t_Frames_begin G_Frames_begin hr T.b_Frames_begin .nil pass0 (pa_cons (pv 6) pa_nil))) (pss_one (ps_expr (pe_call G__law_begin hr rfl T.m__law_begin T.F__law_begin.kp T.b__law_begin .nil pass0 (pa_cons (pv 2) (pa_cons (pv 6) pa_nil)))))) pss_nil)))))))), ?_⟩
    refine ⟨_, rfl, m, rfl, by omega, by omega, ?_⟩
    refine for_range (lo := 0) (n := m.toNat) (fun i σ H' => ∃ (x4 x5 x6 : Option V) (ps' ts' : List (Option Nat)), σ = [some (.ref b), some (.ref f), some (.ref d), some (.int m), x4, x5, x6] ∧ WF ps' ts' ∧ ts'[0]? = some none ∧ FrAt A.a_Frames H' f pa ta ps' ts' ∧ ModAt H' d ha tk ps' ts' ∧ BoxAt H' b (k + 3 * i) ∧ KeptD b pa ta ha tk H H') ⟨_, _, _, ps, ts, rfl, W, g0, F, M, B, fun c o _ _ _ _ _ e => e⟩ ?_ ?_
    rotate_left
    · rintro σ H' ⟨x4, x5, x6, ps', ts', rfl, W', g', F', M', B', K'⟩
      exact q ps' ts' H' W' g' F' M' (B'.mono (by omega)) K'
    rintro i σ H0 hi ⟨x4, x5, x6, ps, ts, rfl, W, g0, F, M, B, K0⟩
    have next : ∀ (y5 y6 : Option V) (ps' ts' : List (Option Nat)) (H' : Hp), WF ps' ts' → ts'[0]? = some none → FrAt A.a_Frames H' f pa ta ps' ts' → ModAt H' d ha tk ps' ts' → BoxAt H' b (k + 3 * i + 3) → KeptD b pa ta ha tk H0 H' →
        ∃ (x4 x5 x6 : Option V) (ps' ts' : List (Option Nat)), ([some (.ref b), some (.ref f), some (.ref d), some (.int m), some (.int (0 + (i : Int))), y5, y6] : L2.St) = [some (.ref b), some (.ref f), some (.ref d), some (.int m), x4, x5, x6] ∧ WF ps' ts' ∧ ts'[0]? = some none ∧ FrAt A.a_Frames H' f pa ta ps' ts' ∧ ModAt H' d ha tk ps' ts' ∧ BoxAt H' b (k + 3 * (i + 1)) ∧ KeptD b pa ta ha tk H H' :=
      fun y5 y6 ps' ts' H' W' g' F' M' B' K' => ⟨_, _, _, ps', ts', rfl, W', g', F', M', B'.mono (by omega), fun c o h1 h2 h3 h4 h5 e => K' c o h1 h2 h3 h4 h5 (K0 c o h1 h2 h3 h4 h5 e)⟩
    have hl := W.len
    have hle := W.le
    generalize hkk : k + 3 * i = kk at B next
    have hk : kk ≤ 1100 := by omega
    refine ⟨_, rfl, b, 4, kk, rfl, B, by omega, by decide, by decide, fun r1 H1 _ _ B1 O1 => ?_⟩
    refine ⟨rfl, ?_⟩
    obtain ⟨bx, hbx⟩ := B.lst
    have k1 : ∀ c o, c ≠ b → H0 c = some o → H1 c = some o := O1.kept
    have F1 : FrAt A.a_Frames H1 f pa ta ps ts := F.kept fun c o hc e => k1 c o (by rcases hc with rfl | rfl | rfl; exact F.apart hbx; exact S.bp.symm; exact S.bt.symm) e
    have M1 : ModAt H1 d ha tk ps ts := M.kept fun c o hc e => k1 c o (by rcases hc with rfl | rfl | rfl; exact M.apartL hbx; exact S.bh.symm; exact S.bk.symm) e
    refine ⟨_, rfl, _, rfl, d, ha, tk, ps, ts, rfl, M1, by omega, fun sl H2 hsl s2 hs2 => ?_⟩
    have B2 := B1.same s2
    have hne : standM ts ≠ [] := fun z => by
      have : 0 ∈ standM ts := stand_iff.mpr (by show standB ts ((0 : Nat) : Int) = true; unfold standB; rw [Int.toNat_natCast, g0]; rfl)
      rw [z] at this
      cases this
    have hslen : (standM ts).length ≤ 1000 := by
      refine Nat.le_trans (List.length_filter_le _ _) ?_
      rw [List.length_range]
      omega
    refine ⟨b, sl, kk + 1, standM ts, rfl, B2, by omega, hs2, B1.ne hsl, hne, hslen, fun n H3 hn B3 K3 => ?_⟩
    have F2 := F1.same s2
    have M2 := M1.same s2
    obtain ⟨bx2, hbx2⟩ := B2.lst
    have F3 : FrAt A.a_Frames H3 f pa ta ps ts := F2.kept fun c o hc e => K3 c o (by rcases hc with rfl | rfl | rfl; exact F2.apart hbx2; exact S.bp.symm; exact S.bt.symm) e
    have M3 : ModAt H3 d ha tk ps ts := M2.kept fun c o hc e => K3 c o (by rcases hc with rfl | rfl | rfl; exact M2.apartL hbx2; exact S.bh.symm; exact S.bk.symm) e
    have KD3 : KeptD b pa ta ha tk H0 H3 := fun c o h1 _ _ _ _ e => K3 c o h1 (s2 c o (k1 c o h1 e))
    have B3' : BoxAt H3 b (kk + 3) := B3.mono (by omega)
    have hsn := stand_iff.mp hn
    have hnl : n < ps.length := by have := stand_lt hn; omega
    obtain ⟨⟨dx, ho⟩, hp, ht, ne⟩ := id F3
    refine ⟨_, rfl, _, rfl, ?_⟩
    refine ite2 (fun _ => ?_) (fun _ => ?_)
    · refine ⟨_, rfl, _, 0, rfl, rfl, _, rfl, ?_⟩
      by_cases h0 : (0 : Int) < (n : Int)
      · rw [decide_eq_true h0]
        refine iteT ?_
        refine ⟨_, rfl, f, dx, _, rfl, ho, flds_no _ _ (by decide +kernel) (by decide +kernel), _, rfl, f, pa, ta, ps, ts, n, rfl, F3, W, hsn, by omega, fun l H4 hl4 hL F4 K4 => ?_⟩
        have M4 : ModAt H4 d ha tk ps ts := M3.kept fun c o hc e => K4 c o (by rcases hc with rfl | rfl | rfl; exact M3.apartL hp; exact S.ph.symm; exact S.pk.symm) (by rcases hc with rfl | rfl | rfl; exact M3.apartL ht; exact S.th.symm; exact S.tk.symm) e
        have B4 : BoxAt H4 b (kk + 3) := B3'.kept fun o e => K4 b o S.bp S.bt e
        refine ⟨_, rfl, _, rfl, d, ha, tk, ps, ts, n, rfl, M4, W, fun l2 H5 hl5 hL2 M5 K5 => ?_⟩
        have F5 : FrAt A.a_Frames H5 f pa ta ps (setM n (finM ps ts n) ts) := F4.kept fun c o hc e => K5 c o (by rcases hc with rfl | rfl | rfl; exact F4.apart M4.hl; exact S.ph; exact S.th) (by rcases hc with rfl | rfl | rfl; exact F4.apart M4.tl; exact S.pk; exact S.tk) e
        have B5 : BoxAt H5 b (kk + 3) := B4.kept fun o e => K5 b o S.bh S.bk e
        refine next _ _ _ _ _ (W.ended hnl (finM ps ts n)) ?_ F5 M5 B5 fun c o h1 h2 h3 h4 h5 e => K5 c o h4 h5 (K4 c o h2 h3 (KD3 c o h1 h2 h3 h4 h5 e))
        rcases setM_get n (finM ps ts n) ts 0 with h | ⟨h, _⟩
        · rw [h]; exact g0
        · exact absurd h (fin_zero W (by omega))
      · rw [decide_eq_false h0]
        refine iteF ?_
        refine ⟨_, rfl, d, _, rfl, M3.getH, ha, _, rfl, .inl (SqL.of M3.hl), _, 100, rfl, rfl, _, rfl, ?_⟩
        rw [List.length_map]
        by_cases h100 : (ps.length : Int) ≤ 100
        · rw [decide_eq_true h100]
          refine iteT ?_
          refine ⟨_, rfl, f, dx, _, rfl, ho, flds_no _ _ (by decide +kernel) (by decide +kernel), _, rfl, f, pa, ta, ps, ts, n, rfl, F3, hl, hsn, by omega, fun H4 F4 K4 => ?_⟩
          have M4 : ModAt H4 d ha tk ps ts := M3.kept fun c o hc e => K4 c o (by rcases hc with rfl | rfl | rfl; exact M3.apartL hp; exact S.ph.symm; exact S.pk.symm) (by rcases hc with rfl | rfl | rfl; exact M3.apartL ht; exact S.th.symm; exact S.tk.symm) e
          have B4 : BoxAt H4 b (kk + 3) := B3'.kept fun o e => K4 b o S.bp S.bt e
          refine ⟨_, rfl, _, rfl, d, ha, tk, ps, ts, n, rfl, M4, by omega, by omega, fun H5 M5 K5 => ?_⟩
          have F5 : FrAt A.a_Frames H5 f pa ta (ps ++ [some n]) (ts ++ [none]) := F4.kept fun c o hc e => K5 c o (by rcases hc with rfl | rfl | rfl; exact F4.apart M4.hl; exact S.ph; exact S.th) (by rcases hc with rfl | rfl | rfl; exact F4.apart M4.tl; exact S.pk; exact S.tk) e
          refine next _ _ _ _ H5 (W.begun hnl (by omega)) ?_ F5 M5 (B4.kept fun o e => K5 b o S.bh S.bk e) fun c o h1 h2 h3 h4 h5 e => K5 c o h4 h5 (K4 c o h2 h3 (KD3 c o h1 h2 h3 h4 h5 e))
          rw [List.getElem?_append_left (by have := W.pos; omega)]
          exact g0
        · rw [decide_eq_false h100]
          exact iteF (next _ _ ps ts H3 W g0 F3 M3 B3' KD3)
    · refine ⟨_, rfl, d, _, rfl, M3.getH, ha, _, rfl, .inl (SqL.of M3.hl), _, 100, rfl, rfl, _, rfl, ?_⟩
      rw [List.length_map]
      by_cases h100 : (ps.length : Int) ≤ 100
      · rw [decide_eq_true h100]
        refine iteT ?_
        refine ⟨_, rfl, f, dx, _, rfl, ho, flds_no _ _ (by decide +kernel) (by decide +kernel), _, rfl, f, pa, ta, ps, ts, n, rfl, F3, hl, hsn, by omega, fun H4 F4 K4 => ?_⟩
        have M4 : ModAt H4 d ha tk ps ts := M3.kept fun c o hc e => K4 c o (by rcases hc with rfl | rfl | rfl; exact M3.apartL hp; exact S.ph.symm; exact S.pk.symm) (by rcases hc with rfl | rfl | rfl; exact M3.apartL ht; exact S.th.symm; exact S.tk.symm) e
        have B4 : BoxAt H4 b (kk + 3) := B3'.kept fun o e => K4 b o S.bp S.bt e
        refine ⟨_, rfl, _, rfl, d, ha, tk, ps, ts, n, rfl, M4, by omega, by omega, fun H5 M5 K5 => ?_⟩
        have F5 : FrAt A.a_Frames H5 f pa ta (ps ++ [some n]) (ts ++ [none]) := F4.kept fun c o hc e => K5 c o (by rcases hc with rfl | rfl | rfl; exact F4.apart M4.hl; exact S.ph; exact S.th) (by rcases hc with rfl | rfl | rfl; exact F4.apart M4.tl; exact S.pk; exact S.tk) e
        refine next _ _ _ _ H5 (W.begun hnl (by omega)) ?_ F5 M5 (B4.kept fun o e => K5 b o S.bh S.bk e) fun c o h1 h2 h3 h4 h5 e => K5 c o h4 h5 (K4 c o h2 h3 (KD3 c o h1 h2 h3 h4 h5 e))
        rw [List.getElem?_append_left (by have := W.pos; omega)]
        exact g0
      · rw [decide_eq_false h100]
        exact iteF (next _ _ ps ts H3 W g0 F3 M3 B3' KD3)
/-! ### a hundred begun -/
def Kept4 (pa ta ha tk : Addr) (H H' : Hp) : Prop := ∀ c o, c ≠ pa → c ≠ ta → c ≠ ha → c ≠ tk → H c = some o → H' c = some o
def lenAt (ha : Addr) (H : Hp) : Nat := match H ha with
  | some (.lst xs) => 101 - xs.length
  | _ => 0
def spFilled (C : Addr) : Sp := fun vs H Q _ => ∃ f pa ta d ha tk ps ts, vs = [.ref f, .ref d] ∧ FrAt C H f pa ta ps ts ∧ ModAt H d ha tk ps ts ∧ WF ps ts ∧ ts[0]? = some none ∧ pa ≠ ha ∧ pa ≠ tk ∧ ta ≠ ha ∧ ta ≠ tk ∧
  ∀ ps' ts' H', WF ps' ts' → ts'[0]? = some none → FrAt C H' f pa ta ps' ts' → ModAt H' d ha tk ps' ts' → Kept4 pa ta ha tk H H' → Q .non H'
theorem ok__law_filled (T : Txt K mg A) : FnOk P w K mg base CX0 8 A.a__law_filled A.d__law_filled ["_law_frames", "_law_model_here"] (spFilled A.a_Frames) := by
  have G__law_begin : FnOk P w K mg base CX0 7 A.a__law_begin A.d__law_begin ["_law_model_here", "_law_frame"] spLBegin := (ok__law_begin T).mono (by decide)
  have G_Frames_begin : FnOk P w K mg base CX0 7 A.a_Frames_begin A.d_Frames_begin ["self", "frame"] (spBegin A.a_Frames) := ok_Frames_begin T
  refine T.F__law_filled.ok sc__law_filled (fun vs H Q E h => ?_) (fun cdv Ar outer s H vs Q E hr h => ?_)
  · obtain ⟨f, pa, ta, d, ha, tk, ps, ts, rfl, _⟩ := h
    rfl
  · obtain ⟨f, pa, ta, d, ha, tk, ps, ts, rfl, F, M, W, g0, ph, pk, th, tt, q⟩ := h
    have hu := hu_of hr
    refine ⟨_, (pss_one (ps_while PassesOwn.never (pt_cmpR op_le (pe_callB call_len_seq (by rfl) T.z_len Boot.«len» (pa_cons (pe_dget hu (pv 1) pe_str (fun _ _ => rfl)) pa_nil)) pe_int (nomark _)) (pss_cons (ps_expr (pe_meth (pv 0) T.K_Frames T.t_Frames_begin G_Frames_begin hr T.b_Frames_begin .nil pass0 (pa_cons pe_int pa_nil))) (pss_one (ps_expr (pe_call G__law_begin hr rfl T.m__law_begin T.F__law_begin.kp T.b__law_begin .nil pass0 (pa_cons (pv 1) (pa_cons pe_int pa_nil)))))))), ?_⟩
    refine ⟨fun m σ H' => ∃ ps' ts', m = 101 - ps'.length ∧ σ = [some (.ref f), some (.ref d)] ∧ WF ps' ts' ∧ ts'[0]? = some none ∧ FrAt A.a_Frames H' f pa ta ps' ts' ∧ ModAt H' d ha tk ps' ts' ∧ Kept4 pa ta ha tk H H', ⟨_, ps, ts, rfl, rfl, W, g0, F, M, fun c o _ _ _ _ e => e⟩, ?_⟩
    rintro m σ H0 ⟨ps, ts, rfl, rfl, W, g0, F, M, K0⟩
    have hl := W.len
    obtain ⟨⟨dx, ho⟩, hp, ht, ne⟩ := id F
    refine ⟨_, rfl, d, _, rfl, M.getH, ha, _, rfl, .inl (SqL.of M.hl), _, 100, rfl, rfl, _, rfl, ?_⟩
    rw [List.length_map]
    by_cases h100 : (ps.length : Int) ≤ 100
    · rw [decide_eq_true h100]
      refine iteT ?_
      refine ⟨fun σ' H' => ∃ m', m' < 101 - ps.length ∧ ∃ ps' ts', m' = 101 - ps'.length ∧ σ' = [some (.ref f), some (.ref d)] ∧ WF ps' ts' ∧ ts'[0]? = some none ∧ FrAt A.a_Frames H' f pa ta ps' ts' ∧ ModAt H' d ha tk ps' ts' ∧ Kept4 pa ta ha tk H H', fun σ' H' h => h, ?_⟩
      have hs0 : standB ts ((0 : Nat) : Int) = true := by
        unfold standB
        rw [Int.toNat_natCast, g0]
        rfl
      refine ⟨_, rfl, f, dx, _, rfl, ho, flds_no _ _ (by decide +kernel) (by decide +kernel), f, pa, ta, ps, ts, 0, rfl, F, hl, hs0, by omega, fun H4 F4 K4 => ?_⟩
      have M4 : ModAt H4 d ha tk ps ts := M.kept fun c o hc e => K4 c o (by rcases hc with rfl | rfl | rfl; exact M.apartL hp; exact ph.symm; exact pk.symm) (by rcases hc with rfl | rfl | rfl; exact M.apartL ht; exact th.symm; exact tt.symm) e
      refine ⟨_, rfl, d, ha, tk, ps, ts, 0, rfl, M4, by omega, by omega, fun H5 M5 K5 => ?_⟩
      have F5 : FrAt A.a_Frames H5 f pa ta (ps ++ [some 0]) (ts ++ [none]) := F4.kept fun c o hc e => K5 c o (by rcases hc with rfl | rfl | rfl; exact F4.apart M4.hl; exact ph; exact th) (by rcases hc with rfl | rfl | rfl; exact F4.apart M4.tl; exact pk; exact tt) e
      refine ⟨101 - (ps ++ [some 0]).length, by simp; omega, _, _, rfl, rfl, W.begun W.pos (by omega), ?_, F5, M5, fun c o h1 h2 h3 h4 e => K5 c o h3 h4 (K4 c o h1 h2 (K0 c o h1 h2 h3 h4 e))⟩
      rw [List.getElem?_append_left (by have := W.pos; omega)]
      exact g0
    · rw [decide_eq_false h100]
      exact iteF (q ps ts H0 W g0 F M K0)
end
end My

namespace My
open PySem L2 PyProof.Rows
/-! ### what is due -/
def dueO (way : Nat) (ps ts : List (Option Nat)) (v : V) : Option Rf := if way = 0 then rB ps ts v else if way = 1 then rF ps ts v else rG ps v
def toldO : Option Rf → List V
  | some r => r.told
  | none => [.str "told"]
def dueL (way : Nat) (ps ts : List (Option Nat)) (v : V) : List V := toldO (dueO way ps ts v)
def dueR (ha tk : Addr) (ps ts : List (Option Nat)) : TS := fun D σ H => ∃ (way : Nat) (d : Addr) (v : V), σ = [some (.int way), some (.ref d), some v, some (.bl (isNum v))] ∧ ModAt H d ha tk ps ts ∧ WF ps ts ∧ TV H v ∧
  ∀ l H', H l = none → (l == sysModules) = false → Same H H' → H' l = some (.lst (dueL way ps ts v)) → D.rt (.ref l) H'
theorem due_out {way : Nat} {ps ts : List (Option Nat)} {v : V} (h : begV ps v = false) : dueO way ps ts v = some (.frame v) := by
  unfold dueO rB rF rG rS
  rw [h]
  rw [if_neg Bool.false_ne_true, if_neg Bool.false_ne_true]
  split
  · rfl
  · split <;> rfl
theorem due_high {way : Nat} {ps ts : List (Option Nat)} {v : V} (h : begV ps v = true) (hw : 1 < way) : dueO way ps ts v = none := by
  unfold dueO rG
  rw [if_neg (show ¬ way = 0 by omega), if_neg (show ¬ way = 1 by omega), h]
  rfl
def goneAt (t : Nat) : Option Nat → Option Rf
  | some j => some (.gone (.int t) (.int j))
  | none => none
theorem rS_at {ps ts : List (Option Nat)} {t : Nat} {o : Option Nat} (h : begV ps (.int t) = true) (hx : ts[t]? = some o) : rS ps ts (.int t) = goneAt t o := by
  unfold rS
  rw [h, if_pos rfl]
  show (match ts[((t : Nat) : Int).toNat]? with | some (some j) => some (Rf.gone (.int t) (.int j)) | _ => none) = _
  rw [Int.toNat_natCast, hx]
  cases o <;> rfl
theorem due_gone {way : Nat} {ps ts : List (Option Nat)} {t j : Nat} (h : begV ps (.int t) = true) (hx : ts[t]? = some (some j)) (hw : way ≤ 1) : dueO way ps ts (.int t) = some (.gone (.int t) (.int j)) := by
  have e := rS_at h hx
  unfold dueO rB rF
  rw [e]
  by_cases h0 : way = 0
  · rw [if_pos h0]
    rfl
  · rw [if_neg h0, if_pos (show way = 1 by omega)]
    rfl
theorem due_begin {ps ts : List (Option Nat)} {t : Nat} (h : begV ps (.int t) = true) (hx : ts[t]? = some none) : dueO 0 ps ts (.int t) = if ps.length = 101 then some .many else none := by
  have e := rS_at h hx
  unfold dueO rB
  rw [e, if_pos rfl]
  rfl
theorem due_finish {ps ts : List (Option Nat)} {t : Nat} (h : begV ps (.int t) = true) (hx : ts[t]? = some none) : dueO 1 ps ts (.int t) = if V.int t = .int 0 then some .ground else none := by
  have e := rS_at h hx
  unfold dueO rF
  rw [e, if_neg (by decide), if_pos rfl]
  rfl
section
variable {P : Program} {w : World} {K : PySem.W.Frag} {mg : Str → Option Value} {base : Heap} {A : Adr}
def spDue : Sp := fun vs H Q _ => ∃ d ha tk ps ts, ∃ (way : Nat) (v : V), vs = [.int way, .ref d, v] ∧ ModAt H d ha tk ps ts ∧ WF ps ts ∧ TV H v ∧ ∀ l H', H l = none → (l == sysModules) = false → Same H H' → H' l = some (.lst (dueL way ps ts v)) → Q (.ref l) H'
theorem ok__law_due (T : Txt K mg A) : FnOk P w K mg base CX0 2 A.a__law_due A.d__law_due ["_law_way", "_law_model_here", "_law_thing"] spDue := by
  refine T.F__law_due.ok sc__law_due (fun vs H Q E h => ?_) (fun cdv Ar outer s H vs Q E hr h => ?_)
  · obtain ⟨d, ha, tk, ps, ts, way, v, rfl, _⟩ := h
    rfl
  · obtain ⟨d, ha, tk, ps, ts, way, v, rfl, M, W, p, k⟩ := h
    have hu := hu_of hr
    have h1L : (1 : Nat) ≤ sizeLine := by decide
    have h2L : (2 : Nat) ≤ sizeLine := by decide
    have h3L : (3 : Nat) ≤ sizeLine := by decide
    refine ⟨_, (pss_cons (ps_set (i := 3) sc__law_due.nd rfl (Or.inl rfl) (pe_and (pe_callB call_isinst (by rfl) T.z_isinstance Boot.«isinstance» (pa_cons (pv 2) (pa_cons (pe_bltn (v := .ty "int") rfl T.z_int Boot.«int» rfl) pa_nil))) (pe_one (pe_not (pe_callB call_isinst (by rfl) T.z_isinstance Boot.«isinstance» (pa_cons (pv 2) (pa_cons (pe_bltn (v := .ty "bool") rfl T.z_bool Boot.«bool» rfl) pa_nil))))))) (pss_imp (dueR ha tk ps ts) (pss_cons (ps_if (PW.pt (pw_or (pt_not (pt_val (pv 3))) (pw_or1 (pt_not (pt_chain op_le op_lt pe_int (pv 2) (pe_callB call_len_seq (by rfl) T.z_len Boot.«len» (pa_cons (pe_dget hu (pv 1) pe_str (fun _ _ => rfl)) pa_nil))))))) (pss_one (ps_ret (pe_lstS (pa_cons pe_str (pa_cons (pv 2) pa_nil))))) pss_nil) (pss_cons (ps_if (pt_cmpR op_gt (pv 0) pe_int (nomark _)) (pss_one (ps_ret (pe_lstS (pa_cons pe_str pa_nil)))) pss_nil) (pss_cons (ps_if (pt_cmpR op_notN (pe_ix ix_list (pe_dget hu (pv 1) pe_str (fun _ _ => rfl)) (pv 2) (fun _ _ => rfl)) pe_non (nomark _)) (pss_one (ps_ret (pe_lstS (pa_cons pe_str (pa_cons (pv 2) (pa_cons (pe_ix ix_list (pe_dget hu (pv 1) pe_str (fun _ _ => rfl)) (pv 2) (fun _ _ => rfl)) pa_nil)))))) pss_nil) (pss_cons (ps_if (PW.pt (pw_and (pt_cmpR op_eq (pv 0) pe_int (nomark _)) (pw_and1 (pt_cmpR op_eq (pv 2) pe_int (nomark _))))) (pss_one (ps_ret (pe_lstS (pa_cons pe_str pa_nil)))) pss_nil) (pss_cons (ps_if (PW.pt (pw_and (pt_cmpR op_eq (pv 0) pe_int (nomark _)) (pw_and1 (pt_cmpR op_gt (pe_callB call_len_seq (by rfl) T.z_len Boot.«len» (pa_cons (pe_dget hu (pv 1) pe_str (fun _ _ => rfl)) pa_nil)) pe_int (nomark _))))) (pss_one (ps_ret (pe_lstS (pa_cons pe_str (pa_cons pe_int pa_nil))))) pss_nil) (pss_one (ps_ret (pe_lstS (pa_cons pe_str pa_nil))))))))) ?cut1)), ?_⟩
    rotate_left
    case cut1 =>
      rintro D σ H0 ⟨way, d, v, rfl, M, W, p, k⟩
      have hl := W.len
      have out : begV ps v = false → ∀ l, H0 l = none → (l == sysModules) = false → D.rt (.ref l) (upd H0 l (.lst [.str "frame", v])) := fun hb l hn ns => k l _ hn ns (Same.upd hn) (by rw [upd_same]; unfold dueL; rw [due_out hb]; rfl)
      refine ⟨_, rfl, _, rfl, ?_⟩
      cases hn : isNum v with
      | false =>
        have hb : begV ps v = false := by cases v <;> first | rfl | cases hn
        exact iteT (iteT ⟨_, rfl, h2L, fun l hl ns => out hb l hl ns⟩)
      | true =>
        obtain ⟨i, rfl⟩ : ∃ i : Int, v = .int i := by cases v <;> first | exact ⟨_, rfl⟩ | cases hn
        refine iteF ⟨_, rfl, 0, i, rfl, rfl, _, rfl, ?_⟩
        by_cases h0 : (0 : Int) ≤ i
        · rw [decide_eq_true h0]
          refine iteT ⟨_, rfl, d, _, rfl, M.getH, ha, _, rfl, .inl (SqL.of M.hl), i, _, rfl, rfl, _, rfl, ?_⟩
          rw [List.length_map]
          by_cases h1 : i < (ps.length : Int)
          · rw [decide_eq_true h1]
            refine iteF ?_
            obtain ⟨t, rfl⟩ : ∃ t : Nat, i = t := ⟨i.toNat, by omega⟩
            have htl : t < ps.length := by omega
            have hb : begV ps (.int (t : Int)) = true := begun_nat htl
            have hts : t < ts.length := by omega
            have hx : ts[t]? = some ts[t] := by simp [hts]
            refine ⟨_, rfl, way, 1, rfl, rfl, _, rfl, ?_⟩
            by_cases hw : (1 : Int) < (way : Int)
            · rw [decide_eq_true hw]
              refine iteT ⟨h1L, fun l hl ns => k l _ hl ns (Same.upd hl) ?_⟩
              rw [upd_same]
              unfold dueL
              rw [due_high hb (by omega)]
              rfl
            · rw [decide_eq_false hw]
              refine iteF ⟨_, rfl, d, _, rfl, M.getT, _, rfl, tk, _, _, _, rfl, rfl, SqL.of M.tl, at_map hx, rfl, _, rfl, ?_⟩
              cases ej : ts[t] with
              | some j =>
                rw [ej] at hx
                refine iteT ⟨_, rfl, _, rfl, d, _, rfl, M.getT, _, rfl, tk, _, _, _, rfl, rfl, SqL.of M.tl, at_map hx, h3L, fun l hl ns => k l _ hl ns (Same.upd hl) ?_⟩
                rw [upd_same]
                unfold dueL
                rw [due_gone hb hx (by omega)]
                rfl
              | none =>
                rw [ej] at hx
                refine iteF ⟨_, rfl, rfl, _, rfl, ?_⟩
                by_cases hw1 : way = 1
                · subst hw1
                  refine iteT ⟨_, rfl, rfl, _, rfl, ?_⟩
                  by_cases ht0 : V.int (t : Int) = V.int 0
                  · rw [decide_eq_true ht0]
                    refine iteT ⟨h1L, fun l hl ns => k l _ hl ns (Same.upd hl) ?_⟩
                    rw [upd_same]
                    unfold dueL
                    rw [due_finish hb hx, if_pos ht0]
                    rfl
                  · rw [decide_eq_false ht0]
                    refine iteF ⟨_, rfl, rfl, _, rfl, iteF ⟨h1L, fun l hl ns => k l _ hl ns (Same.upd hl) ?_⟩⟩
                    rw [upd_same]
                    unfold dueL
                    rw [due_finish hb hx, if_neg ht0]
                    rfl
                · have hw0 : way = 0 := by omega
                  subst hw0
                  refine iteF ⟨_, rfl, rfl, _, rfl, iteT ⟨_, rfl, d, _, rfl, M.getH, ha, _, rfl, .inl (SqL.of M.hl), _, 100, rfl, rfl, _, rfl, ?_⟩⟩
                  rw [List.length_map]
                  have hle := W.le
                  by_cases h101 : (100 : Int) < (ps.length : Int)
                  · rw [decide_eq_true h101]
                    refine iteT ⟨h2L, fun l hl ns => k l _ hl ns (Same.upd hl) ?_⟩
                    rw [upd_same]
                    unfold dueL
                    rw [due_begin hb hx, if_pos (by omega)]
                    rfl
                  · rw [decide_eq_false h101]
                    refine iteF ⟨h1L, fun l hl ns => k l _ hl ns (Same.upd hl) ?_⟩
                    rw [upd_same]
                    unfold dueL
                    rw [due_begin hb hx, if_neg (by omega)]
                    rfl
          · rw [decide_eq_false h1]
            refine iteT ⟨_, rfl, h2L, fun l hl ns => out ?_ l hl ns⟩
            show begunB ps i = false
            unfold begunB
            rw [decide_eq_false (show ¬ i ≤ (ps.length : Int) - 1 by omega), Bool.and_false]
        · rw [decide_eq_false h0]
          refine iteF ⟨_, rfl, iteT ⟨_, rfl, h2L, fun l hl ns => out ?_ l hl ns⟩⟩
          show begunB ps i = false
          unfold begunB
          rw [decide_eq_false h0, Bool.false_and]
    have fin : dueR ha tk ps ts { nx := fun _ H' => Q .non H', rt := Q } [some (.int way), some (.ref d), some v, some (.bl (isNum v))] H := ⟨way, d, v, rfl, M, W, p, k⟩
    cases p with
    | non => exact ⟨_, rfl, _, _, _, _, rfl, .non, rfl, _, rfl, iteF fin⟩
    | bl b => exact ⟨_, rfl, _, _, _, _, rfl, .bl b, rfl, _, rfl, iteT ⟨_, rfl, _, _, _, _, rfl, .bl b, rfl, _, rfl, fin⟩⟩
    | int i h => exact ⟨_, rfl, _, _, _, _, rfl, .int i, rfl, _, rfl, iteT ⟨_, rfl, _, _, _, _, rfl, .int i, rfl, _, rfl, fin⟩⟩
    | str x h => exact ⟨_, rfl, _, _, _, _, rfl, .str x, rfl, _, rfl, iteF fin⟩
    | lst e => exact ⟨_, rfl, _, _, _, _, rfl, .lst e, rfl, _, rfl, iteF fin⟩
    | tup e => exact ⟨_, rfl, _, _, _, _, rfl, .tup e, rfl, _, rfl, iteF fin⟩
    | dK e => exact ⟨_, rfl, _, _, _, _, rfl, .dK e, rfl, _, rfl, iteF fin⟩
/-! ### of which class an exception is -/
def spKinds (A : Adr) : Sp := fun vs H Q _ => ∃ a C dd n, vs = [.ref a] ∧ H a = some (.ext (excP a C dd n)) ∧ (∀ dx, dd = some dx → ∃ fs, H dx = some (.xd fs)) ∧ (C = A.a_NoFrame ∨ C = A.a_Gone ∨ C = A.a_Ground ∨ C = A.a_TooMany) ∧ ∀ H', Same H H' → Q (.int 1) H'
theorem ok__law_kinds (T : Txt K mg A) : FnOkH P w K mg base 1 A.a__law_kinds A.d__law_kinds ["_law_e"] (spKinds A) := by
  refine T.F__law_kinds.okH sc__law_kinds (fun vs H Q E h => ?_) (fun cdv Ar outer s H vs Q E hr h => ?_)
  · obtain ⟨a, C, dd, n, rfl, _⟩ := h
    rfl
  · obtain ⟨a, C, dd, n, rfl, ea, hd, hC, k⟩ := h
    have h4L : (4 : Nat) ≤ sizeLine := by decide
    refine ⟨_, (pss_one (ps_ret (pe_bm PySem.F.plainAttrs_list PySem.F.slot_list_count PySem.F.type_list_count mt_count (pe_lst (pa_cons (pe_callB (call_isinstXK (K := K) rfl) (by rfl) T.z_isinstance Boot.«isinstance» (pa_cons (pv 0) (pa_cons (pe_glob (v := .ref A.a_NoFrame) rfl T.m_NoFrame rfl) pa_nil))) (pa_cons (pe_callB (call_isinstXK (K := K) rfl) (by rfl) T.z_isinstance Boot.«isinstance» (pa_cons (pv 0) (pa_cons (pe_glob (v := .ref A.a_Gone) rfl T.m_Gone rfl) pa_nil))) (pa_cons (pe_callB (call_isinstXK (K := K) rfl) (by rfl) T.z_isinstance Boot.«isinstance» (pa_cons (pv 0) (pa_cons (pe_glob (v := .ref A.a_Ground) rfl T.m_Ground rfl) pa_nil))) (pa_cons (pe_callB (call_isinstXK (K := K) rfl) (by rfl) T.z_isinstance Boot.«isinstance» (pa_cons (pv 0) (pa_cons (pe_glob (v := .ref A.a_TooMany) rfl T.m_TooMany rfl) pa_nil))) pa_nil))))) (pa_cons pe_bl pa_nil)))), ?_⟩
    rcases hC with rfl | rfl | rfl | rfl
    · refine ⟨_, rfl, a, _, dd, n, _, true, rfl, ea, hd, T.k_NoFrame, T.i_NoFrame_NoFrame, _, rfl, a, _, dd, n, _, false, rfl, ea, hd, T.k_NoFrame, T.i_NoFrame_Gone, _, rfl, a, _, dd, n, _, false, rfl, ea, hd, T.k_NoFrame, T.i_NoFrame_Ground, _, rfl, a, _, dd, n, _, false, rfl, ea, hd, T.k_NoFrame, T.i_NoFrame_TooMany, h4L, fun p hp => ⟨.inl ⟨rfl, _, SqL.of upd_same⟩, p, [true, false, false, false], true, rfl, rfl, upd_same, ?_⟩⟩
      rw [show PySem.Spec.countIn (.bool true) ([true, false, false, false].map PyData.bool) = 1 by simp [PySem.Spec.countIn, PySem.Spec.same]]
      exact k _ (Same.upd hp)
    · refine ⟨_, rfl, a, _, dd, n, _, false, rfl, ea, hd, T.k_Gone, T.i_Gone_NoFrame, _, rfl, a, _, dd, n, _, true, rfl, ea, hd, T.k_Gone, T.i_Gone_Gone, _, rfl, a, _, dd, n, _, false, rfl, ea, hd, T.k_Gone, T.i_Gone_Ground, _, rfl, a, _, dd, n, _, false, rfl, ea, hd, T.k_Gone, T.i_Gone_TooMany, h4L, fun p hp => ⟨.inl ⟨rfl, _, SqL.of upd_same⟩, p, [false, true, false, false], true, rfl, rfl, upd_same, ?_⟩⟩
      rw [show PySem.Spec.countIn (.bool true) ([false, true, false, false].map PyData.bool) = 1 by simp [PySem.Spec.countIn, PySem.Spec.same]]
      exact k _ (Same.upd hp)
    · refine ⟨_, rfl, a, _, dd, n, _, false, rfl, ea, hd, T.k_Ground, T.i_Ground_NoFrame, _, rfl, a, _, dd, n, _, false, rfl, ea, hd, T.k_Ground, T.i_Ground_Gone, _, rfl, a, _, dd, n, _, true, rfl, ea, hd, T.k_Ground, T.i_Ground_Ground, _, rfl, a, _, dd, n, _, false, rfl, ea, hd, T.k_Ground, T.i_Ground_TooMany, h4L, fun p hp => ⟨.inl ⟨rfl, _, SqL.of upd_same⟩, p, [false, false, true, false], true, rfl, rfl, upd_same, ?_⟩⟩
      rw [show PySem.Spec.countIn (.bool true) ([false, false, true, false].map PyData.bool) = 1 by simp [PySem.Spec.countIn, PySem.Spec.same]]
      exact k _ (Same.upd hp)
    · refine ⟨_, rfl, a, _, dd, n, _, false, rfl, ea, hd, T.k_TooMany, T.i_TooMany_NoFrame, _, rfl, a, _, dd, n, _, false, rfl, ea, hd, T.k_TooMany, T.i_TooMany_Gone, _, rfl, a, _, dd, n, _, false, rfl, ea, hd, T.k_TooMany, T.i_TooMany_Ground, _, rfl, a, _, dd, n, _, true, rfl, ea, hd, T.k_TooMany, T.i_TooMany_TooMany, h4L, fun p hp => ⟨.inl ⟨rfl, _, SqL.of upd_same⟩, p, [false, false, false, true], true, rfl, rfl, upd_same, ?_⟩⟩
      rw [show PySem.Spec.countIn (.bool true) ([false, false, false, true].map PyData.bool) = 1 by simp [PySem.Spec.countIn, PySem.Spec.same]]
      exact k _ (Same.upd hp)
end
end My

namespace My
open PySem L2 PyProof.Rows
theorem len5 {σ : L2.St} (h : σ.length = 5) : ∃ a b c d e, σ = [a, b, c, d, e] := by
  match σ, h with
  | [a, b, c, d, e], _ => exact ⟨a, b, c, d, e, rfl⟩
theorem key_intro {A : Adr} {H1 : Hp} {Rr : Rf → Prop} {G : Prop} (E : XK) (key : ∀ r, Rr r → Raises A H1 E r) (main : (∀ r, Rr r → Raises A H1 E r) → G) : G := main key
section
variable {P : Program} {w : World} {K : PySem.W.Frag} {mg : Str → Option Value} {base : Heap} {A : Adr}
def spCaught (A : Adr) : Sp := fun vs H Q _ => ∃ f pa ta ps ts, ∃ (way : Nat) (v : V), vs = [.int way, .ref f, v] ∧ way < 6 ∧ FrAt A.a_Frames H f pa ta ps ts ∧ WF ps ts ∧ TV H v ∧ (way < 2 → dueO way ps ts v ≠ none) ∧
  ∀ l H', (l == sysModules) = false → Same H H' → H' l = some (.lst (dueL way ps ts v)) → Q (.ref l) H'
theorem ok__law_caught (T : Txt K mg A) : FnOk P w K mg base CX0 8 A.a__law_caught A.d__law_caught ["_law_way", "_law_frames", "_law_thing"] (spCaught A) := by
  have G_Frames_begin : FnOk P w K mg base (CX1 P w) 7 A.a_Frames_begin A.d_Frames_begin ["self", "frame"] (spRef A rB) := ok_Frames_beginX T
  have G_Frames_finish : FnOk P w K mg base (CX1 P w) 7 A.a_Frames_finish A.d_Frames_finish ["self", "frame"] (spRef A rF) := ok_Frames_finishX T
  have G_Frames_inside : FnOk P w K mg base (CX1 P w) 7 A.a_Frames_inside A.d_Frames_inside ["self", "frame"] (spOr (spInside A.a_Frames) (spRefG A)) := ((ok_Frames_inside T).toX.or (ok_Frames_insideX T)).mono (by decide)
  have G_Frames_row : FnOk P w K mg base (CX1 P w) 7 A.a_Frames_row A.d_Frames_row ["self", "frame"] (spOr (spRow A.a_Frames) (spRefG A)) := ((ok_Frames_row T).toX.or (ok_Frames_rowX T)).mono (by decide)
  have G_Frames_within : FnOk P w K mg base (CX1 P w) 7 A.a_Frames_within A.d_Frames_within ["self", "frame"] (spOr (spWithin A.a_Frames) (spRefG A)) := ((ok_Frames_within T).toX.or (ok_Frames_withinX T)).mono (by decide)
  have G_Frames_ended_by : FnOk P w K mg base (CX1 P w) 7 A.a_Frames_ended_by A.d_Frames_ended_by ["self", "frame"] (spOr (spBy A.a_Frames) (spRefG A)) := ((ok_Frames_ended_by T).toX.or (ok_Frames_ended_byX T)).mono (by decide)
  have G__law_kinds : FnOkH P w K mg base 7 A.a__law_kinds A.d__law_kinds ["_law_e"] (spKinds A) := (ok__law_kinds T).mono (by decide)
  refine T.F__law_caught.ok sc__law_caught (fun vs H Q E h => ?_) (fun cdv Ar outer s H vs Q E hr h => ?_)
  · obtain ⟨f, pa, ta, ps, ts, way, v, rfl, _⟩ := h
    rfl
  · obtain ⟨f, pa, ta, ps, ts, way, v, rfl, hw, F, W, p, hdue, k⟩ := h
    have h1L : (1 : Nat) ≤ sizeLine := by decide
    have h2L : (2 : Nat) ≤ sizeLine := by decide
    have h3L : (3 : Nat) ≤ sizeLine := by decide
    have hl := W.len
    refine ⟨_, (pss_cons (ps_set (i := 3) sc__law_caught.nd rfl (Or.inl rfl) (pe_lstS (pa_cons pe_str pa_nil))) (pss_cons (ps_tryAs (i := 4) rfl rfl sc__law_caught.nd rfl rfl rfl T.m_RoomError T.X_RoomError.toExcC (fun E pn W hw => (pss_one (ps_if (pt_cmpR op_eq (pv 0) pe_int (nomark _)) (pss_one (ps_expr (pe_meth (pv 1) T.K_Frames T.t_Frames_begin G_Frames_begin hr T.b_Frames_begin .nil (passes_of hw trivial) (pa_cons (pv 2) pa_nil)))) (pss_one (ps_if (pt_cmpR op_eq (pv 0) pe_int (nomark _)) (pss_one (ps_expr (pe_meth (pv 1) T.K_Frames T.t_Frames_finish G_Frames_finish hr T.b_Frames_finish .nil (passes_of hw trivial) (pa_cons (pv 2) pa_nil)))) (pss_one (ps_if (pt_cmpR op_eq (pv 0) pe_int (nomark _)) (pss_one (ps_expr (pe_meth (pv 1) T.K_Frames T.t_Frames_inside G_Frames_inside hr T.b_Frames_inside .nil (passes_of hw trivial) (pa_cons (pv 2) pa_nil)))) (pss_one (ps_if (pt_cmpR op_eq (pv 0) pe_int (nomark _)) (pss_one (ps_expr (pe_meth (pv 1) T.K_Frames T.t_Frames_row G_Frames_row hr T.b_Frames_row .nil (passes_of hw trivial) (pa_cons (pv 2) pa_nil)))) (pss_one (ps_if (pt_cmpR op_eq (pv 0) pe_int (nomark _)) (pss_one (ps_expr (pe_meth (pv 1) T.K_Frames T.t_Frames_within G_Frames_within hr T.b_Frames_within .nil (passes_of hw trivial) (pa_cons (pv 2) pa_nil)))) (pss_one (ps_expr (pe_meth (pv 1) T.K_Frames T.t_Frames_ended_by G_Frames_ended_by hr T.b_Frames_ended_by .nil (passes_of hw trivial) (pa_cons (pv 2) pa_nil))))))))))))))) (fun a => (pss_cons (ps_set (i := 3) sc__law_caught.nd rfl (Or.inl rfl) (pe_lstS (pa_cons pe_str pa_nil))) (pss_cons (ps_if (PW.pt (pw_and (pt_val (pe_callB (call_isinstXK (K := K) rfl) (by rfl) T.z_isinstance Boot.«isinstance» (pa_cons (pv 4) (pa_cons (pe_glob (v := .ref A.a_NoFrame) rfl T.m_NoFrame rfl) pa_nil)))) (pw_and1 (pt_cmpR op_eq (pe_callH G__law_kinds (hr.mark _) rfl T.m__law_kinds T.F__law_kinds.kp T.b__law_kinds (pa_cons (pv 4) pa_nil)) pe_int (nomark _))))) (pss_one (ps_set (i := 3) sc__law_caught.nd rfl (Or.inl rfl) (pe_lstS (pa_cons pe_str (pa_cons (pe_fldXK (K := K) rfl (pv 4) rfl) pa_nil))))) pss_nil) (pss_cons (ps_if (PW.pt (pw_and (pt_val (pe_callB (call_isinstXK (K := K) rfl) (by rfl) T.z_isinstance Boot.«isinstance» (pa_cons (pv 4) (pa_cons (pe_glob (v := .ref A.a_Gone) rfl T.m_Gone rfl) pa_nil)))) (pw_and1 (pt_cmpR op_eq (pe_callH G__law_kinds (hr.mark _) rfl T.m__law_kinds T.F__law_kinds.kp T.b__law_kinds (pa_cons (pv 4) pa_nil)) pe_int (nomark _))))) (pss_one (ps_set (i := 3) sc__law_caught.nd rfl (Or.inl rfl) (pe_lstS (pa_cons pe_str (pa_cons (pe_fldXK (K := K) rfl (pv 4) rfl) (pa_cons (pe_fldXK (K := K) rfl (pv 4) rfl) pa_nil)))))) pss_nil) (pss_cons (ps_if (PW.pt (pw_and (pt_val (pe_callB (call_isinstXK (K := K) rfl) (by rfl) T.z_isinstance Boot.«isinstance» (pa_cons (pv 4) (pa_cons (pe_glob (v := .ref A.a_Ground) rfl T.m_Ground rfl) pa_nil)))) (pw_and1 (pt_cmpR op_eq (pe_callH G__law_kinds (hr.mark _) rfl T.m__law_kinds T.F__law_kinds.kp T.b__law_kinds (pa_cons (pv 4) pa_nil)) pe_int (nomark _))))) (pss_one (ps_set (i := 3) sc__law_caught.nd rfl (Or.inl rfl) (pe_lstS (pa_cons pe_str pa_nil)))) pss_nil) (pss_one (ps_if (PW.pt (pw_and (pt_val (pe_callB (call_isinstXK (K := K) rfl) (by rfl) T.z_isinstance Boot.«isinstance» (pa_cons (pv 4) (pa_cons (pe_glob (v := .ref A.a_TooMany) rfl T.m_TooMany rfl) pa_nil)))) (pw_and1 (pt_cmpR op_eq (pe_callH G__law_kinds (hr.mark _) rfl T.m__law_kinds T.F__law_kinds.kp T.b__law_kinds (pa_cons (pv 4) pa_nil)) pe_int (nomark _))))) (pss_one (ps_set (i := 3) sc__law_caught.nd rfl (Or.inl rfl) (pe_lstS (pa_cons pe_str (pa_cons (pe_fldXK (K := K) rfl (pv 4) rfl) pa_nil))))) pss_nil)))))))) (pss_one (ps_ret (pv 3))))), ?_⟩
    refine ⟨h1L, fun l0 hl0 ns0 => ?_⟩
    have s0 := Same.upd (o := .lst [V.str (Str.ofString "told")]) hl0
    have at0 : upd H l0 (.lst [V.str (Str.ofString "told")]) l0 = some (.lst [V.str (Str.ofString "told")]) := upd_same
    have F0 := F.same s0
    have p0 := p.same s0
    have k : ∀ l H', (l == sysModules) = false → Same (upd H l0 (.lst [V.str (Str.ofString "told")])) H' → H' l = some (.lst (dueL way ps ts v)) → Q (.ref l) H' := fun l H' ns sm e => k l H' ns (s0.trans sm) e
    generalize upd H l0 (.lst [V.str (Str.ofString "told")]) = H1 at at0 F0 p0 k
    obtain ⟨⟨dx0, ho⟩, hp, ht, ne⟩ := id F0
    apply key_intro (A := A) (H1 := H1) (Rr := fun r => dueO way ps ts v = some r)
    case main =>
      intro key
      have wne : ∀ j : Int, (way : Int) ≠ j → decide (V.int (way : Int) = V.int j) = false := fun j hj => decide_eq_false fun z => hj (by injection z)
      have wyes : ∀ j : Int, (way : Int) = j → decide (V.int (way : Int) = V.int j) = true := fun j hj => decide_eq_true (by rw [hj])
      have told : begV ps v = true → 1 < way → ∀ H', Same H1 H' → Q (.ref l0) H' := fun hb hw1 H' sm => k l0 H' ns0 sm (by rw [sm _ _ at0]; unfold dueL; rw [due_high hb hw1]; rfl)
      have far : begV ps v = false → Raises A H1 _ (.frame v) := fun hb => key _ (due_out hb)
      refine ⟨_, rfl, rfl, _, rfl, ?_⟩
      by_cases w0 : way = 0
      · rw [wyes 0 (by omega)]
        refine iteT ⟨_, rfl, f, dx0, _, rfl, ho, flds_no _ _ (by decide +kernel) (by decide +kernel), _, rfl, ?_⟩
        cases hr' : dueO way ps ts v with
        | none => exact absurd hr' (hdue (by omega))
        | some r => exact ⟨f, pa, ta, ps, ts, v, r, rfl, F0, hl, p0, (by have e := hr'; unfold dueO at e; rw [if_pos w0] at e; exact e), key r hr'⟩
      rw [wne 0 (by omega)]
      refine iteF ⟨_, rfl, rfl, _, rfl, ?_⟩
      by_cases w1 : way = 1
      · rw [wyes 1 (by omega)]
        refine iteT ⟨_, rfl, f, dx0, _, rfl, ho, flds_no _ _ (by decide +kernel) (by decide +kernel), _, rfl, ?_⟩
        cases hr' : dueO way ps ts v with
        | none => exact absurd hr' (hdue (by omega))
        | some r => exact ⟨f, pa, ta, ps, ts, v, r, rfl, F0, hl, p0, (by have e := hr'; unfold dueO at e; rw [if_neg w0, if_pos w1] at e; exact e), key r hr'⟩
      rw [wne 1 (by omega)]
      refine iteF ⟨_, rfl, rfl, _, rfl, ?_⟩
      have hw1 : 1 < way := by omega
      by_cases w2 : way = 2
      · rw [wyes 2 (by omega)]
        refine iteT ⟨_, rfl, f, dx0, _, rfl, ho, flds_no _ _ (by decide +kernel) (by decide +kernel), _, rfl, ?_⟩
        cases hb : begV ps v with
        | false => exact .inr ⟨f, pa, ta, ps, ts, v, rfl, F0, p0, hb, far hb⟩
        | true =>
          obtain ⟨t, rfl, htl⟩ := begV_nat hb
          exact .inl ⟨f, pa, ta, ps, ts, t, ps[t], rfl, F0, by simp [htl], ⟨_, rfl, told hb hw1 H1 (Same.refl _)⟩⟩
      rw [wne 2 (by omega)]
      refine iteF ⟨_, rfl, rfl, _, rfl, ?_⟩
      by_cases w3 : way = 3
      · rw [wyes 3 (by omega)]
        refine iteT ⟨_, rfl, f, dx0, _, rfl, ho, flds_no _ _ (by decide +kernel) (by decide +kernel), _, rfl, ?_⟩
        cases hb : begV ps v with
        | false => exact .inr ⟨f, pa, ta, ps, ts, v, rfl, F0, p0, hb, far hb⟩
        | true =>
          obtain ⟨t, rfl, htl⟩ := begV_nat hb
          exact .inl ⟨f, pa, ta, ps, ts, t, rfl, F0, W, htl, fun l H' _ sm _ => ⟨_, rfl, told hb hw1 H' sm⟩⟩
      rw [wne 3 (by omega)]
      refine iteF ⟨_, rfl, rfl, _, rfl, ?_⟩
      by_cases w4 : way = 4
      · rw [wyes 4 (by omega)]
        refine iteT ⟨_, rfl, f, dx0, _, rfl, ho, flds_no _ _ (by decide +kernel) (by decide +kernel), _, rfl, ?_⟩
        cases hb : begV ps v with
        | false => exact .inr ⟨f, pa, ta, ps, ts, v, rfl, F0, p0, hb, far hb⟩
        | true =>
          obtain ⟨t, rfl, htl⟩ := begV_nat hb
          exact .inl ⟨f, pa, ta, ps, ts, t, rfl, F0, W, htl, fun l H' _ sm _ => ⟨_, rfl, told hb hw1 H' sm⟩⟩
      rw [wne 4 (by omega)]
      refine iteF ⟨_, rfl, f, dx0, _, rfl, ho, flds_no _ _ (by decide +kernel) (by decide +kernel), _, rfl, ?_⟩
      cases hb : begV ps v with
      | false => exact .inr ⟨f, pa, ta, ps, ts, v, rfl, F0, p0, hb, far hb⟩
      | true =>
        obtain ⟨t, rfl, htl⟩ := begV_nat hb
        have hts : t < ts.length := by omega
        exact .inl ⟨f, pa, ta, ps, ts, t, ts[t], rfl, F0, hl, by simp [hts], ⟨_, rfl, told hb hw1 H1 (Same.refl _)⟩⟩
    case key =>
      intro r hr'
      have hr' : dueL way ps ts v = r.told := by unfold dueL; rw [hr']; rfl
      cases r with
      | frame v' =>
        intro dx H2 s2 ed
        refine ⟨A.a_NoFrame, rfl, T.U_NoFrame_RoomError, fun a' σ' ea hlen => ?_⟩
        obtain ⟨y0, y1, y2, y3, y4, rfl⟩ := len5 hlen
        have hdS : ∀ {H3 : Hp}, Same H2 H3 → ∀ dx', some dx = some dx' → ∃ fs, H3 dx' = some (.xd fs) := fun {H3} sm dx' z => by cases z; exact ⟨_, sm _ _ ed⟩
        refine ⟨h1L, fun l1 hl1 ns1 => ?_⟩
        have s3 := Same.upd (o := .lst [V.str (Str.ofString "other")]) hl1
        have ea3 := s3 _ _ ea
        have hd3 := hdS s3
        refine ⟨_, rfl, a', A.a_NoFrame, some dx, false, A.a_NoFrame, true, rfl, ea3, hd3, T.k_NoFrame, T.i_NoFrame_NoFrame, _, rfl, iteT ?_⟩
        refine ⟨_, rfl, a', A.a_NoFrame, some dx, false, rfl, ea3, hd3, .inl rfl, fun H4 s4 => ⟨rfl, _, rfl, iteT ?_⟩⟩
        have ea4 := s4 _ _ ea3
        refine ⟨_, rfl, a', A.a_NoFrame, dx, false, _, _, rfl, ea4, s4 _ _ (s3 _ _ ed), T.g_NoFrame, T.n_NoFrame_found, rfl, h2L, fun l2 hl2 ns2 => ?_⟩
        have s5 := Same.upd (o := .lst [V.str (Str.ofString "frame"), v']) hl2
        have ea5 := s5 _ _ ea4
        have hd5 := hdS ((s3.trans s4).trans s5)
        refine ⟨_, rfl, a', A.a_NoFrame, some dx, false, A.a_Gone, false, rfl, ea5, hd5, T.k_NoFrame, T.i_NoFrame_Gone, _, rfl, iteF ?_⟩
        refine ⟨_, rfl, a', A.a_NoFrame, some dx, false, A.a_Ground, false, rfl, ea5, hd5, T.k_NoFrame, T.i_NoFrame_Ground, _, rfl, iteF ?_⟩
        refine ⟨_, rfl, a', A.a_NoFrame, some dx, false, A.a_TooMany, false, rfl, ea5, hd5, T.k_NoFrame, T.i_NoFrame_TooMany, _, rfl, iteF ?_⟩
        exact ⟨_, rfl, k l2 _ ns2 (((s2.trans s3).trans s4).trans s5) (by rw [upd_same, hr']; rfl)⟩
      | gone v' b' =>
        intro dx H2 s2 ed
        refine ⟨A.a_Gone, rfl, T.U_Gone_RoomError, fun a' σ' ea hlen => ?_⟩
        obtain ⟨y0, y1, y2, y3, y4, rfl⟩ := len5 hlen
        have hdS : ∀ {H3 : Hp}, Same H2 H3 → ∀ dx', some dx = some dx' → ∃ fs, H3 dx' = some (.xd fs) := fun {H3} sm dx' z => by cases z; exact ⟨_, sm _ _ ed⟩
        refine ⟨h1L, fun l1 hl1 ns1 => ?_⟩
        have s3 := Same.upd (o := .lst [V.str (Str.ofString "other")]) hl1
        have ea3 := s3 _ _ ea
        have hd3 := hdS s3
        refine ⟨_, rfl, a', A.a_Gone, some dx, false, A.a_NoFrame, false, rfl, ea3, hd3, T.k_Gone, T.i_Gone_NoFrame, _, rfl, iteF ?_⟩
        refine ⟨_, rfl, a', A.a_Gone, some dx, false, A.a_Gone, true, rfl, ea3, hd3, T.k_Gone, T.i_Gone_Gone, _, rfl, iteT ?_⟩
        refine ⟨_, rfl, a', A.a_Gone, some dx, false, rfl, ea3, hd3, .inr (.inl rfl), fun H4 s4 => ⟨rfl, _, rfl, iteT ?_⟩⟩
        have ea4 := s4 _ _ ea3
        refine ⟨_, rfl, a', A.a_Gone, dx, false, _, _, rfl, ea4, s4 _ _ (s3 _ _ ed), T.g_Gone, T.n_Gone_found, rfl, _, rfl, a', A.a_Gone, dx, false, _, _, rfl, ea4, s4 _ _ (s3 _ _ ed), T.g_Gone, T.n_Gone_by, rfl, h3L, fun l2 hl2 ns2 => ?_⟩
        have s5 := Same.upd (o := .lst [V.str (Str.ofString "gone"), v', b']) hl2
        have ea5 := s5 _ _ ea4
        have hd5 := hdS ((s3.trans s4).trans s5)
        refine ⟨_, rfl, a', A.a_Gone, some dx, false, A.a_Ground, false, rfl, ea5, hd5, T.k_Gone, T.i_Gone_Ground, _, rfl, iteF ?_⟩
        refine ⟨_, rfl, a', A.a_Gone, some dx, false, A.a_TooMany, false, rfl, ea5, hd5, T.k_Gone, T.i_Gone_TooMany, _, rfl, iteF ?_⟩
        exact ⟨_, rfl, k l2 _ ns2 (((s2.trans s3).trans s4).trans s5) (by rw [upd_same, hr']; rfl)⟩
      | ground =>
        intro H2 s2
        refine ⟨A.a_Ground, rfl, T.U_Ground_RoomError, fun a' σ' ea hlen => ?_⟩
        obtain ⟨y0, y1, y2, y3, y4, rfl⟩ := len5 hlen
        refine ⟨h1L, fun l1 hl1 ns1 => ?_⟩
        have s3 := Same.upd (o := .lst [V.str (Str.ofString "other")]) hl1
        have ea3 := s3 _ _ ea
        have hd3 : ∀ dx : Addr, (none : Option Addr) = some dx → ∃ fs, (upd H2 l1 (.lst [V.str (Str.ofString "other")])) dx = some (.xd fs) := fun _ z => nomatch z
        refine ⟨_, rfl, a', A.a_Ground, none, false, A.a_NoFrame, false, rfl, ea3, hd3, T.k_Ground, T.i_Ground_NoFrame, _, rfl, iteF ?_⟩
        refine ⟨_, rfl, a', A.a_Ground, none, false, A.a_Gone, false, rfl, ea3, hd3, T.k_Ground, T.i_Ground_Gone, _, rfl, iteF ?_⟩
        refine ⟨_, rfl, a', A.a_Ground, none, false, A.a_Ground, true, rfl, ea3, hd3, T.k_Ground, T.i_Ground_Ground, _, rfl, iteT ?_⟩
        refine ⟨_, rfl, a', A.a_Ground, none, false, rfl, ea3, hd3, .inr (.inr (.inl rfl)), fun H4 s4 => ⟨rfl, _, rfl, iteT ?_⟩⟩
        have ea4 := s4 _ _ ea3
        refine ⟨h1L, fun l2 hl2 ns2 => ?_⟩
        have s5 := Same.upd (o := .lst [V.str (Str.ofString "ground")]) hl2
        have ea5 := s5 _ _ ea4
        have hd5 : ∀ dx : Addr, (none : Option Addr) = some dx → ∃ fs, (upd H4 l2 (.lst [V.str (Str.ofString "ground")])) dx = some (.xd fs) := fun _ z => nomatch z
        refine ⟨_, rfl, a', A.a_Ground, none, false, A.a_TooMany, false, rfl, ea5, hd5, T.k_Ground, T.i_Ground_TooMany, _, rfl, iteF ?_⟩
        exact ⟨_, rfl, k l2 _ ns2 (((s2.trans s3).trans s4).trans s5) (by rw [upd_same, hr']; rfl)⟩
      | many =>
        intro dx H2 s2 ed
        refine ⟨A.a_TooMany, rfl, T.U_TooMany_RoomError, fun a' σ' ea hlen => ?_⟩
        obtain ⟨y0, y1, y2, y3, y4, rfl⟩ := len5 hlen
        have hdS : ∀ {H3 : Hp}, Same H2 H3 → ∀ dx', some dx = some dx' → ∃ fs, H3 dx' = some (.xd fs) := fun {H3} sm dx' z => by cases z; exact ⟨_, sm _ _ ed⟩
        refine ⟨h1L, fun l1 hl1 ns1 => ?_⟩
        have s3 := Same.upd (o := .lst [V.str (Str.ofString "other")]) hl1
        have ea3 := s3 _ _ ea
        have hd3 := hdS s3
        refine ⟨_, rfl, a', A.a_TooMany, some dx, false, A.a_NoFrame, false, rfl, ea3, hd3, T.k_TooMany, T.i_TooMany_NoFrame, _, rfl, iteF ?_⟩
        refine ⟨_, rfl, a', A.a_TooMany, some dx, false, A.a_Gone, false, rfl, ea3, hd3, T.k_TooMany, T.i_TooMany_Gone, _, rfl, iteF ?_⟩
        refine ⟨_, rfl, a', A.a_TooMany, some dx, false, A.a_Ground, false, rfl, ea3, hd3, T.k_TooMany, T.i_TooMany_Ground, _, rfl, iteF ?_⟩
        refine ⟨_, rfl, a', A.a_TooMany, some dx, false, A.a_TooMany, true, rfl, ea3, hd3, T.k_TooMany, T.i_TooMany_TooMany, _, rfl, iteT ?_⟩
        refine ⟨_, rfl, a', A.a_TooMany, some dx, false, rfl, ea3, hd3, .inr (.inr (.inr rfl)), fun H4 s4 => ⟨rfl, _, rfl, iteT ?_⟩⟩
        have ea4 := s4 _ _ ea3
        refine ⟨_, rfl, a', A.a_TooMany, dx, false, _, _, rfl, ea4, s4 _ _ (s3 _ _ ed), T.g_TooMany, T.n_TooMany_many, rfl, h2L, fun l2 hl2 ns2 => ?_⟩
        have s5 := Same.upd (o := .lst [V.str (Str.ofString "many"), V.int 101]) hl2
        have ea5 := s5 _ _ ea4
        have hd5 := hdS ((s3.trans s4).trans s5)
        exact ⟨_, rfl, k l2 _ ns2 (((s2.trans s3).trans s4).trans s5) (by rw [upd_same, hr']; rfl)⟩
end
end My

namespace My
open PySem L2 PyProof.Rows
/-! ### the texts of lists of numbers -/
def oD : Option Nat → PyData
  | none => .none
  | some n => .int n
theorem datAll_oV (H : Hp) : ∀ xs : List (Option Nat), DatAll H (xs.map oV) (xs.map oD)
  | [] => .nil
  | none :: r => .cons .non (datAll_oV H r)
  | some n :: r => .cons (.int n) (datAll_oV H r)
def smallO (xs : List (Option Nat)) : Prop := ∀ o ∈ xs, ∀ n, o = some n → n ≤ 1000
theorem log_small {n : Nat} (h : n ≤ 1000) : (n : Int).natAbs.log2 < 1920 := by
  have h1 : (n : Int).natAbs = n := Int.natAbs_natCast n
  rw [h1]
  have := Nat.log2_le_self n
  omega
theorem nV_oV (S : List Nat) : S.map nV = (S.map some).map oV := by
  rw [List.map_map]
  rfl
theorem small_ps {ps ts : List (Option Nat)} (W : WF ps ts) : smallO ps := by
  intro o ho n e
  subst e
  obtain ⟨i, hi⟩ := List.mem_iff_getElem?.mp ho
  have hlt : i < ps.length := (List.getElem?_eq_some_iff.mp hi).1
  have := W.le
  by_cases h0 : i = 0
  · subst h0
    rw [W.root] at hi
    cases hi
  · obtain ⟨j, e, hj⟩ := W.par i (by omega) hlt
    rw [e] at hi
    cases hi
    omega
theorem small_tk {ps ts : List (Option Nat)} (W : WF ps ts) : smallO ts := by
  intro o ho n e
  subst e
  obtain ⟨i, hi⟩ := List.mem_iff_getElem?.mp ho
  have := W.tk i n hi
  have := W.le
  omega
theorem row_lt {ps ts : List (Option Nat)} (W : WF ps ts) (f : Nat) : f < ps.length → ∀ n ∈ upM ps f, n ≤ f := by
  induction f using Nat.strongRecOn with
  | _ f ih =>
    intro hf n hn
    by_cases h0 : f = 0
    · subst h0
      rw [up_step W W.root] at hn
      rcases List.mem_cons.mp hn with rfl | hn
      · exact Nat.le_refl _
      · cases hn
    · obtain ⟨j, ej, hj⟩ := W.par f (by omega) hf
      rw [up_step W ej] at hn
      rcases List.mem_cons.mp hn with rfl | hn
      · exact Nat.le_refl _
      · have := ih j hj (by omega) n hn
        omega
/-! ### what is shown fits -/
structure Good (B k : Nat) (d : PyData) : Prop where
  sh : d.showable = true
  dp : d.depth ≤ k
  ln : d.shown.length ≤ B
theorem Good.mono {B B' k k' : Nat} {d : PyData} (g : Good B k d) (h : B ≤ B') (h' : k ≤ k') : Good B' k' d := ⟨g.sh, Nat.le_trans g.dp h', Nat.le_trans g.ln h⟩
theorem good_all {B k : Nat} : ∀ {ds : List PyData}, (∀ d ∈ ds, Good B k d) → PyData.showableAll ds = true ∧ PyData.depthAll ds ≤ k ∧ ((PyData.shownAll ds).map (·.length)).sum ≤ B * ds.length ∧ (PyData.shownAll ds).length = ds.length
  | [], _ => by simp [PyData.showableAll, PyData.depthAll, PyData.shownAll]
  | d :: r, h => by
    obtain ⟨h1, h2, h3, h4⟩ := good_all (ds := r) fun x hx => h x (List.mem_cons_of_mem _ hx)
    have g := h d List.mem_cons_self
    have gl := g.ln
    refine ⟨?_, ?_, ?_, ?_⟩
    · simp only [PyData.showableAll, g.sh, h1, Bool.and_self]
    · simp only [PyData.depthAll]
      exact Nat.max_le.mpr ⟨g.dp, h2⟩
    · simp only [PyData.shownAll, List.map_cons, List.sum_cons, List.length_cons, Nat.mul_add, Nat.mul_one]
      omega
    · simp only [PyData.shownAll, List.length_cons, h4]
theorem Good.list {B k : Nat} {ds : List PyData} (h : ∀ d ∈ ds, Good B k d) : Good (B * ds.length + 2 * ds.length + 3) (k + 1) (.list ds) := by
  obtain ⟨h1, h2, h3, h4⟩ := good_all h
  refine ⟨?_, ?_, ?_⟩
  · simp only [PyData.showable, h1]
  · simp only [PyData.depth]
    omega
  · simp only [PyData.shown]
    have := listText_len_le (PyData.shownAll ds)
    rw [h4] at this
    omega
theorem good_int {n : Nat} (h : n ≤ 1000) : Good 5 1 (.int n) := by
  refine ⟨?_, ?_, ?_⟩
  · simp only [PyData.showable]
    exact decide_eq_true (log_small h)
  · simp [PyData.depth]
  · simp only [PyData.shown]
    rw [PySem.ofString_length]
    exact PySem.int_text_length_le10 (k := 4) (by decide) (by rw [Int.natAbs_natCast]; omega)
theorem good_oD {o : Option Nat} (h : ∀ n, o = some n → n ≤ 1000) : Good 5 1 (oD o) := by
  cases o with
  | none =>
    refine ⟨?_, ?_, ?_⟩
    · show (PyData.none).showable = true
      simp only [PyData.showable]
    · show (PyData.none).depth ≤ 1
      simp [PyData.depth]
    · show (PyData.none).shown.length ≤ 5
      simp only [PyData.shown]
      decide +kernel
  | some n => exact good_int (h n rfl)
def nD (S : List Nat) : List PyData := (S.map some).map oD
theorem nD_len (S : List Nat) : (nD S).length = S.length := by unfold nD; rw [List.length_map, List.length_map]
theorem good_nD {S : List Nat} (h : ∀ n ∈ S, n ≤ 1000) (hl : S.length ≤ 200) : Good 1500 2 (.list (nD S)) := by
  have g := Good.list (B := 5) (k := 1) (ds := nD S) fun d hd => by
    obtain ⟨o, ho, rfl⟩ := List.mem_map.mp hd
    obtain ⟨n, hn, rfl⟩ := List.mem_map.mp ho
    exact good_oD fun m e => by cases e; exact h n hn
  rw [nD_len] at g
  exact g.mono (by omega) (Nat.le_refl _)
theorem dat_nV {H : Hp} {l : Addr} {S : List Nat} (h : H l = some (.lst (S.map nV))) : Dat H (.ref l) (.list (nD S)) := by
  rw [nV_oV] at h
  exact .lst h (datAll_oV H _)
theorem dat_oV (H : Hp) (o : Option Nat) : Dat H (oV o) (oD o) := by
  cases o with
  | none => exact .non
  | some n => exact .int n
theorem datAll_of {H : Hp} : ∀ {ys : List V} {g : Nat → PyData}, (∀ i v, ys[i]? = some v → Dat H v (g i)) → DatAll H ys ((List.range ys.length).map g)
  | [], g, _ => .nil
  | y :: r, g, h => by
    rw [List.length_cons, List.range_succ_eq_map, List.map_cons, List.map_map]
    exact .cons (h 0 y rfl) (datAll_of (g := g ∘ Nat.succ) fun i v e => h (i + 1) v (by simpa using e))
/-! ### all that is told of frames -/
def rowD (ps ts : List (Option Nat)) (k : Nat) : PyData := .list [oD (ps.getD k none), .list (nD (rowM ps k)), .list (nD (withinM ps ts k)), oD (ts.getD k none)]
def stD (ps ts : List (Option Nat)) : PyData := .list [.list (nD (standM ts)), .int (ps.length : Int), .list ((List.range ps.length).map (rowD ps ts))]
theorem stand_len {ps ts : List (Option Nat)} (W : WF ps ts) : (standM ts).length ≤ 101 := by
  refine Nat.le_trans (List.length_filter_le _ _) ?_
  rw [List.length_range]
  have := W.len
  have := W.le
  omega
theorem stand_small {ps ts : List (Option Nat)} (W : WF ps ts) : ∀ n ∈ standM ts, n ≤ 1000 := fun n hn => by
  have := stand_lt hn
  have := W.len
  have := W.le
  omega
theorem getD_small {xs : List (Option Nat)} (h : smallO xs) (k : Nat) : ∀ n, xs.getD k none = some n → n ≤ 1000 := fun n e => by
  rw [List.getD_eq_getElem?_getD] at e
  cases q : xs[k]? with
  | none => rw [q] at e; cases e
  | some o =>
    rw [q] at e
    exact h o (List.mem_of_getElem? q) n e
theorem good_row {ps ts : List (Option Nat)} (W : WF ps ts) {k : Nat} (hk : k < ps.length) : Good 7000 3 (rowD ps ts k) := by
  have hle := W.le
  have g1 := good_oD (getD_small (small_ps W) k)
  have g4 := good_oD (getD_small (small_tk W) k)
  have g2 : Good 1500 2 (.list (nD (rowM ps k))) := good_nD (fun n hn => by have := row_lt W k hk n (List.mem_reverse.mp hn); omega) (by
    have := up_len ps k k
    show (upF ps k k).reverse.length ≤ 200
    rw [List.length_reverse]
    omega)
  have g3 : Good 1500 2 (.list (nD (withinM ps ts k))) := good_nD (fun n hn => stand_small W n (List.mem_filter.mp hn).1) (Nat.le_trans (List.length_filter_le _ _) (Nat.le_trans (stand_len W) (by decide)))
  refine (Good.list (B := 1500) (k := 2) fun d hd => ?_).mono (by show 1500 * 4 + 2 * 4 + 3 ≤ 7000; decide) (Nat.le_refl _)
  simp only [List.mem_cons, List.not_mem_nil, or_false] at hd
  rcases hd with rfl | rfl | rfl | rfl
  · exact g1.mono (by decide) (by decide)
  · exact g2
  · exact g3
  · exact g4.mono (by decide) (by decide)
theorem good_st {ps ts : List (Option Nat)} (W : WF ps ts) : Good 3000000 5 (stD ps ts) := by
  have hle := W.le
  have g1 := good_nD (stand_small W) (Nat.le_trans (stand_len W) (by decide))
  have g2 : Good 5 1 (.int (ps.length : Int)) := good_int (by omega)
  have g3 := Good.list (B := 7000) (k := 3) (ds := (List.range ps.length).map (rowD ps ts)) fun d hd => by
    obtain ⟨k, hk, rfl⟩ := List.mem_map.mp hd
    exact good_row W (List.mem_range.mp hk)
  rw [List.length_map, List.length_range] at g3
  refine (Good.list (B := 800000) (k := 4) fun d hd => ?_).mono (by show 800000 * 3 + 2 * 3 + 3 ≤ 3000000; decide) (Nat.le_refl _)
  simp only [List.mem_cons, List.not_mem_nil, or_false] at hd
  rcases hd with rfl | rfl | rfl
  · exact g1.mono (by decide) (by decide)
  · exact g2.mono (by decide) (by decide)
  · exact g3.mono (by omega) (by decide)
section
variable {P : Program} {w : World} {K : PySem.W.Frag} {mg : Str → Option Value} {base : Heap} {A : Adr}
def spState (C : Addr) : Sp := fun vs H Q _ => ∃ f pa ta ps ts, vs = [.ref f] ∧ FrAt C H f pa ta ps ts ∧ WF ps ts ∧ ∀ H', Same H H' → Q (.str (stD ps ts).shown) H'
theorem ok__law_state (T : Txt K mg A) : FnOk P w K mg base CX0 7 A.a__law_state A.d__law_state ["_law_frames"] (spState A.a_Frames) := by
  have G_Frames_begun : FnOk P w K mg base CX0 6 A.a_Frames_begun A.d_Frames_begun ["self"] (spBegun A.a_Frames) := (ok_Frames_begun T).mono (by decide)
  have G_Frames_inside : FnOk P w K mg base CX0 6 A.a_Frames_inside A.d_Frames_inside ["self", "frame"] (spInside A.a_Frames) := (ok_Frames_inside T).mono (by decide)
  have G_Frames_row : FnOk P w K mg base CX0 6 A.a_Frames_row A.d_Frames_row ["self", "frame"] (spRow A.a_Frames) := (ok_Frames_row T).mono (by decide)
  have G_Frames_within : FnOk P w K mg base CX0 6 A.a_Frames_within A.d_Frames_within ["self", "frame"] (spWithin A.a_Frames) := (ok_Frames_within T).mono (by decide)
  have G_Frames_ended_by : FnOk P w K mg base CX0 6 A.a_Frames_ended_by A.d_Frames_ended_by ["self", "frame"] (spBy A.a_Frames) := (ok_Frames_ended_by T).mono (by decide)
  have G_Frames_standing : FnOk P w K mg base CX0 6 A.a_Frames_standing A.d_Frames_standing ["self"] (spStanding A.a_Frames) := (ok_Frames_standing T).mono (by decide)
  refine T.F__law_state.ok sc__law_state (fun vs H Q E h => ?_) (fun cdv Ar outer s H vs Q E hr h => ?_)
  · obtain ⟨f, pa, ta, ps, ts, rfl, _⟩ := h
    rfl
  · obtain ⟨f, pa, ta, ps, ts, rfl, F, W, k⟩ := h
    obtain ⟨⟨dx, ho⟩, hp, ht, ne⟩ := id F
    have hl := W.len
    have hle := W.le
    have hgd := hr.gd
    have hu1 : _ + 100 < cLine := Nat.lt_of_le_of_lt (Nat.add_le_add_left (by decide : 100 ≤ 16 * 6 + 200) _) (by have := hr.un; omega)
    have hL : sizeLine = 16777216 := by decide
    refine ⟨_, (pss_cons (ps_set (i := 1) sc__law_state.nd rfl (Or.inl rfl) (pe_op op_add (pe_meth0 (pv 0) T.K_Frames T.t_Frames_begun G_Frames_begun hr T.b_Frames_begun .nil pass0) pe_int)) (pss_cons (ps_setC (i := 2) sc__law_state.nd rfl (Or.inl rfl) (N := ["_law_k", "_law_frames"]) (k := 1) (js := [0]) rfl (cscope_of (by kernel_rfl)) (pi_range1 rfl T.z_range (pa_cons (pv 1) pa_nil)) (fun _ _ _ _ _ => ⟨(pg_name (i := 0) (show (["_law_k", "_law_frames"] : List Str).Nodup by decide +kernel) rfl (Or.inl rfl) (Or.inr rfl)), pif0, (pe_lst (pa_cons (pe_meth (pv 1) T.K_Frames T.t_Frames_inside G_Frames_inside hr T.b_Frames_inside .nil pass0 (pa_cons (pv 0) pa_nil)) (pa_cons (pe_meth (pv 1) T.K_Frames T.t_Frames_row G_Frames_row hr T.b_Frames_row .nil pass0 (pa_cons (pv 0) pa_nil)) (pa_cons (pe_meth (pv 1) T.K_Frames T.t_Frames_within G_Frames_within hr T.b_Frames_within .nil pass0 (pa_cons (pv 0) pa_nil)) (pa_cons (pe_meth (pv 1) T.K_Frames T.t_Frames_ended_by G_Frames_ended_by hr T.b_Frames_ended_by .nil pass0 (pa_cons (pv 0) pa_nil)) pa_nil)))))⟩)) (pss_one (ps_ret (pe_callB (call_repr hgd hu1) (by rfl) T.z_repr Boot.«repr» (pa_cons (pe_lst (pa_cons (pe_meth0 (pv 0) T.K_Frames T.t_Frames_standing G_Frames_standing hr T.b_Frames_standing .nil pass0) (pa_cons (pv 1) (pa_cons (pv 2) pa_nil)))) pa_nil)))))), ?_⟩
    refine ⟨_, rfl, f, dx, _, rfl, ho, flds_no _ _ (by decide +kernel) (by decide +kernel), f, pa, ta, ps, ts, rfl, F, _, 1, rfl, rfl, ?_⟩
    dsimp only
    rw [show ((ps.length : Int) - 1 + 1) = (ps.length : Int) by omega]
    refine ⟨_, rfl, _, rfl, by omega, by omega, ?_⟩
    rw [Int.toNat_natCast]
    have hln : ((List.range ps.length).map fun (i : Nat) => V.int (0 + (i : Int))).length = ps.length := by rw [List.length_map, List.length_range]
    refine comp_new (fun i v N H' => ∃ l r u, v = .ref l ∧ N l ∧ N r ∧ N u ∧ H' l = some (.lst [oV (ps.getD i none), .ref r, .ref u, oV (ts.getD i none)]) ∧ H' r = some (.lst ((rowM ps i).map nV)) ∧ H' u = some (.lst ((withinM ps ts i).map nV))) (feeds_range 0 ps.length H).g ?_ ?_ ?_ ?_
    · rw [hln]
      omega
    · rintro i v N1 N2 H1 H2 hN hk ⟨l, r, u, rfl, n1, n2, n3, e1, e2, e3⟩
      exact ⟨l, r, u, rfl, hN _ n1, hN _ n2, hN _ n3, hk _ _ n1 e1, hk _ _ n2 e2, hk _ _ n3 e3⟩
    · intro i x H' C1 hi sm hx c1
      rw [hln] at hi
      rw [List.getElem?_map, List.getElem?_range hi] at hx
      obtain rfl : x = .int (i : Int) := by
        have hx : some (V.int (0 + (i : Int))) = some x := hx
        rw [Int.zero_add] at hx
        cases hx
        rfl
      have hxp : ps[i]? = some (ps.getD i none) := by rw [List.getD_eq_getElem?_getD]; simp [hi]
      have hxt : ts[i]? = some (ts.getD i none) := by rw [List.getD_eq_getElem?_getD]; simp [show i < ts.length by omega]
      have F' := F.same sm
      obtain ⟨⟨dx', ho'⟩, _⟩ := id F'
      refine ⟨(SubS.refl _).own (by decide), ⟨_, rfl, f, dx', _, rfl, ho', flds_no _ _ (by decide +kernel) (by decide +kernel), _, rfl, f, pa, ta, ps, ts, i, _, rfl, F', hxp, ?_⟩⟩
      refine ⟨_, rfl, f, dx', _, rfl, ho', flds_no _ _ (by decide +kernel) (by decide +kernel), _, rfl, f, pa, ta, ps, ts, i, rfl, F', W, hi, fun r H1 hr1 s1 e1 => ?_⟩
      have F1 := F'.same s1
      refine ⟨_, rfl, f, dx', _, rfl, s1 _ _ ho', flds_no _ _ (by decide +kernel) (by decide +kernel), _, rfl, f, pa, ta, ps, ts, i, rfl, F1, W, hi, fun u H2 hu2 s2 e2 => ?_⟩
      have F2 := F1.same s2
      refine ⟨_, rfl, f, dx', _, rfl, s2 _ _ (s1 _ _ ho'), flds_no _ _ (by decide +kernel) (by decide +kernel), _, rfl, f, pa, ta, ps, ts, i, _, rfl, F2, hl, hxt, (show 4 ≤ sizeLine by decide), fun l hl3 => ?_⟩
      have s3 := Same.upd (o := .lst [oV (ps.getD i none), .ref r, .ref u, oV (ts.getD i none)]) hl3
      exact c1 _ _ ((s1.trans s2).trans s3) ⟨l, r, u, rfl, (s1.trans s2).free hl3, hr1, s1.free hu2, upd_same, s3 _ _ (s2 _ _ e1), s3 _ _ e2⟩
    · intro p H1 ys hp1 s1 e1 hyl hE
      rw [hln] at hyl
      have F1 := F.same s1
      obtain ⟨⟨dx1, ho1⟩, _⟩ := id F1
      refine ⟨_, rfl, f, dx1, _, rfl, ho1, flds_no _ _ (by decide +kernel) (by decide +kernel), f, pa, ta, ps, ts, rfl, F1, by omega, fun sl H2 hsl s2 e2 => ⟨_, rfl, _, rfl, (show 3 ≤ sizeLine by decide), fun l hl3 => ?_⟩⟩
      have s3 := Same.upd (o := .lst [.ref sl, .int (ps.length : Int), .ref p]) hl3
      have hE3 : ∀ i v, ys[i]? = some v → Dat (upd H2 l (.lst [.ref sl, .int (ps.length : Int), .ref p])) v (rowD ps ts i) := fun i v e => by
        obtain ⟨l', r, u, rfl, n1, n2, n3, a1, a2, a3⟩ := hE i v e
        have s23 := s2.trans s3
        exact .lst (s23 _ _ a1) (.cons (dat_oV _ _) (.cons (dat_nV (s23 _ _ a2)) (.cons (dat_nV (s23 _ _ a3)) (.cons (dat_oV _ _) .nil))))
      have hD := datAll_of hE3
      rw [hyl] at hD
      have g := good_st W
      refine ⟨_, stD ps ts, rfl, .lst upd_same (.cons (dat_nV (s3 _ _ e2)) (.cons (.int _) (.cons (.lst (s3 _ _ (s2 _ _ e1)) hD) .nil))), g.sh, by have := g.dp; omega, by have := g.ln; omega, k _ ((s1.trans s2).trans s3)⟩
end
end My

namespace My
open PySem L2 PyProof.Rows
theorem TV.keptB {b : Addr} {k : Nat} {H H' : Hp} {v : V} (t : TV H v) (B : BoxAt H b k) (h : Kept b H H') : TV H' v := by
  obtain ⟨x, y, z, hb, _⟩ := B
  cases t with
  | non => exact .non
  | bl c => exact .bl c
  | int i h => exact .int i h
  | str x h => exact .str x h
  | lst e => exact .lst (h _ _ (ne_of e hb (by intro z; cases z)) e)
  | tup e => exact .tup (h _ _ (ne_of e hb (by intro z; cases z)) e)
  | dK e => exact .dK (h _ _ (ne_of e hb (by intro z; cases z)) e)
theorem cut_mem {xs : List V} {lo hi : Option Int} {x : V} (h : x ∈ cutV xs lo hi) : x ∈ xs := List.mem_of_mem_drop (List.mem_of_mem_take h)
theorem cut2_len (xs : List V) (n : Nat) (hn : n < 1000) : (cutV xs none (some (n : Int))).length ≤ n := by
  unfold cutV
  rw [List.length_take, List.length_drop]
  have e0 : HT.sIx xs.length 0 none = 0 := rfl
  have e1 : HT.sIx xs.length xs.length (some (n : Int)) ≤ n := by
    rw [HT.sIx_nat]
    exact Nat.min_le_left _ _
  omega
theorem tv_nat (H : Hp) {n : Nat} (h : n ≤ 1000) : TV H (.int (n : Int)) := .int _ (by rw [Int.natAbs_natCast]; exact Nat.lt_of_le_of_lt h (by decide +kernel))
def goneM (ts : List (Option Nat)) : List Nat := (List.range ts.length).filter fun i => !(ts[i]? == some none)
section
variable {P : Program} {w : World} {K : PySem.W.Frag} {mg : Str → Option Value} {base : Heap} {A : Adr}
def spThings : Sp := fun vs H Q _ => ∃ b d ha tk ps ts, ∃ k : Nat, vs = [.ref b, .ref d] ∧ BoxAt H b k ∧ k ≤ 1000 ∧ ModAt H d ha tk ps ts ∧ WF ps ts ∧ b ≠ ha ∧ b ≠ tk ∧
  ∀ l vs' H', H l = none → BoxAt H' b (k + 3) → Kept b H H' → H' l = some (.lst vs') → 3 ≤ vs'.length → (∀ x ∈ vs', TV H' x) → Q (.ref l) H'
theorem ok__law_things (T : Txt K mg A) : FnOk P w K mg base CX0 2 A.a__law_things A.d__law_things ["_law_box_here", "_law_model_here"] spThings := by
  have G__law_take : FnOk P w K mg base CX0 1 A.a__law_take A.d__law_take ["_law_box_here", "_law_many"] spTake := ok__law_take T
  refine T.F__law_things.okM sc__law_things (fun vs H Q E h => ?_) (fun cdv Ar outer s H vs Q E hr h => ?_)
  · obtain ⟨b, d, ha, tk, ps, ts, k, rfl, _⟩ := h
    rfl
  · obtain ⟨b, d, ha, tk, ps, ts, k, rfl, B, hk, M, W, bh, bt, q⟩ := h
    have hu := hu_of hr
    have hl := W.len
    have hle := W.le
    have hpos := W.pos
    have hL : sizeLine = 16777216 := by decide
    have h1L : (1 : Nat) ≤ sizeLine := by decide
    have h3L : (3 : Nat) ≤ sizeLine := by decide
    have h13L : (13 : Nat) ≤ sizeLine := by decide
    refine ⟨_, (pssm_cons ⟨(ps_set (i := 2) sc__law_things.nd rfl (Or.inl rfl) (pe_callB call_len_seq (by rfl) T.z_len Boot.«len» (pa_cons (pe_dget hu (pv 1) pe_str (fun _ _ => rfl)) pa_nil)))⟩ (pssm_cons (psm_set (i := 3) sc__law_things.nd rfl (Or.inl rfl) (pem_lst (pam_cons (fun _ _ => rfl) pe_non (pam_cons (fun _ _ => rfl) pe_bl (pam_cons (fun _ _ => rfl) pe_bl (pam_cons (fun _ _ => rfl) pe_str (pam_cons (fun _ _ => rfl) pe_str (pam_cons (fun _ _ => rfl) (pe_lst (pa_cons pe_int pa_nil)) (pam_cons (fun _ _ => rfl) (pe_tup (pa_cons pe_int pa_nil)) (pam_cons (fun _ _ => rfl) pe_dnewK (pam_cons (fun _ _ => rfl) (pe_un un_neg pe_int) (pam_cons (fun _ _ => rfl) (pv 2) (pam_cons (fun _ _ => rfl) (pe_op op_add (pv 2) pe_int) (pam_cons (fun _ _ => rfl) (pe_op op_pow pe_int pe_int) (pam_cons (fun _ _ => rfl) (pe_un un_neg (pv 2)) pam_nil)))))))))))))) (by kernel_rfl) (Or.inl rfl)) (pssm_cons ⟨(ps_setC (i := 4) sc__law_things.nd rfl (Or.inl rfl) (N := ["_law_k", "_law_model_here"]) (k := 1) (js := [1]) rfl (cscope_of (by kernel_rfl)) (pi_range1 rfl T.z_range (pa_cons (pv 2) pa_nil)) (fun _ _ _ _ _ => ⟨(pg_name (i := 0) (show (["_law_k", "_law_model_here"] : List Str).Nodup by decide +kernel) rfl (Or.inl rfl) (Or.inr rfl)), (pif1 (pt_cmpR op_notN (pe_ix (ix_listK (K := K) rfl) (pe_dget hu (pv 1) pe_str (fun _ _ => rfl)) (pv 0) (fun _ _ => rfl)) pe_non (nomark _))), (pv 0)⟩))⟩ (pssm_cons ⟨(ps_set (i := 5) sc__law_things.nd rfl (Or.inl rfl) (pe_call G__law_take hr rfl T.m__law_take T.F__law_take.kp T.b__law_take .nil pass0 (pa_cons (pv 0) (pa_cons pe_int pa_nil))))⟩ (pssm_one ⟨(ps_ret (pe_op op_cat (pe_op op_cat (pe_lst (pa_cons (pe_ix ix_list (pv 3) (pv 5) (fun _ _ => rfl)) (pa_cons (pe_ix ix_list (pv 3) (pe_op op_mod (pe_op op_add (pe_op op_add (pv 5) pe_int) (pe_call G__law_take hr rfl T.m__law_take T.F__law_take.kp T.b__law_take .nil pass0 (pa_cons (pv 0) (pa_cons pe_int pa_nil)))) pe_int) (fun _ _ => rfl)) (pa_cons pe_int pa_nil)))) (pe_slice sl_list (pe_slice sl_list (pv 4) (po_some (pe_call G__law_take hr rfl T.m__law_take T.F__law_take.kp T.b__law_take .nil pass0 (pa_cons (pv 0) (pa_cons (pv 2) pa_nil)))) po_none) po_none (po_some pe_int))) (pe_slice sl_list (pv 4) po_none (po_some pe_int))))⟩))))), ?_⟩
    refine ⟨_, rfl, d, _, rfl, M.getH, ha, _, rfl, .inl (SqL.of M.hl), ?_⟩
    rw [List.length_map]
    refine ⟨h1L, fun p1 h1 => ⟨h1L, fun p2 h2 => ?_⟩⟩
    intro p3 h3
    refine ⟨1, rfl, _, rfl, _, rfl, _, 1, rfl, rfl, 10, 29, rfl, rfl, ⟨by decide, by decide, by decide⟩, _, rfl, _, rfl, h13L, fun p4 h4 => ?_⟩
    have s1 := Same.upd (o := .lst [V.int 0]) h1
    have s2 := Same.upd (o := .tup [V.int 0]) h2
    have s3 := Same.upd (o := .dK []) h3
    have s4 := Same.upd (o := .lst [V.non, V.bl true, V.bl false, V.str (Str.ofString "0"), V.str (Str.ofString ""), V.ref p1, V.ref p2, V.ref p3, V.int (-1), V.int (ps.length : Int), V.int ((ps.length : Int) + 1), V.int (10 ^ (29 : Int).toNat), V.int (-(ps.length : Int))]) h4
    have s34 := s3.trans s4
    have s24 := s2.trans s34
    have sA : Same H _ := s1.trans s24
    have tv : ∀ x ∈ [V.non, V.bl true, V.bl false, V.str (Str.ofString "0"), V.str (Str.ofString ""), V.ref p1, V.ref p2, V.ref p3, V.int (-1), V.int (ps.length : Int), V.int ((ps.length : Int) + 1), V.int (10 ^ (29 : Int).toNat), V.int (-(ps.length : Int))],
        TV (upd (upd (upd (upd H p1 (.lst [V.int 0])) p2 (.tup [V.int 0])) p3 (.dK [])) p4 (.lst [V.non, V.bl true, V.bl false, V.str (Str.ofString "0"), V.str (Str.ofString ""), V.ref p1, V.ref p2, V.ref p3, V.int (-1), V.int (ps.length : Int), V.int ((ps.length : Int) + 1), V.int (10 ^ (29 : Int).toNat), V.int (-(ps.length : Int))])) x := by
      intro x hx
      simp only [List.mem_cons, List.not_mem_nil, or_false] at hx
      have big : (1000 : Nat) < 10 ^ 40 := by decide +kernel
      rcases hx with rfl | rfl | rfl | rfl | rfl | rfl | rfl | rfl | rfl | rfl | rfl | rfl | rfl
      · exact .non
      · exact .bl true
      · exact .bl false
      · exact .str _ (by simp only [PyData.shown]; decide +kernel)
      · exact .str _ (by simp only [PyData.shown]; decide +kernel)
      · exact .lst (s24 _ _ upd_same)
      · exact .tup (s34 _ _ upd_same)
      · exact .dK (s4 _ _ upd_same)
      · exact .int _ (by decide +kernel)
      · exact .int _ (by omega)
      · exact .int _ (by omega)
      · exact .int _ (by decide +kernel)
      · exact .int _ (by omega)
    have at4 : (upd (upd (upd (upd H p1 (.lst [V.int 0])) p2 (.tup [V.int 0])) p3 (.dK [])) p4 (.lst [V.non, V.bl true, V.bl false, V.str (Str.ofString "0"), V.str (Str.ofString ""), V.ref p1, V.ref p2, V.ref p3, V.int (-1), V.int (ps.length : Int), V.int ((ps.length : Int) + 1), V.int (10 ^ (29 : Int).toNat), V.int (-(ps.length : Int))])) p4 = some (.lst [V.non, V.bl true, V.bl false, V.str (Str.ofString "0"), V.str (Str.ofString ""), V.ref p1, V.ref p2, V.ref p3, V.int (-1), V.int (ps.length : Int), V.int ((ps.length : Int) + 1), V.int (10 ^ (29 : Int).toNat), V.int (-(ps.length : Int))]) := upd_same
    have pb4 : p4 ≠ b := (B.same (s1.trans (s2.trans s3))).ne h4
    have i13 : ([V.non, V.bl true, V.bl false, V.str (Str.ofString "0"), V.str (Str.ofString ""), V.ref p1, V.ref p2, V.ref p3, V.int (-1), V.int (ps.length : Int), V.int ((ps.length : Int) + 1), V.int (10 ^ (29 : Int).toNat), V.int (-(ps.length : Int))] : List V).length = 13 := rfl
    generalize hxs : ([V.non, V.bl true, V.bl false, V.str (Str.ofString "0"), V.str (Str.ofString ""), V.ref p1, V.ref p2, V.ref p3, V.int (-1), V.int (ps.length : Int), V.int ((ps.length : Int) + 1), V.int (10 ^ (29 : Int).toNat), V.int (-(ps.length : Int))] : List V) = xs at s4 s34 s24 sA tv at4 i13
    generalize (upd (upd (upd (upd H p1 (.lst [V.int 0])) p2 (.tup [V.int 0])) p3 (.dK [])) p4 (.lst xs)) = H4 at s4 s34 s24 sA tv at4
    clear s4 s34 s24 s1 s2 s3 h1 h2 h3 h4
    -- those that are gone
    refine ⟨_, rfl, _, rfl, by omega, by omega, ?_⟩
    rw [Int.toNat_natCast]
    have hln : ((List.range ps.length).map fun (i : Nat) => V.int (0 + (i : Int))).length = ps.length := by rw [List.length_map, List.length_range]
    refine comp_grow (fun i => !(ts[i]? == some none)) nV (feeds_range 0 ps.length H4).g ?_ ?_ fun pg H5 hpg s5 e5 => ?_
    · rw [hln]
      omega
    · intro i x H' C1 C0 hi sm hx c1 c0
      rw [hln] at hi
      rw [List.getElem?_map, List.getElem?_range hi] at hx
      obtain rfl : x = .int (i : Int) := by
        have hx : some (V.int (0 + (i : Int))) = some x := hx
        rw [Int.zero_add] at hx
        cases hx
        rfl
      have hit : i < ts.length := by omega
      have hxi : ts[i]? = some ts[i] := by simp [hit]
      have M' := (M.same sA).same sm
      rw [hxi] at c1 c0
      refine ⟨(SubS.refl _).own (by decide), _, rfl, d, _, rfl, M'.getT, _, rfl, tk, _, _, _, rfl, rfl, SqL.of M'.tl, at_map hxi, rfl, _, rfl, ?_⟩
      cases eo : ts[i] with
      | none =>
        rw [eo] at c0
        exact c0 rfl H' (Same.refl H')
      | some n =>
        rw [eo] at c1
        exact ⟨_, rfl, c1 rfl H' (Same.refl H')⟩
    rw [hln] at e5
    have gs : ∀ x ∈ ((List.range ps.length).filter fun i => !(ts[i]? == some none)).map nV, ∃ n : Nat, x = .int (n : Int) ∧ n ≤ 1000 := by
      intro x hx
      obtain ⟨n, hn, rfl⟩ := List.mem_map.mp hx
      have := List.mem_range.mp (List.mem_filter.mp hn).1
      exact ⟨n, rfl, by omega⟩
    generalize ((List.range ps.length).filter fun i => !(ts[i]? == some none)).map nV = gl at e5 gs
    have B5 := (B.same sA).same s5
    have pbg : pg ≠ b := (B.same sA).ne hpg
    have M5 := (M.same sA).same s5
    refine ⟨_, rfl, b, 13, k, rfl, B5, by omega, by decide, by decide, fun r1 H6 r10 r11 B6 O6 => ?_⟩
    have tv6 : ∀ x ∈ xs, TV H6 x := fun x hx => ((tv x hx).same s5).keptB B5 O6.kept
    have at6 := O6.kept _ _ pb4 (s5 _ _ at4)
    have eg6 := O6.kept _ _ pbg e5
    refine ⟨_, rfl, _, rfl, ?_⟩
    refine ix_any (fun y => y ∈ xs) at6 r10 (by rw [i13]; exact r11) (fun x hx => hx) fun y1 hy1 => ?_
    refine ⟨_, rfl, _, rfl, _, 1, rfl, rfl, _, rfl, b, 12, k + 1, rfl, B6, by omega, by decide, by decide, fun r2 H7 r20 r21 B7 O7 => ⟨_, r2, rfl, rfl, _, 13, rfl, rfl, (show (0 : Int) < 13 by decide), ?_⟩⟩
    have tv7 : ∀ x ∈ xs, TV H7 x := fun x hx => (tv6 x hx).keptB B6 O7.kept
    have at7 := O7.kept _ _ pb4 at6
    have eg7 := O7.kept _ _ pbg eg6
    refine ix_any (fun y => y ∈ xs) at7 (Int.emod_nonneg _ (by decide)) (by rw [i13]; exact Int.emod_lt_of_pos _ (by decide)) (fun x hx => hx) fun y2 hy2 => ?_
    refine ⟨h3L, fun p5 h5 => ?_⟩
    have s8 := Same.upd (o := .lst [y1, y2, V.int 0]) h5
    have pb5 : p5 ≠ b := B7.ne h5
    have B8 := B7.same s8
    refine ⟨_, rfl, _, rfl, _, rfl, b, _, k + 2, rfl, B8, by omega, by omega, by omega, fun r3 H9 r30 r31 B9 O9 => ⟨_, rfl, ?_⟩⟩
    have eg9 := O9.kept _ _ pbg (s8 _ _ eg7)
    have at9 := O9.kept _ _ pb5 (upd_same (H := H7) (a := p5) (o := .lst [y1, y2, V.int 0]))
    have tv9 : ∀ x ∈ xs, TV H9 x := fun x hx => ((tv7 x hx).same s8).keptB B8 O9.kept
    refine ⟨pg, gl, rfl, SqL.of eg9, fun p6 h6 => ?_⟩
    have s10 := Same.upd (o := .lst (cutV gl (some r3) none)) h6
    refine ⟨2, rfl, p6, _, rfl, SqL.of upd_same, fun p7 h7 => ?_⟩
    have s11 := Same.upd (o := .lst (cutV (cutV gl (some r3) none) none (some 2))) h7
    refine ⟨p5, p7, _, _, rfl, rfl, s11 _ _ (s10 _ _ at9), upd_same, ?_, fun p8 h8 => ?_⟩
    · have := cut2_len (cutV gl (some r3) none) 2 (by decide)
      show 3 + (cutV (cutV gl (some r3) none) none (some 2)).length ≤ sizeLine
      have this : (cutV (cutV gl (some r3) none) none (some 2)).length ≤ 2 := this
      omega
    have s12 := Same.upd (o := .lst ([y1, y2, V.int 0] ++ cutV (cutV gl (some r3) none) none (some 2))) h8
    refine ⟨_, rfl, 1, rfl, pg, gl, rfl, SqL.of (s12 _ _ (s11 _ _ (s10 _ _ eg9))), fun p9 h9 => ?_⟩
    have s13 := Same.upd (o := .lst (cutV gl none (some 1))) h9
    refine ⟨p8, p9, _, _, rfl, rfl, s13 _ _ upd_same, upd_same, ?_, fun p10 h10 => ?_⟩
    · have a1 : (cutV (cutV gl (some r3) none) none (some 2)).length ≤ 2 := cut2_len _ 2 (by decide)
      have a2 : (cutV gl none (some 1)).length ≤ 1 := cut2_len _ 1 (by decide)
      rw [List.length_append]
      show 3 + _ + _ ≤ sizeLine
      omega
    have s14 := Same.upd (o := .lst (([y1, y2, V.int 0] ++ cutV (cutV gl (some r3) none) none (some 2)) ++ cutV gl none (some 1))) h10
    have s9e := (((s10.trans s11).trans s12).trans s13).trans s14
    have kA : Kept b H H9 := ((((sA.trans s5).kept.trans O6.kept).trans O7.kept).trans s8.kept).trans O9.kept
    have kE : Kept b H _ := kA.trans s9e.kept
    refine q p10 _ _ ?_ (B9.same s9e) kE upd_same ?_ ?_
    · have z9 : H9 p10 = none := (((s10.trans s11).trans s12).trans s13).free h10
      cases q0 : H p10 with
      | none => rfl
      | some o =>
        by_cases hb : p10 = b
        · rw [hb] at z9
          obtain ⟨x, y, z, hbx, _⟩ := B9
          rw [hbx] at z9
          cases z9
        · rw [kA _ _ hb q0] at z9
          cases z9
    · rw [List.length_append, List.length_append]
      show 3 ≤ 3 + _ + _
      omega
    · intro x hx
      have gt : ∀ y ∈ gl, TV (upd (upd (upd (upd (upd H9 p6 (.lst (cutV gl (some r3) none))) p7 (.lst (cutV (cutV gl (some r3) none) none (some 2)))) p8 (.lst ([y1, y2, V.int 0] ++ cutV (cutV gl (some r3) none) none (some 2)))) p9 (.lst (cutV gl none (some 1)))) p10 (.lst (([y1, y2, V.int 0] ++ cutV (cutV gl (some r3) none) none (some 2)) ++ cutV gl none (some 1)))) y := fun y hy => by
        obtain ⟨n, rfl, hn⟩ := gs y hy
        exact tv_nat _ hn
      rcases List.mem_append.mp hx with hx | hx
      · rcases List.mem_append.mp hx with hx | hx
        · simp only [List.mem_cons, List.not_mem_nil, or_false] at hx
          rcases hx with rfl | rfl | rfl
          · exact (tv9 _ hy1).same s9e
          · exact (tv9 _ hy2).same s9e
          · exact tv_nat (n := 0) _ (by decide)
        · exact gt x (cut_mem (cut_mem hx))
      · exact gt x (cut_mem hx)
end
end My

namespace My
open PySem L2 PyProof.Rows
open PySem.SeqAt in
theorem two_shaped (a b : Option Nat) : shaped (.list [oD a, oD b]) = true := by
  unfold shaped
  rw [Bool.and_eq_true, decide_eq_true_iff]
  cases a <;> cases b <;> simp [oD, PyData.canLay0, PyData.canLayAll0, PyData.depth, PyData.depthAll]
open PySem.SeqAt in
theorem two_mix (a b : Option Nat) : noMix (.list [oD a, oD b]) (.list [oD a, oD b]) = true := by
  cases a <;> cases b <;> simp [oD, noMix, noMixAll]
theorem ints_nV (S : List Nat) : S.map nV = (S.map fun n : Nat => (n : Int)).map V.int := by
  rw [List.map_map]
  rfl
def goesR (C b f pa ta d ha tk : Addr) : TS := fun D σ H => ∃ (i : Int) (x4 x5 : Option V) (ps ts : List (Option Nat)), σ = [some (.ref b), some (.ref f), some (.ref d), some (.int i), x4, x5] ∧ WF ps ts ∧ ts[0]? = some none ∧ FrAt C H f pa ta ps ts ∧ ModAt H d ha tk ps ts ∧ pa ≠ ha ∧ pa ≠ tk ∧ ta ≠ ha ∧ ta ≠ tk ∧
  ∀ y4 ps' ts' H', WF ps' ts' → ts'[0]? = some none → FrAt C H' f pa ta ps' ts' → ModAt H' d ha tk ps' ts' → Kept4 pa ta ha tk H H' → D.nx [some (.ref b), some (.ref f), some (.ref d), some (.int i), y4, x5] H'
theorem stand_zero {ts : List (Option Nat)} (g0 : ts[0]? = some none) : standM ts ≠ [] := fun z => by
  have : 0 ∈ standM ts := stand_iff.mpr (by show standB ts ((0 : Nat) : Int) = true; unfold standB; rw [Int.toNat_natCast, g0]; rfl)
  rw [z] at this
  cases this
section
variable {P : Program} {w : World} {K : PySem.W.Frag} {mg : Str → Option Value} {base : Heap} {A : Adr}
def spGoes (C : Addr) : Sp := fun vs H Q _ => ∃ b f pa ta d ha tk ps ts, ∃ k : Nat, vs = [.ref b, .ref f, .ref d] ∧ BoxAt H b k ∧ k ≤ 1000 ∧ FrAt C H f pa ta ps ts ∧ ModAt H d ha tk ps ts ∧ WF ps ts ∧ ts[0]? = some none ∧ Sep b pa ta ha tk ∧
  ∀ H', KeptD b pa ta ha tk H H' → Q (.bl true) H'
theorem ok__law_goes_on (T : Txt K mg A) : FnOk P w K mg base CX0 8 A.a__law_goes_on A.d__law_goes_on ["_law_box_here", "_law_frames", "_law_model_here"] (spGoes A.a_Frames) := by
  have G__law_one : FnOk P w K mg base CX0 7 A.a__law_one A.d__law_one ["_law_box_here", "_law_some"] spOne := (ok__law_one T).mono (by decide)
  have G__law_standing : FnOk P w K mg base CX0 7 A.a__law_standing A.d__law_standing ["_law_model_here"] spLStanding := (ok__law_standing T).mono (by decide)
  have G__law_finish : FnOk P w K mg base CX0 7 A.a__law_finish A.d__law_finish ["_law_model_here", "_law_frame"] spLFinish := (ok__law_finish T).mono (by decide)
  have G__law_begin : FnOk P w K mg base CX0 7 A.a__law_begin A.d__law_begin ["_law_model_here", "_law_frame"] spLBegin := (ok__law_begin T).mono (by decide)
  have G_Frames_finish : FnOk P w K mg base CX0 7 A.a_Frames_finish A.d_Frames_finish ["self", "frame"] (spFinish A.a_Frames) := ok_Frames_finish T
  have G_Frames_begin : FnOk P w K mg base CX0 7 A.a_Frames_begin A.d_Frames_begin ["self", "frame"] (spBegin A.a_Frames) := ok_Frames_begin T
  have G_Frames_inside : FnOk P w K mg base CX0 7 A.a_Frames_inside A.d_Frames_inside ["self", "frame"] (spInside A.a_Frames) := (ok_Frames_inside T).mono (by decide)
  have G_Frames_ended_by : FnOk P w K mg base CX0 7 A.a_Frames_ended_by A.d_Frames_ended_by ["self", "frame"] (spBy A.a_Frames) := (ok_Frames_ended_by T).mono (by decide)
  have G_Frames_begun : FnOk P w K mg base CX0 7 A.a_Frames_begun A.d_Frames_begun ["self"] (spBegun A.a_Frames) := (ok_Frames_begun T).mono (by decide)
  refine T.F__law_goes_on.ok sc__law_goes_on (fun vs H Q E h => ?_) (fun cdv Ar outer s H vs Q E hr h => ?_)
  · obtain ⟨b, f, pa, ta, d, ha, tk, ps, ts, k, rfl, _⟩ := h
    rfl
  · obtain ⟨b, f, pa, ta, d, ha, tk, ps, ts, k, rfl, B, hk, F, M, W, g0, S, q⟩ := h
    have hu := hu_of hr
    have hu1 : _ + 100 < cLine := Nat.lt_of_le_of_lt (Nat.add_le_add_left (by decide : 100 ≤ 16 * 7 + 200) _) (by have := hr.un; omega)
    have h2L : (2 : Nat) ≤ sizeLine := by decide
    refine ⟨_, (pss_cons (ps_for PassesOwn.never rfl (pi_range1 rfl T.z_range (pa_cons pe_int pa_nil)) (pg_name (i := 3) sc__law_goes_on.nd rfl (Or.inl rfl) (Or.inl rfl)) (pss_cons (ps_set (i := 4) sc__law_goes_on.nd rfl (Or.inl rfl) (pe_call G__law_one hr rfl T.m__law_one T.F__law_one.kp T.b__law_one .nil pass0 (pa_cons (pv 0) (pa_cons (pe_call G__law_standing hr rfl T.m__law_standing T.F__law_standing.kp T.b__law_standing .nil pass0 (pa_cons (pv 2) pa_nil)) pa_nil)))) (pss_cons (ps_if (PW.pt (pw_and (pt_cmpR op_le (pe_callB call_len_seq (by rfl) T.z_len Boot.«len» (pa_cons (pe_dget hu (pv 2) pe_str (fun _ _ => rfl)) pa_nil)) pe_int (nomark _)) (pw_and1 (pt_cmpR op_ne (pe_meth (pv 1) T.K_Frames T.t_Frames_begin G_Frames_begin hr T.b_Frames_begin .nil pass0 (pa_cons (pv 4) pa_nil)) (pe_call G__law_begin hr rfl T.m__law_begin T.F__law_begin.kp T.b__law_begin .nil pass0 (pa_cons (pv 2) (pa_cons (pv 4) pa_nil))) (nomark _))))) (pss_one (ps_ret pe_bl)) pss_nil) (pss_imp (goesR A.a_Frames b f pa ta d ha tk) (pss_cons (ps_set (i := 4) sc__law_goes_on.nd rfl (Or.inl rfl) (pe_ix ix_list (pe_call G__law_standing hr rfl T.m__law_standing T.F__law_standing.kp T.b__law_standing .nil pass0 (pa_cons (pv 2) pa_nil)) (pe_un un_neg pe_int) (fun _ _ => rfl))) (pss_one (ps_if (PW.pt (pw_and (pt_cmpR op_gt (pv 3) pe_int (nomark _)) (pw_and (pt_cmpR op_gt (pv 4) pe_int (nomark _)) (pw_and1 (pt_cmpR (op_ne_ints hu1) (pe_meth (pv 1) T.K_Frames T.t_Frames_finish G_Frames_finish hr T.b_Frames_finish .nil pass0 (pa_cons (pv 4) pa_nil)) (pe_call G__law_finish hr rfl T.m__law_finish T.F__law_finish.kp T.b__law_finish .nil pass0 (pa_cons (pv 2) (pa_cons (pv 4) pa_nil))) (nomark _)))))) (pss_one (ps_ret pe_bl)) pss_nil))) ?cut2)))) (pss_cons (ps_for PassesOwn.never rfl (pi_range1 rfl T.z_range (pa_cons (pe_callB call_len_seq (by rfl) T.z_len Boot.«len» (pa_cons (pe_dget hu (pv 2) pe_str (fun _ _ => rfl)) pa_nil)) pa_nil)) (pg_name (i := 5) sc__law_goes_on.nd rfl (Or.inl rfl) (Or.inl rfl)) (pss_one (ps_if (pt_cmpR (op_ne_dat hu1) (pe_lst (pa_cons (pe_meth (pv 1) T.K_Frames T.t_Frames_inside G_Frames_inside hr T.b_Frames_inside .nil pass0 (pa_cons (pv 5) pa_nil)) (pa_cons (pe_meth (pv 1) T.K_Frames T.t_Frames_ended_by G_Frames_ended_by hr T.b_Frames_ended_by .nil pass0 (pa_cons (pv 5) pa_nil)) pa_nil))) (pe_lst (pa_cons (pe_ix ix_list (pe_dget hu (pv 2) pe_str (fun _ _ => rfl)) (pv 5) (fun _ _ => rfl)) (pa_cons (pe_ix ix_list (pe_dget hu (pv 2) pe_str (fun _ _ => rfl)) (pv 5) (fun _ _ => rfl)) pa_nil))) (nomark _)) (pss_one (ps_ret pe_bl)) pss_nil))) (pss_one (ps_ret (pe_cmpR op_eq (pe_meth0 (pv 1) T.K_Frames T.t_Frames_begun G_Frames_begun hr T.b_Frames_begun .nil pass0) (pe_op op_sub (pe_callB call_len_seq (by rfl) T.z_len Boot.«len» (pa_cons (pe_dget hu (pv 2) pe_str (fun _ _ => rfl)) pa_nil)) pe_int) (nomark _)))))), ?_⟩
    rotate_left
    case cut2 =>
      rintro D σ H0 ⟨i, x4, x5, ps, ts, rfl, W, g0, F, M, ph, pk, th, tt, k⟩
      have hl := W.len
      have hle := W.le
      refine ⟨_, rfl, d, ha, tk, ps, ts, rfl, M, by omega, fun sl H1 hsl s1 hs1 => ⟨1, rfl, ?_⟩⟩
      obtain ⟨ini, n, en⟩ : ∃ ini n, standM ts = ini ++ [n] := ⟨_, _, (List.dropLast_concat_getLast (stand_zero g0)).symm⟩
      have hn : n ∈ standM ts := by rw [en]; simp
      have ea : atI ((standM ts).map nV) (-1) = some (nV n) := by rw [en, List.map_append]; exact atI_last _ _
      refine ⟨sl, _, -1, nV n, rfl, rfl, SqL.of hs1, ea, ?_⟩
      have F1 := F.same s1
      have M1 := M.same s1
      obtain ⟨⟨dx, ho⟩, hp, ht, ne⟩ := id F1
      have hsn := stand_iff.mp hn
      have hnl : n < ps.length := by have := stand_lt hn; omega
      refine ⟨_, rfl, i, 1, rfl, rfl, _, rfl, ?_⟩
      refine ite2 (fun _ => ?_) (fun _ => k _ ps ts H1 W g0 F1 M1 fun c o _ _ _ _ e => s1 c o e)
      refine ⟨_, rfl, _, 0, rfl, rfl, _, rfl, ?_⟩
      by_cases h0 : (0 : Int) < (n : Int)
      · rw [decide_eq_true h0]
        refine iteT ?_
        refine ⟨_, rfl, f, dx, _, rfl, ho, flds_no _ _ (by decide +kernel) (by decide +kernel), _, rfl, f, pa, ta, ps, ts, n, rfl, F1, W, hsn, by omega, fun l H4 hl4 hL F4 K4 => ?_⟩
        have M4 : ModAt H4 d ha tk ps ts := M1.kept fun c o hc e => K4 c o (by rcases hc with rfl | rfl | rfl; exact M1.apartL hp; exact ph.symm; exact pk.symm) (by rcases hc with rfl | rfl | rfl; exact M1.apartL ht; exact th.symm; exact tt.symm) e
        refine ⟨_, rfl, _, rfl, d, ha, tk, ps, ts, n, rfl, M4, W, fun l2 H5 hl5 hL2 M5 K5 => ?_⟩
        have F5 : FrAt A.a_Frames H5 f pa ta ps (setM n (finM ps ts n) ts) := F4.kept fun c o hc e => K5 c o (by rcases hc with rfl | rfl | rfl; exact F4.apart M4.hl; exact ph; exact th) (by rcases hc with rfl | rfl | rfl; exact F4.apart M4.tl; exact pk; exact tt) e
        have hL5 : H5 l = some (.lst ((finM ps ts n).map nV)) := K5 _ _ ((ne_of_none M1.hl hl4).symm) ((ne_of_none M1.tl hl4).symm) hL
        refine ⟨l, l2, (finM ps ts n).map fun n : Nat => (n : Int), (finM ps ts n).map fun n : Nat => (n : Int), rfl, rfl, by rw [← ints_nV]; exact hL5, by rw [← ints_nV]; exact hL2, _, rfl, ?_⟩
        rw [decide_eq_true rfl]
        refine iteF (k _ _ _ H5 (W.ended hnl (finM ps ts n)) ?_ F5 M5 fun c o h1 h2 h3 h4 e => K5 c o h3 h4 (K4 c o h1 h2 (s1 c o e)))
        rcases setM_get n (finM ps ts n) ts 0 with h | ⟨h, _⟩
        · rw [h]; exact g0
        · exact absurd h (fin_zero W (by omega))
      · rw [decide_eq_false h0]
        exact iteF (k _ ps ts H1 W g0 F1 M1 fun c o _ _ _ _ e => s1 c o e)
    refine ⟨4, rfl, by decide, by decide, ?_⟩
    refine for_range (lo := 0) (n := 4) (fun i σ H' => ∃ (x3 x4 x5 : Option V) (ps' ts' : List (Option Nat)), σ = [some (.ref b), some (.ref f), some (.ref d), x3, x4, x5] ∧ WF ps' ts' ∧ ts'[0]? = some none ∧ FrAt A.a_Frames H' f pa ta ps' ts' ∧ ModAt H' d ha tk ps' ts' ∧ BoxAt H' b (k + 2 * i) ∧ KeptD b pa ta ha tk H H') ⟨_, _, _, ps, ts, rfl, W, g0, F, M, B, fun c o _ _ _ _ _ e => e⟩ ?_ ?_
    · rintro i σ H0 hi ⟨x3, x4, x5, ps, ts, rfl, W, g0, F, M, B, K0⟩
      have hl := W.len
      have hle := W.le
      refine ⟨_, rfl, _, rfl, d, ha, tk, ps, ts, rfl, M, by omega, fun sl H2 hsl s2 hs2 => ?_⟩
      have B2 := B.same s2
      have hslen : (standM ts).length ≤ 1000 := Nat.le_trans (stand_len W) (by decide)
      refine ⟨b, sl, k + 2 * i, standM ts, rfl, B2, by omega, hs2, B.ne hsl, stand_zero g0, hslen, fun n H3 hn B3 K3 => ?_⟩
      have F2 := F.same s2
      have M2 := M.same s2
      obtain ⟨bx2, hbx2⟩ := B2.lst
      have F3 : FrAt A.a_Frames H3 f pa ta ps ts := F2.kept fun c o hc e => K3 c o (by rcases hc with rfl | rfl | rfl; exact F2.apart hbx2; exact S.bp.symm; exact S.bt.symm) e
      have M3 : ModAt H3 d ha tk ps ts := M2.kept fun c o hc e => K3 c o (by rcases hc with rfl | rfl | rfl; exact M2.apartL hbx2; exact S.bh.symm; exact S.bk.symm) e
      have KD3 : KeptD b pa ta ha tk H H3 := fun c o h1 h2 h3 h4 h5 e => K3 c o h1 (s2 c o (K0 c o h1 h2 h3 h4 h5 e))
      have hsn := stand_iff.mp hn
      have hnl : n < ps.length := by have := stand_lt hn; omega
      obtain ⟨⟨dx, ho⟩, hp, ht, ne⟩ := id F3
      have on : ∀ (ps' ts' : List (Option Nat)) (H5 : Hp), WF ps' ts' → ts'[0]? = some none → FrAt A.a_Frames H5 f pa ta ps' ts' → ModAt H5 d ha tk ps' ts' → BoxAt H5 b (k + 2 * i + 2) → KeptD b pa ta ha tk H H5 → ∀ (y4 : Option V) (ps'' ts'' : List (Option Nat)) (H' : Hp), WF ps'' ts'' → ts''[0]? = some none → FrAt A.a_Frames H' f pa ta ps'' ts'' → ModAt H' d ha tk ps'' ts'' → Kept4 pa ta ha tk H5 H' →
          ∃ (x3 x4 x5' : Option V) (ps' ts' : List (Option Nat)), ([some (.ref b), some (.ref f), some (.ref d), some (.int (0 + (i : Int))), y4, x5] : L2.St) = [some (.ref b), some (.ref f), some (.ref d), x3, x4, x5'] ∧ WF ps' ts' ∧ ts'[0]? = some none ∧ FrAt A.a_Frames H' f pa ta ps' ts' ∧ ModAt H' d ha tk ps' ts' ∧ BoxAt H' b (k + 2 * (i + 1)) ∧ KeptD b pa ta ha tk H H' :=
        fun ps' ts' H5 W5 g5 F5 M5 B5 K5 y4 ps'' ts'' H' W' g' F' M' K' => ⟨_, _, _, ps'', ts'', rfl, W', g', F', M', (B5.kept fun o e => K' b o S.bp S.bt S.bh S.bk e).mono (by omega), fun c o h1 h2 h3 h4 h5 e => K' c o h2 h3 h4 h5 (K5 c o h1 h2 h3 h4 h5 e)⟩
      refine ⟨_, rfl, d, _, rfl, M3.getH, ha, _, rfl, .inl (SqL.of M3.hl), _, 100, rfl, rfl, _, rfl, ?_⟩
      rw [List.length_map]
      by_cases h100 : (ps.length : Int) ≤ 100
      · rw [decide_eq_true h100]
        refine iteT ?_
        refine ⟨_, rfl, f, dx, _, rfl, ho, flds_no _ _ (by decide +kernel) (by decide +kernel), _, rfl, f, pa, ta, ps, ts, n, rfl, F3, hl, hsn, by omega, fun H4 F4 K4 => ?_⟩
        have M4 : ModAt H4 d ha tk ps ts := M3.kept fun c o hc e => K4 c o (by rcases hc with rfl | rfl | rfl; exact M3.apartL hp; exact S.ph.symm; exact S.pk.symm) (by rcases hc with rfl | rfl | rfl; exact M3.apartL ht; exact S.th.symm; exact S.tk.symm) e
        have B4 : BoxAt H4 b (k + 2 * i + 2) := B3.kept fun o e => K4 b o S.bp S.bt e
        refine ⟨_, rfl, _, rfl, d, ha, tk, ps, ts, n, rfl, M4, by omega, by omega, fun H5 M5 K5 => ?_⟩
        have F5 : FrAt A.a_Frames H5 f pa ta (ps ++ [some n]) (ts ++ [none]) := F4.kept fun c o hc e => K5 c o (by rcases hc with rfl | rfl | rfl; exact F4.apart M4.hl; exact S.ph; exact S.th) (by rcases hc with rfl | rfl | rfl; exact F4.apart M4.tl; exact S.pk; exact S.tk) e
        have g5 : (ts ++ [none])[0]? = some none := by
          rw [List.getElem?_append_left (by have := W.pos; omega)]
          exact g0
        have W5 := W.begun hnl (show ps.length ≤ 100 by omega)
        refine ⟨rfl, _, rfl, ?_⟩
        rw [decide_eq_true rfl]
        refine iteF ⟨_, _, _, _, _, rfl, W5, g5, F5, M5, S.ph, S.pk, S.th, S.tk, ?_⟩
        exact on _ _ H5 W5 g5 F5 M5 (B4.kept fun o e => K5 b o S.bh S.bk e) fun c o h1 h2 h3 h4 h5 e => K5 c o h4 h5 (K4 c o h2 h3 (KD3 c o h1 h2 h3 h4 h5 e))
      · rw [decide_eq_false h100]
        refine iteF ⟨_, _, _, _, _, rfl, W, g0, F3, M3, S.ph, S.pk, S.th, S.tk, ?_⟩
        exact on _ _ H3 W g0 F3 M3 B3 KD3
    · rintro σ H1 ⟨x3, x4, x5, ps, ts, rfl, W, g0, F, M, B, K1⟩
      have hl := W.len
      have hle := W.le
      refine ⟨_, rfl, d, _, rfl, M.getH, ha, _, rfl, .inl (SqL.of M.hl), _, rfl, ?_, ?_, ?_⟩
      · omega
      · rw [List.length_map]
        omega
      rw [List.length_map, Int.toNat_natCast]
      refine for_range (lo := 0) (n := ps.length) (fun i σ H' => ∃ (y5 : Option V), σ = [some (.ref b), some (.ref f), some (.ref d), x3, x4, y5] ∧ Same H1 H') ⟨_, rfl, Same.refl _⟩ ?_ ?_
      · rintro i σ H2 hi ⟨y5, rfl, s2⟩
        rw [show (0 + (i : Int)) = (i : Int) from Int.zero_add _]
        have hxp : ps[i]? = some (ps.getD i none) := by rw [List.getD_eq_getElem?_getD]; simp [hi]
        have hxt : ts[i]? = some (ts.getD i none) := by rw [List.getD_eq_getElem?_getD]; simp [show i < ts.length by omega]
        have F2 := F.same s2
        have M2 := M.same s2
        obtain ⟨⟨dx, ho⟩, hp, ht, ne⟩ := id F2
        refine ⟨_, rfl, f, dx, _, rfl, ho, flds_no _ _ (by decide +kernel) (by decide +kernel), _, rfl, f, pa, ta, ps, ts, i, _, rfl, F2, hxp, ?_⟩
        refine ⟨_, rfl, f, dx, _, rfl, ho, flds_no _ _ (by decide +kernel) (by decide +kernel), _, rfl, f, pa, ta, ps, ts, i, _, rfl, F2, hl, hxt, h2L, fun l1 hl1 => ?_⟩
        have s3 := Same.upd (o := .lst [oV (ps.getD i none), oV (ts.getD i none)]) hl1
        have M3 := M2.same s3
        refine ⟨_, rfl, d, _, rfl, M3.getH, _, rfl, ha, _, _, _, rfl, rfl, SqL.of M3.hl, at_map hxp, _, rfl, d, _, rfl, M3.getT, _, rfl, tk, _, _, _, rfl, rfl, SqL.of M3.tl, at_map hxt, h2L, fun l2 hl2 => ?_⟩
        have s4 := Same.upd (o := .lst [oV (ps.getD i none), oV (ts.getD i none)]) hl2
        refine ⟨.list [oD (ps.getD i none), oD (ts.getD i none)], .list [oD (ps.getD i none), oD (ts.getD i none)], .lst (s4 _ _ upd_same) (.cons (dat_oV _ _) (.cons (dat_oV _ _) .nil)), .lst upd_same (.cons (dat_oV _ _) (.cons (dat_oV _ _) .nil)), two_shaped _ _, two_shaped _ _, two_mix _ _, _, rfl, ?_⟩
        rw [PySem.Spec.same_self]
        exact iteF ⟨_, rfl, (s2.trans s3).trans s4⟩
      · rintro σ H2 ⟨y5, rfl, s2⟩
        have F2 := F.same s2
        have M2 := M.same s2
        obtain ⟨⟨dx, ho⟩, hp, ht, ne⟩ := id F2
        refine ⟨_, rfl, f, dx, _, rfl, ho, flds_no _ _ (by decide +kernel) (by decide +kernel), f, pa, ta, ps, ts, rfl, F2, _, rfl, d, _, rfl, M2.getH, ha, _, rfl, .inl (SqL.of M2.hl), _, 1, rfl, rfl, rfl, ?_⟩
        rw [List.length_map, decide_eq_true rfl]
        exact q H2 fun c o h1 h2 h3 h4 h5 e => s2 c o (K1 c o h1 h2 h3 h4 h5 e)
end
end My

namespace My
open PySem L2 PyProof.Rows
theorem wf0 : WF [none] [none] := ⟨rfl, by decide, by decide, rfl, fun i h0 hi => by simp at hi; omega, fun i j e => by cases i <;> simp at e⟩
/-! ### what is due, shown -/
theorem due_form {way : Nat} {ps ts : List (Option Nat)} {v : V} {r : Rf} (W : WF ps ts) (h : dueO way ps ts v = some r) :
    r = .frame v ∨ (∃ t j : Nat, r = .gone (.int t) (.int j) ∧ t ≤ 1000 ∧ j ≤ 1000) ∨ r = .ground ∨ r = .many := by
  have hl := W.len
  have hle := W.le
  cases hb : begV ps v with
  | false =>
    rw [due_out hb] at h
    cases h
    exact .inl rfl
  | true =>
    obtain ⟨t, rfl, htl⟩ := begV_nat hb
    have hts : t < ts.length := by omega
    have hx : ts[t]? = some ts[t] := by simp [hts]
    by_cases hw : 1 < way
    · rw [due_high hb hw] at h
      cases h
    · cases ej : ts[t] with
      | some j =>
        rw [ej] at hx
        rw [due_gone hb hx (by omega)] at h
        cases h
        have := W.tk t j hx
        exact .inr (.inl ⟨t, j, rfl, by omega, by omega⟩)
      | none =>
        rw [ej] at hx
        by_cases h0 : way = 0
        · subst h0
          rw [due_begin hb hx] at h
          split at h
          · cases h
            exact .inr (.inr (.inr rfl))
          · cases h
        · have h1 : way = 1 := by omega
          subst h1
          rw [due_finish hb hx] at h
          split at h
          · cases h
            exact .inr (.inr (.inl rfl))
          · cases h
theorem good_str {x : Str} (h : (PyData.str x).shown.length ≤ 100) : Good 100 1 (.str x) := by
  refine ⟨?_, ?_, h⟩
  · simp only [PyData.showable]
  · simp [PyData.depth]
theorem good_big {i : Int} (h : i.natAbs < 10 ^ 40) : Good 100 1 (.int i) := by
  refine ⟨?_, ?_, ?_⟩
  · simp only [PyData.showable]
    refine decide_eq_true ?_
    by_cases h0 : i.natAbs = 0
    · rw [h0]
      decide
    · refine (Nat.log2_lt h0).mpr (Nat.lt_trans h ?_)
      decide +kernel
  · simp [PyData.depth]
  · simp only [PyData.shown]
    rw [PySem.ofString_length]
    exact Nat.le_trans (PySem.int_text_length_le10 (k := 40) (by decide) h) (by decide)
theorem good_none : Good 100 1 .none := (good_oD (o := none) (fun _ z => nomatch z)).mono (by decide) (by decide)
theorem good_bool (b : Bool) : Good 100 1 (.bool b) := by
  refine ⟨?_, ?_, ?_⟩
  · simp only [PyData.showable]
  · simp [PyData.depth]
  · simp only [PyData.shown]
    cases b <;> decide +kernel
theorem good_dict : Good 100 1 (.dict []) := by
  refine ⟨?_, ?_, ?_⟩
  · first | rfl | simp [PyData.showable, PyData.showablePairs] | decide +kernel
  · first | (simp [PyData.depth]; done) | (simp [PyData.depth, PyData.depthPairs]; done) | decide +kernel
  · first | (simp only [PyData.shown]; decide +kernel) | (simp only [PyData.shown, PyData.shownPairs]; decide +kernel) | decide +kernel
theorem good_tuple1 {d : PyData} (h : Good 100 1 d) : Good 300 2 (.tuple [d]) := by
  obtain ⟨h1, h2, h3, h4⟩ := good_all (B := 100) (k := 1) (ds := [d]) (fun x hx => by simp at hx; rw [hx]; exact h)
  refine ⟨?_, ?_, ?_⟩
  · simp only [PyData.showable, h1]
  · simp only [PyData.depth]
    omega
  · simp only [PyData.shown]
    have := tupleText_len_le (PyData.shownAll [d])
    rw [h4] at this
    simp only [List.length_cons, List.length_nil] at this h3
    omega
theorem good_two {x : Str} {d : PyData} (hx : (PyData.str x).shown.length ≤ 100) (h : Good 400 3 d) : Good 900 4 (.list [.str x, d]) := by
  refine (Good.list (B := 400) (k := 3) (ds := [.str x, d]) fun e he => ?_).mono (by show 400 * 2 + 2 * 2 + 3 ≤ 900; decide) (Nat.le_refl _)
  simp only [List.mem_cons, List.not_mem_nil, or_false] at he
  rcases he with rfl | rfl
  · exact (good_str hx).mono (by decide) (by decide)
  · exact h
theorem w_frame : (PyData.str (Str.ofString "frame")).shown.length ≤ 100 := by simp only [PyData.shown]; decide +kernel
theorem w_gone : (PyData.str (Str.ofString "gone")).shown.length ≤ 100 := by simp only [PyData.shown]; decide +kernel
theorem w_ground : (PyData.str (Str.ofString "ground")).shown.length ≤ 100 := by simp only [PyData.shown]; decide +kernel
theorem w_many : (PyData.str (Str.ofString "many")).shown.length ≤ 100 := by simp only [PyData.shown]; decide +kernel
theorem w_told : (PyData.str (Str.ofString "told")).shown.length ≤ 100 := by simp only [PyData.shown]; decide +kernel
theorem w_more : (PyData.str (Str.ofString "more")).shown.length ≤ 100 := by simp only [PyData.shown]; decide +kernel
/-- the text of what is due: any list that holds it has it -/
theorem due_repr {H : Hp} {v : V} (way : Nat) {ps ts : List (Option Nat)} (t : TV H v) (W : WF ps ts) :
    ∃ d, Good 900 4 d ∧ ∀ H' l, Same H H' → (l == sysModules) = false → H' l = some (.lst (dueL way ps ts v)) → DatL H' (.ref l) d := by
  have one : ∀ {x : Str}, (PyData.str x).shown.length ≤ 100 → Good 900 4 (.list [.str x]) := fun {x} hx => by
    refine (Good.list (B := 400) (k := 3) (ds := [.str x]) fun e he => ?_).mono (by show 400 * 1 + 2 * 1 + 3 ≤ 900; decide) (Nat.le_refl _)
    simp only [List.mem_cons, List.not_mem_nil, or_false] at he
    subst he
    exact (good_str hx).mono (by decide) (by decide)
  unfold dueL
  cases hd : dueO way ps ts v with
  | none => exact ⟨_, one w_told, fun H' l s _ e => .inl (.lst e (.cons (.str _) .nil))⟩
  | some r =>
    rcases due_form W hd with rfl | ⟨t', j, rfl, ht, hj⟩ | rfl | rfl
    · cases t with
      | non => exact ⟨_, good_two w_frame (good_none.mono (by decide) (by decide)), fun H' l s _ e => .inl (.lst e (.cons (.str _) (.cons .non .nil)))⟩
      | bl b => exact ⟨_, good_two w_frame ((good_bool b).mono (by decide) (by decide)), fun H' l s _ e => .inl (.lst e (.cons (.str _) (.cons (.bl b) .nil)))⟩
      | int i h => exact ⟨_, good_two w_frame ((good_big h).mono (by decide) (by decide)), fun H' l s _ e => .inl (.lst e (.cons (.str _) (.cons (.int i) .nil)))⟩
      | str x h => exact ⟨_, good_two w_frame ((good_str h).mono (by decide) (by decide)), fun H' l s _ e => .inl (.lst e (.cons (.str _) (.cons (.str x) .nil)))⟩
      | lst e0 =>
        refine ⟨_, good_two w_frame ((Good.list (B := 5) (k := 1) (ds := [.int ((0 : Nat) : Int)]) fun e he => ?_).mono (by decide) (by decide)), fun H' l s _ e => .inl (.lst e (.cons (.str _) (.cons (.lst (s _ _ e0) (.cons (.int _) .nil)) .nil)))⟩
        simp only [List.mem_cons, List.not_mem_nil, or_false] at he
        subst he
        exact good_int (by decide)
      | tup e0 => exact ⟨_, good_two w_frame ((good_tuple1 ((good_int (n := 0) (by decide)).mono (by decide) (by decide))).mono (by decide) (by decide)), fun H' l s _ e => .inl (.lst e (.cons (.str _) (.cons (.tup (s _ _ e0) (.cons (.int _) .nil)) .nil)))⟩
      | dK e0 => exact ⟨_, good_two w_frame (good_dict.mono (by decide) (by decide)), fun H' l s ns e => .inr ⟨l, _, _, rfl, ns, e, s _ _ e0, rfl⟩⟩
    · refine ⟨.list [.str (Str.ofString "gone"), .int t', .int j], ?_, fun H' l s _ e => .inl (.lst e (.cons (.str _) (.cons (.int _) (.cons (.int _) .nil))))⟩
      refine (Good.list (B := 200) (k := 3) fun e he => ?_).mono (by show 200 * 3 + 2 * 3 + 3 ≤ 900; decide) (Nat.le_refl _)
      simp only [List.mem_cons, List.not_mem_nil, or_false] at he
      rcases he with rfl | rfl | rfl
      · exact (good_str w_gone).mono (by decide) (by decide)
      · exact (good_int ht).mono (by decide) (by decide)
      · exact (good_int hj).mono (by decide) (by decide)
    · exact ⟨_, one w_ground, fun H' l s _ e => .inl (.lst e (.cons (.str _) .nil))⟩
    · exact ⟨_, good_two (d := .int ((101 : Nat) : Int)) w_many ((good_int (n := 101) (by decide)).mono (by decide) (by decide)), fun H' l s _ e => .inl (.lst e (.cons (.str _) (.cons (.int _) .nil)))⟩
theorem more_repr {H : Hp} {a : Addr} (e0 : H a = some (.lst ([V.int 0] ++ [V.str (Str.ofString "more")]))) :
    ∃ d, Good 900 4 d ∧ ∀ l, H l = some (.lst [V.str (Str.ofString "frame"), V.ref a]) → DatL H (.ref l) d := by
  refine ⟨_, good_two (d := .list [.int ((0 : Nat) : Int), .str (Str.ofString "more")]) w_frame ((Good.list (B := 100) (k := 1) fun e he => ?_).mono (by show 100 * 2 + 2 * 2 + 3 ≤ 400; decide) (by decide)), fun l e => .inl (.lst e (.cons (.str _) (.cons (.lst e0 (.cons (.int _) (.cons (.str _) .nil))) .nil)))⟩
  simp only [List.mem_cons, List.not_mem_nil, or_false] at he
  rcases he with rfl | rfl
  · exact (good_int (n := 0) (by decide)).mono (by decide) (by decide)
  · exact good_str w_more
/-- its first word tells whether the frame stands -/
theorem due_head {ps ts : List (Option Nat)} (v : V) (W : WF ps ts) : ∃ (x : Str) (rest : List V), dueL 0 ps ts v = .str x :: rest ∧ inV (.str x) [V.str (Str.ofString "told"), V.str (Str.ofString "many")] = standV ts v := by
  have hl := W.len
  unfold dueL
  cases hb : begV ps v with
  | false =>
    rw [due_out hb]
    refine ⟨_, _, rfl, ?_⟩
    have e : standV ts v = false := by
      cases v with
      | int i =>
        have hb : begunB ps i = false := hb
        cases q : standB ts i with
        | true => rw [stand_begun hl q] at hb; cases hb
        | false => exact q
      | _ => rfl
    rw [e]
    decide +kernel
  | true =>
    obtain ⟨t, rfl, htl⟩ := begV_nat hb
    have hts : t < ts.length := by omega
    have hx : ts[t]? = some ts[t] := by simp [hts]
    have es : standV ts (.int (t : Int)) = (ts[t]? == some none) := by
      show standB ts (t : Int) = _
      unfold standB
      rw [Int.toNat_natCast, decide_eq_true (show (0 : Int) ≤ t by omega), Bool.true_and]
    rw [es]
    cases ej : ts[t] with
    | some j =>
      rw [ej] at hx
      rw [due_gone hb hx (by decide), hx]
      exact ⟨_, _, rfl, (show inV (V.str (Str.ofString "gone")) [V.str (Str.ofString "told"), V.str (Str.ofString "many")] = false by decide +kernel)⟩
    | none =>
      rw [ej] at hx
      rw [due_begin hb hx, hx]
      split
      · exact ⟨_, _, rfl, by decide +kernel⟩
      · exact ⟨_, _, rfl, by decide +kernel⟩
/-- ahead of what is told: all is made -/
def lawR (C a : Addr) : TS := fun D σ H => ∃ (x1 x3 x6 x7 x8 x9 x10 : Option V) (b f pa ta d ha tk : Addr) (ps ts : List (Option Nat)) (k : Nat), σ = [some (.ref a), x1, some (.ref b), x3, some (.ref f), some (.ref d), x6, x7, x8, x9, x10] ∧ BoxAt H b k ∧ k ≤ 500 ∧ FrAt C H f pa ta ps ts ∧ ModAt H d ha tk ps ts ∧ WF ps ts ∧ ts[0]? = some none ∧ Sep b pa ta ha tk ∧
  ∀ y6 y7 y8 y9 y10 H', KeptD b pa ta ha tk H H' → D.nx [some (.ref a), x1, some (.ref b), x3, some (.ref f), some (.ref d), y6, y7, y8, y9, y10] H'
/-- ahead of a refusal -/
def lawW (C : Addr) : TS := fun D σ H => ∃ (x0 x1 x2 x3 x6 x10 : Option V) (v : V) (way : Nat) (f pa ta d ha tk ld : Addr) (ps ts : List (Option Nat)), σ = [x0, x1, x2, x3, some (.ref f), some (.ref d), x6, some v, some (.int way), some (.ref ld), x10] ∧ way < 6 ∧ FrAt C H f pa ta ps ts ∧ WF ps ts ∧ TV H v ∧ (way < 2 → dueO way ps ts v ≠ none) ∧ H ld = some (.lst (dueL way ps ts v)) ∧ (ld == sysModules) = false ∧
  ∀ y10 H', Same H H' → D.nx [x0, x1, x2, x3, some (.ref f), some (.ref d), x6, some v, some (.int way), some (.ref ld), y10] H'
section
variable {P : Program} {w : World} {K : PySem.W.Frag} {mg : Str → Option Value} {base : Heap} {A : Adr}
def spLaw (K : PySem.W.Frag) : Sp := fun vs H Q _ => ∃ (a : Addr) (ns : List Int), vs = [.ref a] ∧ SqL K H a (ns.map V.int) ∧ ns.length ≤ 63 ∧ ∀ H', Q (.bl true) H'
theorem ok_law (T : Txt K mg A) : FnOk P w K mg base CX0 9 A.a_law A.d_law ["_law_script"] (spLaw K) := by
  have G__law_cell : FnOk P w K mg base CX0 8 A.a__law_cell A.d__law_cell ["_law_script", "_law_k"] (spCell K) := (ok__law_cell T).mono (by decide)
  have G__law_box : FnOk P w K mg base CX0 8 A.a__law_box A.d__law_box ["_law_cell_here"] spBox := (ok__law_box T).mono (by decide)
  have G__law_take : FnOk P w K mg base CX0 8 A.a__law_take A.d__law_take ["_law_box_here", "_law_many"] spTake := (ok__law_take T).mono (by decide)
  have G__law_model : FnOk P w K mg base CX0 8 A.a__law_model A.d__law_model [] spModel := (ok__law_model T).mono (by decide)
  have G__law_deeds : FnOk P w K mg base CX0 8 A.a__law_deeds A.d__law_deeds ["_law_box_here", "_law_frames", "_law_model_here", "_law_many"] (spDeeds A.a_Frames) := ok__law_deeds T
  have G__law_filled : FnOk P w K mg base CX0 8 A.a__law_filled A.d__law_filled ["_law_frames", "_law_model_here"] (spFilled A.a_Frames) := ok__law_filled T
  have G__law_state : FnOk P w K mg base CX0 8 A.a__law_state A.d__law_state ["_law_frames"] (spState A.a_Frames) := (ok__law_state T).mono (by decide)
  have G__law_things : FnOk P w K mg base CX0 8 A.a__law_things A.d__law_things ["_law_box_here", "_law_model_here"] spThings := (ok__law_things T).mono (by decide)
  have G__law_due : FnOk P w K mg base CX0 8 A.a__law_due A.d__law_due ["_law_way", "_law_model_here", "_law_thing"] spDue := (ok__law_due T).mono (by decide)
  have G__law_caught : FnOk P w K mg base CX0 8 A.a__law_caught A.d__law_caught ["_law_way", "_law_frames", "_law_thing"] (spCaught A) := ok__law_caught T
  have G__law_goes_on : FnOk P w K mg base CX0 8 A.a__law_goes_on A.d__law_goes_on ["_law_box_here", "_law_frames", "_law_model_here"] (spGoes A.a_Frames) := ok__law_goes_on T
  have G_Frames_stands : FnOk P w K mg base CX0 8 A.a_Frames_stands A.d_Frames_stands ["self", "thing"] (spStandsG A.a_Frames) := (ok_Frames_standsG T).mono (by decide)
  have G_Frames___init__ : FnOk P w K mg base CX0 7 A.a_Frames___init__ A.d_Frames___init__ ["self"] (spInit A.a_Frames) := (ok_Frames___init__ T).mono (by decide)
  refine T.F_law.ok sc_law (fun vs H Q E h => ?_) (fun cdv Ar outer s H vs Q E hr h => ?_)
  · obtain ⟨a, ns, rfl, _⟩ := h
    rfl
  · obtain ⟨a, ns, rfl, hS, hlen, q⟩ := h
    have hL : sizeLine = 16777216 := by decide
    have h1L : (1 : Nat) ≤ sizeLine := by decide
    have h2L : (2 : Nat) ≤ sizeLine := by decide
    have hgd := hr.gd
    have hu0 := hr.units0
    have hu1 : _ + 100 < cLine := Nat.lt_of_le_of_lt (Nat.add_le_add_left (by decide : 100 ≤ 16 * 8 + 200) _) (by have := hr.un; omega)
    refine ⟨_, (pss_cons (ps_for PassesOwn.never rfl (pi_range1 rfl T.z_range (pa_cons (pe_callB (call_max2 rfl) (by rfl) T.z_max Boot.«max» (pa_cons pe_int (pa_cons (pe_callB (call_min2 rfl) (by rfl) T.z_min Boot.«min» (pa_cons pe_int (pa_cons (pe_callB call_len_seq (by rfl) T.z_len Boot.«len» (pa_cons (pv 0) pa_nil)) pa_nil))) pa_nil))) pa_nil)) (pg_name (i := 1) sc_law.nd rfl (Or.inl rfl) (Or.inl rfl)) (pss_cons (ps_set (i := 2) sc_law.nd rfl (Or.inl rfl) (pe_call G__law_box hr rfl T.m__law_box T.F__law_box.kp T.b__law_box .nil pass0 (pa_cons (pe_call G__law_cell hr rfl T.m__law_cell T.F__law_cell.kp T.b__law_cell .nil pass0 (pa_cons (pv 0) (pa_cons (pv 1) pa_nil))) pa_nil))) (pss_cons (ps_set (i := 3) sc_law.nd rfl (Or.inl rfl) (pe_cmpR op_eq (pe_call G__law_take hr rfl T.m__law_take T.F__law_take.kp T.b__law_take .nil pass0 (pa_cons (pv 2) (pa_cons pe_int pa_nil))) pe_int (nomark _))) (pss_cons (ps_set (i := 4) sc_law.nd rfl (Or.inl rfl) (pe_make0 T.M_Frames G_Frames___init__ hr rfl T.m_Frames T.b_Frames___init__ .nil pass0)) (pss_cons (ps_set (i := 5) sc_law.nd rfl (Or.inl rfl) (pe_call0 G__law_model hr rfl T.m__law_model T.F__law_model.kp T.b__law_model .nil pass0)) (pss_cons (ps_expr (pe_call G__law_deeds hr rfl T.m__law_deeds T.F__law_deeds.kp T.b__law_deeds .nil pass0 (pa_cons (pv 2) (pa_cons (pv 4) (pa_cons (pv 5) (pa_cons (pe_call G__law_take hr rfl T.m__law_take T.F__law_take.kp T.b__law_take .nil pass0 (pa_cons (pv 2) (pa_cons pe_int pa_nil))) pa_nil)))))) (pss_cons (ps_if (pt_val (pv 3)) (pss_one (ps_expr (pe_call G__law_filled hr rfl T.m__law_filled T.F__law_filled.kp T.b__law_filled .nil pass0 (pa_cons (pv 4) (pa_cons (pv 5) pa_nil))))) pss_nil) (pss_imp (lawR A.a_Frames a) (pss_cons (ps_set (i := 6) sc_law.nd rfl (Or.inl rfl) (pe_call G__law_state hr rfl T.m__law_state T.F__law_state.kp T.b__law_state .nil pass0 (pa_cons (pv 4) pa_nil))) (pss_cons (ps_for PassesOwn.never rfl (pi_list (pe_call G__law_things hr rfl T.m__law_things T.F__law_things.kp T.b__law_things .nil pass0 (pa_cons (pv 2) (pa_cons (pv 5) pa_nil)))) (pg_name (i := 7) sc_law.nd rfl (Or.inl rfl) (Or.inl rfl)) (pss_cons (ps_for PassesOwn.never rfl (pi_range1 rfl T.z_range (pa_cons pe_int pa_nil)) (pg_name (i := 8) sc_law.nd rfl (Or.inl rfl) (Or.inl rfl)) (pss_cons (ps_set (i := 9) sc_law.nd rfl (Or.inl rfl) (pe_call G__law_due hr rfl T.m__law_due T.F__law_due.kp T.b__law_due .nil pass0 (pa_cons (pv 8) (pa_cons (pv 5) (pa_cons (pv 7) pa_nil))))) (pss_cons (ps_if (PW.pt (pw_and (pt_cmpR (op_eq_list hu0) (pv 9) (pe_lst (pa_cons pe_str pa_nil)) (nomark _)) (pw_and1 (pt_cmpR op_lt (pv 8) pe_int (nomark _))))) (pss_one ps_continue) pss_nil) (pss_imp (lawW A.a_Frames) (pss_cons (ps_set (i := 10) sc_law.nd rfl (Or.inl rfl) (pe_call G__law_caught hr rfl T.m__law_caught T.F__law_caught.kp T.b__law_caught .nil pass0 (pa_cons (pv 8) (pa_cons (pv 4) (pa_cons (pv 7) pa_nil))))) (pss_cons (ps_if (pt_cmpR op_ne (pe_callB (call_reprL hgd hu1) (by rfl) T.z_repr Boot.«repr» (pa_cons (pv 10) pa_nil)) (pe_callB (call_reprL hgd hu1) (by rfl) T.z_repr Boot.«repr» (pa_cons (pv 9) pa_nil)) (nomark _)) (pss_one (ps_ret pe_bl)) pss_nil) (pss_one (ps_if (pt_val (pe_callB call_isinst (by rfl) T.z_isinstance Boot.«isinstance» (pa_cons (pv 7) (pa_cons (pe_bltn (v := .ty "list") rfl T.z_list Boot.«list» rfl) pa_nil)))) (pss_cons (ps_expr (pe_bm PySem.F.plainAttrs_list PySem.F.slot_list_append PySem.F.type_list_append mt_append (pv 7) (pa_cons pe_str pa_nil))) (pss_cons (ps_if (pt_cmpR op_ne (pe_callB (call_reprL hgd hu1) (by rfl) T.z_repr Boot.«repr» (pa_cons (pv 10) pa_nil)) (pe_callB (call_reprL hgd hu1) (by rfl) T.z_repr Boot.«repr» (pa_cons (pv 9) pa_nil)) (nomark _)) (pss_one (ps_ret pe_bl)) pss_nil) (pss_one (ps_expr (pe_bm0 PySem.F.plainAttrs_list PySem.F.slot_list_pop PySem.F.type_list_pop mt_pop (pv 7)))))) pss_nil)))) ?cut2)))) (pss_cons (ps_if (pt_cmpR op_ne (pe_callB (call_reprL hgd hu1) (by rfl) T.z_repr Boot.«repr» (pa_cons (pe_meth (pv 4) T.K_Frames T.t_Frames_stands G_Frames_stands hr T.b_Frames_stands .nil pass0 (pa_cons (pv 7) pa_nil)) pa_nil)) (pe_callB (call_reprL hgd hu1) (by rfl) T.z_repr Boot.«repr» (pa_cons (pe_cmpR op_in_seq (pe_ix ix_list (pe_call G__law_due hr rfl T.m__law_due T.F__law_due.kp T.b__law_due .nil pass0 (pa_cons pe_int (pa_cons (pv 5) (pa_cons (pv 7) pa_nil)))) pe_int (fun _ _ => rfl)) (pe_tup (pa_cons pe_str (pa_cons pe_str pa_nil))) (by with_unfolding_all rfl)) pa_nil)) (nomark _)) (pss_one (ps_ret pe_bl)) pss_nil) (pss_one (ps_if (pt_cmpR op_ne (pe_call G__law_state hr rfl T.m__law_state T.F__law_state.kp T.b__law_state .nil pass0 (pa_cons (pv 4) pa_nil)) (pv 6) (nomark _)) (pss_one (ps_ret pe_bl)) pss_nil))))) (pss_one (ps_if (pt_not (pt_val (pe_call G__law_goes_on hr rfl T.m__law_goes_on T.F__law_goes_on.kp T.b__law_goes_on .nil pass0 (pa_cons (pv 2) (pa_cons (pv 4) (pa_cons (pv 5) pa_nil)))))) (pss_one (ps_ret pe_bl)) pss_nil)))) ?cut6)))))))) (pss_one (ps_ret pe_bl))), ?_⟩
    rotate_left
    case cut2 =>
      rintro D σ H0 ⟨x0, x1, x2, x3, x6, x10, v, way, f, pa, ta, d, ha, tk, ld, ps, ts, rfl, hw, F, W, tv, hdue, eld, nsd, k⟩
      refine ⟨_, rfl, _, rfl, _, rfl, f, pa, ta, ps, ts, way, v, rfl, hw, F, W, tv, hdue, fun lf H1 nsf s1 elf => ?_⟩
      obtain ⟨dd, gd, hd⟩ := due_repr way tv W
      have hdp := gd.dp
      have hln := gd.ln
      refine ⟨_, rfl, _, dd, rfl, hd H1 lf s1 nsf elf, gd.sh, by omega, by omega, _, rfl, _, dd, rfl, hd H1 ld s1 nsd (s1 _ _ eld), gd.sh, by omega, by omega, rfl, _, rfl, ?_⟩
      rw [decide_eq_true rfl]
      refine iteF ?_
      have tv1 := tv.same s1
      cases tv with
      | non => exact ⟨_, rfl, _, _, _, _, rfl, .non, rfl, _, rfl, iteF (k _ H1 s1)⟩
      | bl b => exact ⟨_, rfl, _, _, _, _, rfl, .bl b, rfl, _, rfl, iteF (k _ H1 s1)⟩
      | int i h => exact ⟨_, rfl, _, _, _, _, rfl, .int i, rfl, _, rfl, iteF (k _ H1 s1)⟩
      | str x h => exact ⟨_, rfl, _, _, _, _, rfl, .str x, rfl, _, rfl, iteF (k _ H1 s1)⟩
      | tup e => exact ⟨_, rfl, _, _, _, _, rfl, .tup (s1 _ _ e), rfl, _, rfl, iteF (k _ H1 s1)⟩
      | dK e => exact ⟨_, rfl, _, _, _, _, rfl, .dK (s1 _ _ e), rfl, _, rfl, iteF (k _ H1 s1)⟩
      | @lst al e =>
        have e1 := s1 _ _ e
        have edue : dueL way ps ts (.ref al) = [V.str (Str.ofString "frame"), V.ref al] := by
          unfold dueL
          rw [due_out (show begV ps (.ref al) = false from rfl)]
          rfl
        rw [edue] at elf eld
        refine ⟨_, rfl, _, _, _, _, rfl, .lst e1, rfl, _, rfl, iteT ?_⟩
        refine ⟨_, rfl, .inl ⟨rfl, _, SqL.of e1⟩, al, _, _, rfl, rfl, e1, (show 1 < sizeLine by decide), ?_⟩
        obtain ⟨d2, g2, h2⟩ := more_repr (upd_same (H := H1) (a := al) (o := .lst ([V.int 0] ++ [V.str (Str.ofString "more")])))
        have hdp2 := g2.dp
        have hln2 := g2.ln
        have nf : lf ≠ al := ne_of elf e1 (by intro z; cases z)
        have nd : ld ≠ al := ne_of (s1 _ _ eld) e1 (by intro z; cases z)
        refine ⟨_, rfl, _, d2, rfl, h2 lf (by rw [upd_ne nf]; exact elf), g2.sh, by omega, by omega, _, rfl, _, d2, rfl, h2 ld (by rw [upd_ne nd]; exact s1 _ _ eld), g2.sh, by omega, by omega, rfl, _, rfl, ?_⟩
        rw [decide_eq_true rfl]
        refine iteF ?_
        refine ⟨_, rfl, .inl ⟨rfl, _, SqL.of upd_same⟩, al, _, _, rfl, rfl, upd_same, rfl, ?_⟩
        refine k _ _ fun c o ec => ?_
        by_cases hc : c = al
        · subst hc
          rw [upd_same]
          rw [e] at ec
          cases ec
          rfl
        · rw [upd_ne hc, upd_ne hc]
          exact s1 _ _ ec
    case cut6 =>
      rintro D σ H0 ⟨x1, x3, x6, x7, x8, x9, x10, b, f, pa, ta, d, ha, tk, ps, ts, k, rfl, B, hk, F, M, W, g0, S, kD⟩
      have hl := W.len
      refine ⟨_, rfl, f, pa, ta, ps, ts, rfl, F, W, fun H1 s1 => ?_⟩
      have F1 := F.same s1
      have M1 := M.same s1
      have B1 := B.same s1
      refine ⟨_, rfl, _, rfl, b, d, ha, tk, ps, ts, k, rfl, B1, by omega, M1, W, S.bh, S.bk, fun l vs H2 hl2 B2 K2 e2 h3 tv => ⟨l, rfl, ⟨_, SqL.of e2⟩, ?_⟩⟩
      obtain ⟨bx, hbx⟩ := B1.lst
      have F2 : FrAt A.a_Frames H2 f pa ta ps ts := F1.kept fun c o hc e => K2 c o (by rcases hc with rfl | rfl | rfl; exact F1.apart hbx; exact S.bp.symm; exact S.bt.symm) e
      have M2 : ModAt H2 d ha tk ps ts := M1.kept fun c o hc e => K2 c o (by rcases hc with rfl | rfl | rfl; exact M1.apartL hbx; exact S.bh.symm; exact S.bk.symm) e
      refine for_list (K := K) (a := l) (xs := vs) (fun i σ H' => ∃ (y7 y8 y9 y10 : Option V), σ = [some (.ref a), x1, some (.ref b), x3, some (.ref f), some (.ref d), some (.str (stD ps ts).shown), y7, y8, y9, y10] ∧ Same H2 H') ⟨_, _, _, _, rfl, Same.refl _⟩ ?_ ?_ ?_
      · rintro i σ H' _ ⟨y7, y8, y9, y10, _, sm⟩
        exact SqL.of (sm _ _ e2)
      · rintro i v σ H3 hv ⟨y7, y8, y9, y10, rfl, s3⟩
        have tv2 := tv v (List.mem_of_getElem? hv)
        refine ⟨6, rfl, by decide, by decide, ?_⟩
        refine for_range (lo := 0) (n := 6) (fun i σ H' => ∃ (y8 y9 y10 : Option V), σ = [some (.ref a), x1, some (.ref b), x3, some (.ref f), some (.ref d), some (.str (stD ps ts).shown), some v, y8, y9, y10] ∧ Same H2 H') ⟨_, _, _, rfl, s3⟩ ?_ ?_
        · rintro way σ H4 hw ⟨y8, y9, y10, rfl, s4⟩
          rw [show (0 + (way : Int)) = (way : Int) from Int.zero_add _]
          have tv4 := tv2.same s4
          refine ⟨_, rfl, _, rfl, _, rfl, d, ha, tk, ps, ts, way, v, rfl, M2.same s4, W, tv4, fun ld H5 hld nsd s5 eld => ?_⟩
          have s25 := s4.trans s5
          have rest : ∀ H6, Same H5 H6 → (way < 2 → dueO way ps ts v ≠ none) → ∀ (D' : Ends), (∀ y10 H', Same H6 H' → D'.nx [some (.ref a), x1, some (.ref b), x3, some (.ref f), some (.ref d), some (.str (stD ps ts).shown), some v, some (.int (way : Int)), some (.ref ld), y10] H') → lawW A.a_Frames D' [some (.ref a), x1, some (.ref b), x3, some (.ref f), some (.ref d), some (.str (stD ps ts).shown), some v, some (.int (way : Int)), some (.ref ld), y10] H6 := fun H6 s6 hne D' hD =>
            ⟨_, _, _, _, _, _, v, way, f, pa, ta, d, ha, tk, ld, ps, ts, rfl, hw, F2.same (s25.trans s6), W, tv2.same (s25.trans s6), hne, s6 _ _ eld, nsd, hD⟩
          refine ⟨_, rfl, h1L, fun lt hlt => ?_⟩
          have s6 := Same.upd (o := .lst [V.str (Str.ofString "told")]) hlt
          have end6 : ∀ y10 H', Same (upd H5 lt (.lst [V.str (Str.ofString "told")])) H' → ∃ (y8 y9 y10' : Option V), ([some (.ref a), x1, some (.ref b), x3, some (.ref f), some (.ref d), some (.str (stD ps ts).shown), some v, some (.int (way : Int)), some (.ref ld), y10] : L2.St) = [some (.ref a), x1, some (.ref b), x3, some (.ref f), some (.ref d), some (.str (stD ps ts).shown), some v, y8, y9, y10'] ∧ Same H2 H' := fun y10 H' sm => ⟨_, _, _, rfl, (s25.trans s6).trans sm⟩
          refine ⟨ld, lt, _, _, rfl, rfl, s6 _ _ eld, upd_same, ?_⟩
          cases hO : dueO way ps ts v with
          | none =>
            have eD : dueL way ps ts v = [V.str (Str.ofString "told")] := by unfold dueL; rw [hO]; rfl
            rw [eD]
            refine .inr ⟨rfl, rfl, rfl, _, rfl, ?_⟩
            rw [show eqVs [V.str (Str.ofString "told")] [V.str (Str.ofString "told")] = true by decide +kernel]
            refine iteT ⟨_, rfl, way, 2, rfl, rfl, _, rfl, ?_⟩
            by_cases h2 : (way : Int) < 2
            · rw [decide_eq_true h2]
              exact iteT (end6 _ _ (Same.refl _))
            · rw [decide_eq_false h2]
              exact iteF (rest _ s6 (fun z => absurd z (by omega)) _ end6)
          | some r =>
            have eD : dueL way ps ts v = r.told := by unfold dueL; rw [hO]; rfl
            rw [eD]
            have go := rest _ s6 (fun _ z => by rw [hO] at z; cases z)
            cases r with
            | frame v' => exact .inl ⟨(by intro z; cases z), _, rfl, iteF (go _ end6)⟩
            | gone v' b' => exact .inl ⟨(by intro z; cases z), _, rfl, iteF (go _ end6)⟩
            | many => exact .inl ⟨(by intro z; cases z), _, rfl, iteF (go _ end6)⟩
            | ground =>
              refine .inr ⟨rfl, rfl, rfl, _, rfl, ?_⟩
              rw [show eqVs (Rf.told .ground) [V.str (Str.ofString "told")] = false by decide +kernel]
              exact iteF (go _ end6)
        · rintro σ H4 ⟨y8, y9, y10, rfl, s4⟩
          have tv4 := tv2.same s4
          have F4 := F2.same s4
          obtain ⟨⟨dx, ho⟩, hp, ht, ne⟩ := id F4
          obtain ⟨x, rest, ex, ein⟩ := due_head (ts := ts) v W
          have gb := good_bool (standV ts v)
          have hdp := gb.dp
          have hln := gb.ln
          refine ⟨_, rfl, f, dx, _, rfl, ho, flds_no _ _ (by decide +kernel) (by decide +kernel), _, rfl, f, pa, ta, ps, ts, v, rfl, F4, hl, tv4, _, .bool (standV ts v), rfl, .inl (.bl _), gb.sh, by omega, by omega, ?_⟩
          refine ⟨_, rfl, _, rfl, d, ha, tk, ps, ts, 0, v, rfl, M2.same s4, W, tv4, fun ld H5 hld nsd s5 eld => ?_⟩
          rw [ex] at eld
          refine ⟨ld, _, 0, .str x, rfl, rfl, SqL.of eld, atI_nat (xs := V.str x :: rest) (j := 0) (v := V.str x) rfl, h2L, fun p hp5 => ⟨p, _, rfl, .inr (SqT.of upd_same), rfl, rfl, ?_⟩⟩
          have s6 := Same.upd (o := .tup [V.str (Str.ofString "told"), V.str (Str.ofString "many")]) hp5
          refine ⟨_, .bool (standV ts v), (by rw [← ein]; rfl), .inl (.bl _), gb.sh, by omega, by omega, rfl, _, rfl, ?_⟩
          rw [decide_eq_true rfl]
          refine iteF ?_
          have s26 := (s4.trans s5).trans s6
          refine ⟨_, rfl, f, pa, ta, ps, ts, rfl, F2.same s26, W, fun H7 s7 => ⟨_, rfl, rfl, _, rfl, ?_⟩⟩
          rw [decide_eq_true rfl]
          exact iteF ⟨_, _, _, _, rfl, s26.trans s7⟩
      · rintro σ H3 ⟨y7, y8, y9, y10, rfl, s3⟩
        refine ⟨_, rfl, _, rfl, _, rfl, b, f, pa, ta, d, ha, tk, ps, ts, k + 3, rfl, B2.same s3, by omega, F2.same s3, M2.same s3, W, g0, S, fun H4 K4 => ⟨_, rfl, iteF ?_⟩⟩
        exact kD _ _ _ _ _ H4 fun c o h1 h2 h3' h4 h5 e => K4 c o h1 h2 h3' h4 h5 (s3 c o (K2 c o h1 (s1 c o e)))
    refine ⟨_, rfl, a, _, rfl, .inl hS, 10, _, rfl, 2, _, rfl, ?_⟩
    generalize hn : (if (if ((List.map V.int ns).length : Int) < 10 then ((List.map V.int ns).length : Int) else 10) > 2 then (if ((List.map V.int ns).length : Int) < 10 then ((List.map V.int ns).length : Int) else 10) else 2) = n
    have nn : 0 ≤ n ∧ n ≤ 10 := by
      rw [← hn]
      split <;> split <;> omega
    refine ⟨n, rfl, by omega, by omega, ?_⟩
    refine for_range (lo := 0) (n := n.toNat) (fun i σ H' => ∃ (x1 x2 x3 x4 x5 x6 x7 x8 x9 x10 : Option V), σ = [some (.ref a), x1, x2, x3, x4, x5, x6, x7, x8, x9, x10] ∧ Same H H') ⟨_, _, _, _, _, _, _, _, _, _, rfl, Same.refl _⟩ ?_ ?_
    · rintro i σ H0 hi ⟨x1, x2, x3, x4, x5, x6, x7, x8, x9, x10, rfl, s0⟩
      refine ⟨_, rfl, _, rfl, a, ns, _, rfl, s0.seq hS, by omega, by omega, fun c => ⟨c, rfl, fun b H1 hb B1 sb => ?_⟩⟩
      refine ⟨_, rfl, b, 3, 0, rfl, B1, by omega, by decide, by decide, fun r H2 r0 r1 B2 O2 => ⟨rfl, ?_⟩⟩
      intro f dx nf nd ne
      refine ⟨f, dx, rfl, upd_same, fun pa ta H3 hpa hta F3 kp3 => ⟨rfl, ?_⟩⟩
      have s2' : Same H2 (upd (upd H2 dx (.own f)) f (.ins A.a_Frames dx [])) := fun c o e => by
        rw [upd_ne (ne_of_none e nf), upd_ne (ne_of_none e nd)]
        exact e
      have s3 : Same H2 H3 := fun c o e => kp3 c o (s2' c o e) (ne_of_none e nf)
      have hpa2 : H2 pa = none := s2'.free hpa
      have hta2 : H2 ta = none := s2'.free hta
      have B3 := B2.same s3
      refine ⟨rfl, fun d ha tk H4 hd hha htk M4 s4 => ?_⟩
      have F4 := F3.same s4
      have B4 := B3.same s4
      have S : Sep b pa ta ha tk := ⟨(B2.ne hpa2).symm, (B2.ne hta2).symm, (B3.ne hha).symm, (B3.ne htk).symm, ne_of_none F3.pl hha, ne_of_none F3.pl htk, ne_of_none F3.tl hha, ne_of_none F3.tl htk⟩
      refine ⟨_, rfl, _, rfl, _, rfl, _, rfl, b, 30, 1, rfl, B4, by omega, by decide, by decide, fun m H5 m0 m1 B5 O5 => ?_⟩
      obtain ⟨bx, hbx⟩ := B4.lst
      have F5 : FrAt A.a_Frames H5 f pa ta [none] [none] := F4.kept fun c o hc e => O5.kept c o (by rcases hc with rfl | rfl | rfl; exact F4.apart hbx; exact S.bp.symm; exact S.bt.symm) e
      have M5 : ModAt H5 d ha tk [none] [none] := M4.kept fun c o hc e => O5.kept c o (by rcases hc with rfl | rfl | rfl; exact M4.apartL hbx; exact S.bh.symm; exact S.bk.symm) e
      -- what was there ahead of all of it
      have old : ∀ c o, H c = some o → c ≠ b ∧ c ≠ pa ∧ c ≠ ta ∧ c ≠ ha ∧ c ≠ tk ∧ H5 c = some o := fun c o e => by
        have e0 := s0 c o e
        have cb : c ≠ b := ne_of_none e0 hb
        have e2 := O2.kept c o cb (sb c o e0)
        have e3 := s3 c o e2
        exact ⟨cb, ne_of_none e2 hpa2, ne_of_none e2 hta2, ne_of_none e3 hha, ne_of_none e3 htk, O5.kept c o cb (s4 c o e3)⟩
      refine ⟨b, f, pa, ta, d, ha, tk, [none], [none], 2, m, rfl, m0, by omega, B5, by omega, F5, M5, wf0, rfl, S, fun ps ts H6 W6 g6 F6 M6 B6 K6 => ?_⟩
      have fin : ∀ (ps' ts' : List (Option Nat)) (H7 : Hp), WF ps' ts' → ts'[0]? = some none → FrAt A.a_Frames H7 f pa ta ps' ts' → ModAt H7 d ha tk ps' ts' → BoxAt H7 b 92 → KeptD b pa ta ha tk H5 H7 → ∀ (D : Ends), (∀ σ' H', (∃ (x1 x2 x3 x4 x5 x6 x7 x8 x9 x10 : Option V), σ' = [some (.ref a), x1, x2, x3, x4, x5, x6, x7, x8, x9, x10] ∧ Same H H') → D.nx σ' H') → ∀ (y1 y3 y6 y7 y8 y9 y10 : Option V), lawR A.a_Frames a D [some (.ref a), y1, some (.ref b), y3, some (.ref f), some (.ref d), y6, y7, y8, y9, y10] H7 :=
        fun ps' ts' H7 W7 g7 F7 M7 B7 K7 D hD y1 y3 y6 y7 y8 y9 y10 => ⟨y1, y3, y6, y7, y8, y9, y10, b, f, pa, ta, d, ha, tk, ps', ts', 92, rfl, B7, by decide, F7, M7, W7, g7, S, fun z6 z7 z8 z9 z10 H' K' => hD _ _ ⟨_, _, _, _, _, _, _, _, _, _, rfl, fun c o e => by
          obtain ⟨h1, h2, h3, h4, h5, e5⟩ := old c o e
          exact K' c o h1 h2 h3 h4 h5 (K7 c o h1 h2 h3 h4 h5 e5)⟩⟩
      refine ⟨_, rfl, _, rfl, ?_⟩
      refine ite2 (fun _ => ?_) (fun _ => fin ps ts H6 W6 g6 F6 M6 B6 K6 _ (fun σ' H' z => z) _ _ _ _ _ _ _)
      refine ⟨_, rfl, _, rfl, f, pa, ta, d, ha, tk, ps, ts, rfl, F6, M6, W6, g6, S.ph, S.pk, S.th, S.tk, fun ps' ts' H7 W7 g7 F7 M7 K7 => ?_⟩
      exact fin ps' ts' H7 W7 g7 F7 M7 (B6.kept fun o e => K7 b o S.bp S.bt S.bh S.bk e) (fun c o h1 h2 h3 h4 h5 e => K7 c o h2 h3 h4 h5 (K6 c o h1 h2 h3 h4 h5 e)) _ (fun σ' H' z => z) _ _ _ _ _ _ _
    · rintro σ H' ⟨x1, x2, x3, x4, x5, x6, x7, x8, x9, x10, rfl, sm⟩
      exact q H'
end
theorem walk {l : PySem.W.OpenLaw} {q : Program} {loose : List Str} {XP : (Str → Option Value) → Heap → Prop} {YP : World → Heap → Prop} {d : DefRec} {K : Params → PySem.W.Frag} (hn : l.most = some 63) (hdf : d.params.defaults = [])
    (hY : ∀ (w : World) (h : Heap), YP w h → (K w.params).In h)
    (F : ∀ (w : World) (mg : Str → Option Value) (fa : Addr) (h : Heap), (K w.params).In h → h.Ns mainGlobals mg → mg d.name = some (.ref fa) →
      ∃ fd : FuncData, (∀ (s : Shared) (u : Value), BindsTo s fd ⟨[u], []⟩ [("_law_script", u)]) ∧ ∀ base : Heap, (K w.params).In base → base.Ns mainGlobals mg → FnOk l.prog w (K w.params) mg base CX0 9 fa fd ["_law_script"] (spLaw (K w.params))) :
    PySem.W.WalkO q loose XP YP l.row.toRowW d [] (fun f vs => PySem.call f vs) :=
  L2.walk_of (n := 63) (k := 9) (x := "_law_script") (CX := fun _ => CX0) (sp := fun w => spLaw (K w.params)) hn (by decide) hdf ⟨rfl, by decide, by decide, rfl⟩ hY F (fun _ _ a ns hl _ hS => ⟨a, ns, rfl, hS, hl, fun _ => rfl⟩) fun _ _ _ _ _ z => z
theorem law_mk {l : PySem.W.OpenLaw} {w : World} {K : PySem.W.Frag} {h : Heap} {mg : Str → Option Value} {fa : Addr} (X : K.In h) (G : h.Ns mainGlobals mg) (hfa : mg "law" = some (.ref fa)) (hT : ∃ A : Adr, Txt K mg A) :
    ∃ fd : FuncData, (∀ (s : Shared) (u : Value), BindsTo s fd ⟨[u], []⟩ [("_law_script", u)]) ∧ ∀ base : Heap, K.In base → base.Ns mainGlobals mg → FnOk l.prog w K mg base CX0 9 fa fd ["_law_script"] (spLaw K) := by
  obtain ⟨A, T⟩ := hT
  have e := hfa.symm.trans T.m_law
  cases e
  exact ⟨A.d_law, T.B_law, fun base _ _ => ok_law T⟩
end My

namespace My
open PySem L2 PyProof.Rows
theorem kit_self {K : PySem.W.Frag} {C : Addr} : PySem.W.kitOne K (.ref C) (.ref C) = some true := by
  unfold PySem.W.kitOne
  rw [if_pos (beq_self_eq_true _)]
theorem kit_not {K : PySem.W.Frag} {C D : Addr} (ne : (Value.ref C == Value.ref D) = false) (hd : PySem.W.hasDictIn K D = true) (tt : PySem.W.typeIn K (.ref D) = some (.type "type")) (mi : PySem.W.mroIn K C (.ref D) = some false) : PySem.W.kitOne K (.ref C) (.ref D) = some false := by
  obtain ⟨cd, hc, _⟩ := PySem.W.any_some hd
  unfold PySem.W.kitOne
  rw [if_neg (by rw [ne]; exact Bool.false_ne_true)]
  show (if ((PySem.W.clsIn K D).isSome && PySem.W.typeIn K (.ref D) == some (.type "type")) = true then PySem.W.subIn K (.ref C) (.ref D) else none) = some false
  rw [hc, tt, if_pos (by rw [Option.isSome_some, Bool.true_and]; exact beq_self_eq_true _)]
  exact mi
theorem txt_mk {K : PySem.W.Frag} {h : Heap} {mg : Str → Option Value} (X : K.In h) (G : h.Ns mainGlobals mg)
    {C_RoomError : Addr}
    {C_NoFrame : Addr}
    {C_Gone : Addr}
    {C_Ground : Addr}
    {C_TooMany : Addr}
    {C_Frames : Addr}
    {f0 : Addr} {od0 an0 : Option Addr} {sl0 : Array (Option Value)} {oc0 kV0 dc0 pm0 cd0 ct0 : Value}
    {f1 : Addr} {od1 an1 : Option Addr} {sl1 : Array (Option Value)} {oc1 kV1 dc1 pm1 cd1 ct1 : Value}
    {f2 : Addr} {od2 an2 : Option Addr} {sl2 : Array (Option Value)} {oc2 kV2 dc2 pm2 cd2 ct2 : Value}
    {f3 : Addr} {od3 an3 : Option Addr} {sl3 : Array (Option Value)} {oc3 kV3 dc3 pm3 cd3 ct3 : Value}
    {f4 : Addr} {od4 an4 : Option Addr} {sl4 : Array (Option Value)} {oc4 kV4 dc4 pm4 cd4 ct4 : Value}
    {f5 : Addr} {od5 an5 : Option Addr} {sl5 : Array (Option Value)} {oc5 kV5 dc5 pm5 cd5 ct5 : Value}
    {f6 : Addr} {od6 an6 : Option Addr} {sl6 : Array (Option Value)} {oc6 kV6 dc6 pm6 cd6 ct6 : Value}
    {f7 : Addr} {od7 an7 : Option Addr} {sl7 : Array (Option Value)} {oc7 kV7 dc7 pm7 cd7 ct7 : Value}
    {f8 : Addr} {od8 an8 : Option Addr} {sl8 : Array (Option Value)} {oc8 kV8 dc8 pm8 cd8 ct8 : Value}
    {f9 : Addr} {od9 an9 : Option Addr} {sl9 : Array (Option Value)} {oc9 kV9 dc9 pm9 cd9 ct9 : Value}
    {f10 : Addr} {od10 an10 : Option Addr} {sl10 : Array (Option Value)} {oc10 kV10 dc10 pm10 cd10 ct10 : Value}
    {f11 : Addr} {od11 an11 : Option Addr} {sl11 : Array (Option Value)} {oc11 kV11 dc11 pm11 cd11 ct11 : Value}
    {f12 : Addr} {od12 an12 : Option Addr} {sl12 : Array (Option Value)} {oc12 kV12 dc12 pm12 cd12 ct12 : Value}
    {f13 : Addr} {od13 an13 : Option Addr} {sl13 : Array (Option Value)} {oc13 kV13 dc13 pm13 cd13 ct13 : Value}
    {f14 : Addr} {od14 an14 : Option Addr} {sl14 : Array (Option Value)} {oc14 kV14 dc14 pm14 cd14 ct14 : Value}
    {f15 : Addr} {od15 an15 : Option Addr} {sl15 : Array (Option Value)} {oc15 kV15 dc15 pm15 cd15 ct15 : Value}
    {f16 : Addr} {od16 an16 : Option Addr} {sl16 : Array (Option Value)} {oc16 kV16 dc16 pm16 cd16 ct16 : Value}
    {f17 : Addr} {od17 an17 : Option Addr} {sl17 : Array (Option Value)} {oc17 kV17 dc17 pm17 cd17 ct17 : Value}
    {f18 : Addr} {od18 an18 : Option Addr} {sl18 : Array (Option Value)} {oc18 kV18 dc18 pm18 cd18 ct18 : Value}
    {f19 : Addr} {od19 an19 : Option Addr} {sl19 : Array (Option Value)} {oc19 kV19 dc19 pm19 cd19 ct19 : Value}
    {f20 : Addr} {od20 an20 : Option Addr} {sl20 : Array (Option Value)} {oc20 kV20 dc20 pm20 cd20 ct20 : Value}
    {f21 : Addr} {od21 an21 : Option Addr} {sl21 : Array (Option Value)} {oc21 kV21 dc21 pm21 cd21 ct21 : Value}
    {f22 : Addr} {od22 an22 : Option Addr} {sl22 : Array (Option Value)} {oc22 kV22 dc22 pm22 cd22 ct22 : Value}
    {f23 : Addr} {od23 an23 : Option Addr} {sl23 : Array (Option Value)} {oc23 kV23 dc23 pm23 cd23 ct23 : Value}
    {f24 : Addr} {od24 an24 : Option Addr} {sl24 : Array (Option Value)} {oc24 kV24 dc24 pm24 cd24 ct24 : Value}
    {f25 : Addr} {od25 an25 : Option Addr} {sl25 : Array (Option Value)} {oc25 kV25 dc25 pm25 cd25 ct25 : Value}
    {f26 : Addr} {od26 an26 : Option Addr} {sl26 : Array (Option Value)} {oc26 kV26 dc26 pm26 cd26 ct26 : Value}
    {f27 : Addr} {od27 an27 : Option Addr} {sl27 : Array (Option Value)} {oc27 kV27 dc27 pm27 cd27 ct27 : Value}
    {f28 : Addr} {od28 an28 : Option Addr} {sl28 : Array (Option Value)} {oc28 kV28 dc28 pm28 cd28 ct28 : Value}
    {f29 : Addr} {od29 an29 : Option Addr} {sl29 : Array (Option Value)} {oc29 kV29 dc29 pm29 cd29 ct29 : Value}
    {f30 : Addr} {od30 an30 : Option Addr} {sl30 : Array (Option Value)} {oc30 kV30 dc30 pm30 cd30 ct30 : Value}
    {f31 : Addr} {od31 an31 : Option Addr} {sl31 : Array (Option Value)} {oc31 kV31 dc31 pm31 cd31 ct31 : Value}
    {f32 : Addr} {od32 an32 : Option Addr} {sl32 : Array (Option Value)} {oc32 kV32 dc32 pm32 cd32 ct32 : Value}
    {f33 : Addr} {od33 an33 : Option Addr} {sl33 : Array (Option Value)} {oc33 kV33 dc33 pm33 cd33 ct33 : Value}
    {f34 : Addr} {od34 an34 : Option Addr} {sl34 : Array (Option Value)} {oc34 kV34 dc34 pm34 cd34 ct34 : Value}
    {f35 : Addr} {od35 an35 : Option Addr} {sl35 : Array (Option Value)} {oc35 kV35 dc35 pm35 cd35 ct35 : Value}
    {f36 : Addr} {od36 an36 : Option Addr} {sl36 : Array (Option Value)} {oc36 kV36 dc36 pm36 cd36 ct36 : Value}
    {f37 : Addr} {od37 an37 : Option Addr} {sl37 : Array (Option Value)} {oc37 kV37 dc37 pm37 cd37 ct37 : Value}
    {f38 : Addr} {od38 an38 : Option Addr} {sl38 : Array (Option Value)} {oc38 kV38 dc38 pm38 cd38 ct38 : Value}
    {f39 : Addr} {od39 an39 : Option Addr} {sl39 : Array (Option Value)} {oc39 kV39 dc39 pm39 cd39 ct39 : Value}
    {f40 : Addr} {od40 an40 : Option Addr} {sl40 : Array (Option Value)} {oc40 kV40 dc40 pm40 cd40 ct40 : Value}
    {nm_RoomError q_RoomError : Str} {N_RoomError : Addr} {bs_RoomError bm_RoomError : List Value} {sn_RoomError : List Str} {sub_RoomError : List Value} {ab_RoomError : Bool} {col_RoomError : Option Bool} {dd_RoomError : Option Addr} {k0_RoomError k1_RoomError k2_RoomError k3_RoomError k5_RoomError : Option Value}
    {nm_NoFrame q_NoFrame : Str} {N_NoFrame : Addr} {bs_NoFrame bm_NoFrame : List Value} {sn_NoFrame : List Str} {sub_NoFrame : List Value} {ab_NoFrame : Bool} {col_NoFrame : Option Bool} {dd_NoFrame : Option Addr} {k0_NoFrame k1_NoFrame k2_NoFrame k3_NoFrame k5_NoFrame : Option Value}
    {nm_Gone q_Gone : Str} {N_Gone : Addr} {bs_Gone bm_Gone : List Value} {sn_Gone : List Str} {sub_Gone : List Value} {ab_Gone : Bool} {col_Gone : Option Bool} {dd_Gone : Option Addr} {k0_Gone k1_Gone k2_Gone k3_Gone k5_Gone : Option Value}
    {nm_Ground q_Ground : Str} {N_Ground : Addr} {bs_Ground bm_Ground : List Value} {sn_Ground : List Str} {sub_Ground : List Value} {ab_Ground : Bool} {col_Ground : Option Bool} {dd_Ground : Option Addr} {k0_Ground k1_Ground k2_Ground k3_Ground k5_Ground : Option Value}
    {nm_TooMany q_TooMany : Str} {N_TooMany : Addr} {bs_TooMany bm_TooMany : List Value} {sn_TooMany : List Str} {sub_TooMany : List Value} {ab_TooMany : Bool} {col_TooMany : Option Bool} {dd_TooMany : Option Addr} {k0_TooMany k1_TooMany k2_TooMany k3_TooMany k5_TooMany : Option Value}
    {u_GROUND : Tok}
    {u_MOST_FRAMES : Tok}
    (c_RoomError : PySem.W.nsIn K mainGlobals "RoomError" = some (some (.ref C_RoomError)))
    (c_NoFrame : PySem.W.nsIn K mainGlobals "NoFrame" = some (some (.ref C_NoFrame)))
    (c_Gone : PySem.W.nsIn K mainGlobals "Gone" = some (some (.ref C_Gone)))
    (c_Ground : PySem.W.nsIn K mainGlobals "Ground" = some (some (.ref C_Ground)))
    (c_TooMany : PySem.W.nsIn K mainGlobals "TooMany" = some (some (.ref C_TooMany)))
    (c_Frames : PySem.W.nsIn K mainGlobals "Frames" = some (some (.ref C_Frames)))
    (a0 : PySem.W.findIn K (.ref C_RoomError) "__init__" = some (some (.ref f0)))
    (i0 : PySem.W.isFn K (.ref f0) = true)
    (l0 : K.lookup f0 = some ⟨oc0, od0, .func (PySem.W.fnOf "__init__" "RoomError.__init__" (defArgs s_RoomError___init__) (defBody s_RoomError___init__) (defScope s_RoomError___init__) .none kV0 dc0 pm0 an0 cd0 ct0), sl0⟩) (c0 : PySem.W.codeIn K cd0 "RoomError.__init__" = true) (k0 : PySem.W.keepIn K (.ref f0) = true)
    (a1 : PySem.W.findIn K (.ref C_NoFrame) "__init__" = some (some (.ref f1)))
    (i1 : PySem.W.isFn K (.ref f1) = true)
    (l1 : K.lookup f1 = some ⟨oc1, od1, .func (PySem.W.fnOf "__init__" "NoFrame.__init__" (defArgs s_NoFrame___init__) (defBody s_NoFrame___init__) (defScope s_NoFrame___init__) .none kV1 dc1 pm1 an1 cd1 ct1), sl1⟩) (c1 : PySem.W.codeIn K cd1 "NoFrame.__init__" = true) (k1 : PySem.W.keepIn K (.ref f1) = true)
    (a2 : PySem.W.findIn K (.ref C_Gone) "__init__" = some (some (.ref f2)))
    (i2 : PySem.W.isFn K (.ref f2) = true)
    (l2 : K.lookup f2 = some ⟨oc2, od2, .func (PySem.W.fnOf "__init__" "Gone.__init__" (defArgs s_Gone___init__) (defBody s_Gone___init__) (defScope s_Gone___init__) .none kV2 dc2 pm2 an2 cd2 ct2), sl2⟩) (c2 : PySem.W.codeIn K cd2 "Gone.__init__" = true) (k2 : PySem.W.keepIn K (.ref f2) = true)
    (a3 : PySem.W.findIn K (.ref C_Ground) "__init__" = some (some (.ref f3)))
    (i3 : PySem.W.isFn K (.ref f3) = true)
    (l3 : K.lookup f3 = some ⟨oc3, od3, .func (PySem.W.fnOf "__init__" "Ground.__init__" (defArgs s_Ground___init__) (defBody s_Ground___init__) (defScope s_Ground___init__) .none kV3 dc3 pm3 an3 cd3 ct3), sl3⟩) (c3 : PySem.W.codeIn K cd3 "Ground.__init__" = true) (k3 : PySem.W.keepIn K (.ref f3) = true)
    (a4 : PySem.W.findIn K (.ref C_TooMany) "__init__" = some (some (.ref f4)))
    (i4 : PySem.W.isFn K (.ref f4) = true)
    (l4 : K.lookup f4 = some ⟨oc4, od4, .func (PySem.W.fnOf "__init__" "TooMany.__init__" (defArgs s_TooMany___init__) (defBody s_TooMany___init__) (defScope s_TooMany___init__) .none kV4 dc4 pm4 an4 cd4 ct4), sl4⟩) (c4 : PySem.W.codeIn K cd4 "TooMany.__init__" = true) (k4 : PySem.W.keepIn K (.ref f4) = true)
    (a5 : PySem.W.nsIn K mainGlobals "is_number" = some (some (.ref f5)))
    (l5 : K.lookup f5 = some ⟨oc5, od5, .func (PySem.W.fnOf "is_number" "is_number" (defArgs s_is_number) (defBody s_is_number) (defScope s_is_number) .none kV5 dc5 pm5 an5 cd5 ct5), sl5⟩) (c5 : PySem.W.codeIn K cd5 "is_number" = true) (k5 : PySem.W.keepIn K (.ref f5) = true)
    (a6 : PySem.W.nsIn K mainGlobals "is_whole" = some (some (.ref f6)))
    (l6 : K.lookup f6 = some ⟨oc6, od6, .func (PySem.W.fnOf "is_whole" "is_whole" (defArgs s_is_whole) (defBody s_is_whole) (defScope s_is_whole) .none kV6 dc6 pm6 an6 cd6 ct6), sl6⟩) (c6 : PySem.W.codeIn K cd6 "is_whole" = true) (k6 : PySem.W.keepIn K (.ref f6) = true)
    (a7 : PySem.W.findIn K (.ref C_Frames) "__init__" = some (some (.ref f7)))
    (i7 : PySem.W.isFn K (.ref f7) = true)
    (l7 : K.lookup f7 = some ⟨oc7, od7, .func (PySem.W.fnOf "__init__" "Frames.__init__" (defArgs s_Frames___init__) (defBody s_Frames___init__) (defScope s_Frames___init__) .none kV7 dc7 pm7 an7 cd7 ct7), sl7⟩) (c7 : PySem.W.codeIn K cd7 "Frames.__init__" = true) (k7 : PySem.W.keepIn K (.ref f7) = true)
    (a8 : PySem.W.findIn K (.ref C_Frames) "begin" = some (some (.ref f8)))
    (i8 : PySem.W.isFn K (.ref f8) = true)
    (l8 : K.lookup f8 = some ⟨oc8, od8, .func (PySem.W.fnOf "begin" "Frames.begin" (defArgs s_Frames_begin) (defBody s_Frames_begin) (defScope s_Frames_begin) .none kV8 dc8 pm8 an8 cd8 ct8), sl8⟩) (c8 : PySem.W.codeIn K cd8 "Frames.begin" = true) (k8 : PySem.W.keepIn K (.ref f8) = true)
    (a9 : PySem.W.findIn K (.ref C_Frames) "finish" = some (some (.ref f9)))
    (i9 : PySem.W.isFn K (.ref f9) = true)
    (l9 : K.lookup f9 = some ⟨oc9, od9, .func (PySem.W.fnOf "finish" "Frames.finish" (defArgs s_Frames_finish) (defBody s_Frames_finish) (defScope s_Frames_finish) .none kV9 dc9 pm9 an9 cd9 ct9), sl9⟩) (c9 : PySem.W.codeIn K cd9 "Frames.finish" = true) (k9 : PySem.W.keepIn K (.ref f9) = true)
    (a10 : PySem.W.findIn K (.ref C_Frames) "part" = some (some (.ref f10)))
    (i10 : PySem.W.isFn K (.ref f10) = true)
    (l10 : K.lookup f10 = some ⟨oc10, od10, .func (PySem.W.fnOf "part" "Frames.part" (defArgs s_Frames_part) (defBody s_Frames_part) (defScope s_Frames_part) .none kV10 dc10 pm10 an10 cd10 ct10), sl10⟩) (c10 : PySem.W.codeIn K cd10 "Frames.part" = true) (k10 : PySem.W.keepIn K (.ref f10) = true)
    (a11 : PySem.W.findIn K (.ref C_Frames) "inside" = some (some (.ref f11)))
    (i11 : PySem.W.isFn K (.ref f11) = true)
    (l11 : K.lookup f11 = some ⟨oc11, od11, .func (PySem.W.fnOf "inside" "Frames.inside" (defArgs s_Frames_inside) (defBody s_Frames_inside) (defScope s_Frames_inside) .none kV11 dc11 pm11 an11 cd11 ct11), sl11⟩) (c11 : PySem.W.codeIn K cd11 "Frames.inside" = true) (k11 : PySem.W.keepIn K (.ref f11) = true)
    (a12 : PySem.W.findIn K (.ref C_Frames) "row" = some (some (.ref f12)))
    (i12 : PySem.W.isFn K (.ref f12) = true)
    (l12 : K.lookup f12 = some ⟨oc12, od12, .func (PySem.W.fnOf "row" "Frames.row" (defArgs s_Frames_row) (defBody s_Frames_row) (defScope s_Frames_row) .none kV12 dc12 pm12 an12 cd12 ct12), sl12⟩) (c12 : PySem.W.codeIn K cd12 "Frames.row" = true) (k12 : PySem.W.keepIn K (.ref f12) = true)
    (a13 : PySem.W.findIn K (.ref C_Frames) "within" = some (some (.ref f13)))
    (i13 : PySem.W.isFn K (.ref f13) = true)
    (l13 : K.lookup f13 = some ⟨oc13, od13, .func (PySem.W.fnOf "within" "Frames.within" (defArgs s_Frames_within) (defBody s_Frames_within) (defScope s_Frames_within) .none kV13 dc13 pm13 an13 cd13 ct13), sl13⟩) (c13 : PySem.W.codeIn K cd13 "Frames.within" = true) (k13 : PySem.W.keepIn K (.ref f13) = true)
    (a14 : PySem.W.findIn K (.ref C_Frames) "ended_by" = some (some (.ref f14)))
    (i14 : PySem.W.isFn K (.ref f14) = true)
    (l14 : K.lookup f14 = some ⟨oc14, od14, .func (PySem.W.fnOf "ended_by" "Frames.ended_by" (defArgs s_Frames_ended_by) (defBody s_Frames_ended_by) (defScope s_Frames_ended_by) .none kV14 dc14 pm14 an14 cd14 ct14), sl14⟩) (c14 : PySem.W.codeIn K cd14 "Frames.ended_by" = true) (k14 : PySem.W.keepIn K (.ref f14) = true)
    (a15 : PySem.W.findIn K (.ref C_Frames) "stands" = some (some (.ref f15)))
    (i15 : PySem.W.isFn K (.ref f15) = true)
    (l15 : K.lookup f15 = some ⟨oc15, od15, .func (PySem.W.fnOf "stands" "Frames.stands" (defArgs s_Frames_stands) (defBody s_Frames_stands) (defScope s_Frames_stands) .none kV15 dc15 pm15 an15 cd15 ct15), sl15⟩) (c15 : PySem.W.codeIn K cd15 "Frames.stands" = true) (k15 : PySem.W.keepIn K (.ref f15) = true)
    (a16 : PySem.W.findIn K (.ref C_Frames) "standing" = some (some (.ref f16)))
    (i16 : PySem.W.isFn K (.ref f16) = true)
    (l16 : K.lookup f16 = some ⟨oc16, od16, .func (PySem.W.fnOf "standing" "Frames.standing" (defArgs s_Frames_standing) (defBody s_Frames_standing) (defScope s_Frames_standing) .none kV16 dc16 pm16 an16 cd16 ct16), sl16⟩) (c16 : PySem.W.codeIn K cd16 "Frames.standing" = true) (k16 : PySem.W.keepIn K (.ref f16) = true)
    (a17 : PySem.W.findIn K (.ref C_Frames) "begun" = some (some (.ref f17)))
    (i17 : PySem.W.isFn K (.ref f17) = true)
    (l17 : K.lookup f17 = some ⟨oc17, od17, .func (PySem.W.fnOf "begun" "Frames.begun" (defArgs s_Frames_begun) (defBody s_Frames_begun) (defScope s_Frames_begun) .none kV17 dc17 pm17 an17 cd17 ct17), sl17⟩) (c17 : PySem.W.codeIn K cd17 "Frames.begun" = true) (k17 : PySem.W.keepIn K (.ref f17) = true)
    (a18 : PySem.W.findIn K (.ref C_Frames) "was_begun" = some (some (.ref f18)))
    (i18 : PySem.W.isFn K (.ref f18) = true)
    (l18 : K.lookup f18 = some ⟨oc18, od18, .func (PySem.W.fnOf "was_begun" "Frames.was_begun" (defArgs s_Frames_was_begun) (defBody s_Frames_was_begun) (defScope s_Frames_was_begun) .none kV18 dc18 pm18 an18 cd18 ct18), sl18⟩) (c18 : PySem.W.codeIn K cd18 "Frames.was_begun" = true) (k18 : PySem.W.keepIn K (.ref f18) = true)
    (a19 : PySem.W.findIn K (.ref C_Frames) "want_begun" = some (some (.ref f19)))
    (i19 : PySem.W.isFn K (.ref f19) = true)
    (l19 : K.lookup f19 = some ⟨oc19, od19, .func (PySem.W.fnOf "want_begun" "Frames.want_begun" (defArgs s_Frames_want_begun) (defBody s_Frames_want_begun) (defScope s_Frames_want_begun) .none kV19 dc19 pm19 an19 cd19 ct19), sl19⟩) (c19 : PySem.W.codeIn K cd19 "Frames.want_begun" = true) (k19 : PySem.W.keepIn K (.ref f19) = true)
    (a20 : PySem.W.findIn K (.ref C_Frames) "want_standing" = some (some (.ref f20)))
    (i20 : PySem.W.isFn K (.ref f20) = true)
    (l20 : K.lookup f20 = some ⟨oc20, od20, .func (PySem.W.fnOf "want_standing" "Frames.want_standing" (defArgs s_Frames_want_standing) (defBody s_Frames_want_standing) (defScope s_Frames_want_standing) .none kV20 dc20 pm20 an20 cd20 ct20), sl20⟩) (c20 : PySem.W.codeIn K cd20 "Frames.want_standing" = true) (k20 : PySem.W.keepIn K (.ref f20) = true)
    (a21 : PySem.W.findIn K (.ref C_Frames) "want_beginning" = some (some (.ref f21)))
    (i21 : PySem.W.isFn K (.ref f21) = true)
    (l21 : K.lookup f21 = some ⟨oc21, od21, .func (PySem.W.fnOf "want_beginning" "Frames.want_beginning" (defArgs s_Frames_want_beginning) (defBody s_Frames_want_beginning) (defScope s_Frames_want_beginning) .none kV21 dc21 pm21 an21 cd21 ct21), sl21⟩) (c21 : PySem.W.codeIn K cd21 "Frames.want_beginning" = true) (k21 : PySem.W.keepIn K (.ref f21) = true)
    (a22 : PySem.W.findIn K (.ref C_Frames) "want_finishing" = some (some (.ref f22)))
    (i22 : PySem.W.isFn K (.ref f22) = true)
    (l22 : K.lookup f22 = some ⟨oc22, od22, .func (PySem.W.fnOf "want_finishing" "Frames.want_finishing" (defArgs s_Frames_want_finishing) (defBody s_Frames_want_finishing) (defScope s_Frames_want_finishing) .none kV22 dc22 pm22 an22 cd22 ct22), sl22⟩) (c22 : PySem.W.codeIn K cd22 "Frames.want_finishing" = true) (k22 : PySem.W.keepIn K (.ref f22) = true)
    (a23 : PySem.W.nsIn K mainGlobals "_law_cell" = some (some (.ref f23)))
    (l23 : K.lookup f23 = some ⟨oc23, od23, .func (PySem.W.fnOf "_law_cell" "_law_cell" (defArgs s__law_cell) (defBody s__law_cell) (defScope s__law_cell) .none kV23 dc23 pm23 an23 cd23 ct23), sl23⟩) (c23 : PySem.W.codeIn K cd23 "_law_cell" = true) (k23 : PySem.W.keepIn K (.ref f23) = true)
    (a24 : PySem.W.nsIn K mainGlobals "_law_box" = some (some (.ref f24)))
    (l24 : K.lookup f24 = some ⟨oc24, od24, .func (PySem.W.fnOf "_law_box" "_law_box" (defArgs s__law_box) (defBody s__law_box) (defScope s__law_box) .none kV24 dc24 pm24 an24 cd24 ct24), sl24⟩) (c24 : PySem.W.codeIn K cd24 "_law_box" = true) (k24 : PySem.W.keepIn K (.ref f24) = true)
    (a25 : PySem.W.nsIn K mainGlobals "_law_take" = some (some (.ref f25)))
    (l25 : K.lookup f25 = some ⟨oc25, od25, .func (PySem.W.fnOf "_law_take" "_law_take" (defArgs s__law_take) (defBody s__law_take) (defScope s__law_take) .none kV25 dc25 pm25 an25 cd25 ct25), sl25⟩) (c25 : PySem.W.codeIn K cd25 "_law_take" = true) (k25 : PySem.W.keepIn K (.ref f25) = true)
    (a26 : PySem.W.nsIn K mainGlobals "_law_model" = some (some (.ref f26)))
    (l26 : K.lookup f26 = some ⟨oc26, od26, .func (PySem.W.fnOf "_law_model" "_law_model" (defArgs s__law_model) (defBody s__law_model) (defScope s__law_model) .none kV26 dc26 pm26 an26 cd26 ct26), sl26⟩) (c26 : PySem.W.codeIn K cd26 "_law_model" = true) (k26 : PySem.W.keepIn K (.ref f26) = true)
    (a27 : PySem.W.nsIn K mainGlobals "_law_standing" = some (some (.ref f27)))
    (l27 : K.lookup f27 = some ⟨oc27, od27, .func (PySem.W.fnOf "_law_standing" "_law_standing" (defArgs s__law_standing) (defBody s__law_standing) (defScope s__law_standing) .none kV27 dc27 pm27 an27 cd27 ct27), sl27⟩) (c27 : PySem.W.codeIn K cd27 "_law_standing" = true) (k27 : PySem.W.keepIn K (.ref f27) = true)
    (a28 : PySem.W.nsIn K mainGlobals "_law_row" = some (some (.ref f28)))
    (l28 : K.lookup f28 = some ⟨oc28, od28, .func (PySem.W.fnOf "_law_row" "_law_row" (defArgs s__law_row) (defBody s__law_row) (defScope s__law_row) .none kV28 dc28 pm28 an28 cd28 ct28), sl28⟩) (c28 : PySem.W.codeIn K cd28 "_law_row" = true) (k28 : PySem.W.keepIn K (.ref f28) = true)
    (a29 : PySem.W.nsIn K mainGlobals "_law_begin" = some (some (.ref f29)))
    (l29 : K.lookup f29 = some ⟨oc29, od29, .func (PySem.W.fnOf "_law_begin" "_law_begin" (defArgs s__law_begin) (defBody s__law_begin) (defScope s__law_begin) .none kV29 dc29 pm29 an29 cd29 ct29), sl29⟩) (c29 : PySem.W.codeIn K cd29 "_law_begin" = true) (k29 : PySem.W.keepIn K (.ref f29) = true)
    (a30 : PySem.W.nsIn K mainGlobals "_law_finish" = some (some (.ref f30)))
    (l30 : K.lookup f30 = some ⟨oc30, od30, .func (PySem.W.fnOf "_law_finish" "_law_finish" (defArgs s__law_finish) (defBody s__law_finish) (defScope s__law_finish) .none kV30 dc30 pm30 an30 cd30 ct30), sl30⟩) (c30 : PySem.W.codeIn K cd30 "_law_finish" = true) (k30 : PySem.W.keepIn K (.ref f30) = true)
    (a31 : PySem.W.nsIn K mainGlobals "_law_one" = some (some (.ref f31)))
    (l31 : K.lookup f31 = some ⟨oc31, od31, .func (PySem.W.fnOf "_law_one" "_law_one" (defArgs s__law_one) (defBody s__law_one) (defScope s__law_one) .none kV31 dc31 pm31 an31 cd31 ct31), sl31⟩) (c31 : PySem.W.codeIn K cd31 "_law_one" = true) (k31 : PySem.W.keepIn K (.ref f31) = true)
    (a32 : PySem.W.nsIn K mainGlobals "_law_deeds" = some (some (.ref f32)))
    (l32 : K.lookup f32 = some ⟨oc32, od32, .func (PySem.W.fnOf "_law_deeds" "_law_deeds" (defArgs s__law_deeds) (defBody s__law_deeds) (defScope s__law_deeds) .none kV32 dc32 pm32 an32 cd32 ct32), sl32⟩) (c32 : PySem.W.codeIn K cd32 "_law_deeds" = true) (k32 : PySem.W.keepIn K (.ref f32) = true)
    (a33 : PySem.W.nsIn K mainGlobals "_law_filled" = some (some (.ref f33)))
    (l33 : K.lookup f33 = some ⟨oc33, od33, .func (PySem.W.fnOf "_law_filled" "_law_filled" (defArgs s__law_filled) (defBody s__law_filled) (defScope s__law_filled) .none kV33 dc33 pm33 an33 cd33 ct33), sl33⟩) (c33 : PySem.W.codeIn K cd33 "_law_filled" = true) (k33 : PySem.W.keepIn K (.ref f33) = true)
    (a34 : PySem.W.nsIn K mainGlobals "_law_kinds" = some (some (.ref f34)))
    (l34 : K.lookup f34 = some ⟨oc34, od34, .func (PySem.W.fnOf "_law_kinds" "_law_kinds" (defArgs s__law_kinds) (defBody s__law_kinds) (defScope s__law_kinds) .none kV34 dc34 pm34 an34 cd34 ct34), sl34⟩) (c34 : PySem.W.codeIn K cd34 "_law_kinds" = true) (k34 : PySem.W.keepIn K (.ref f34) = true)
    (a35 : PySem.W.nsIn K mainGlobals "_law_caught" = some (some (.ref f35)))
    (l35 : K.lookup f35 = some ⟨oc35, od35, .func (PySem.W.fnOf "_law_caught" "_law_caught" (defArgs s__law_caught) (defBody s__law_caught) (defScope s__law_caught) .none kV35 dc35 pm35 an35 cd35 ct35), sl35⟩) (c35 : PySem.W.codeIn K cd35 "_law_caught" = true) (k35 : PySem.W.keepIn K (.ref f35) = true)
    (a36 : PySem.W.nsIn K mainGlobals "_law_due" = some (some (.ref f36)))
    (l36 : K.lookup f36 = some ⟨oc36, od36, .func (PySem.W.fnOf "_law_due" "_law_due" (defArgs s__law_due) (defBody s__law_due) (defScope s__law_due) .none kV36 dc36 pm36 an36 cd36 ct36), sl36⟩) (c36 : PySem.W.codeIn K cd36 "_law_due" = true) (k36 : PySem.W.keepIn K (.ref f36) = true)
    (a37 : PySem.W.nsIn K mainGlobals "_law_state" = some (some (.ref f37)))
    (l37 : K.lookup f37 = some ⟨oc37, od37, .func (PySem.W.fnOf "_law_state" "_law_state" (defArgs s__law_state) (defBody s__law_state) (defScope s__law_state) .none kV37 dc37 pm37 an37 cd37 ct37), sl37⟩) (c37 : PySem.W.codeIn K cd37 "_law_state" = true) (k37 : PySem.W.keepIn K (.ref f37) = true)
    (a38 : PySem.W.nsIn K mainGlobals "_law_goes_on" = some (some (.ref f38)))
    (l38 : K.lookup f38 = some ⟨oc38, od38, .func (PySem.W.fnOf "_law_goes_on" "_law_goes_on" (defArgs s__law_goes_on) (defBody s__law_goes_on) (defScope s__law_goes_on) .none kV38 dc38 pm38 an38 cd38 ct38), sl38⟩) (c38 : PySem.W.codeIn K cd38 "_law_goes_on" = true) (k38 : PySem.W.keepIn K (.ref f38) = true)
    (a39 : PySem.W.nsIn K mainGlobals "_law_things" = some (some (.ref f39)))
    (l39 : K.lookup f39 = some ⟨oc39, od39, .func (PySem.W.fnOf "_law_things" "_law_things" (defArgs s__law_things) (defBody s__law_things) (defScope s__law_things) .none kV39 dc39 pm39 an39 cd39 ct39), sl39⟩) (c39 : PySem.W.codeIn K cd39 "_law_things" = true) (k39 : PySem.W.keepIn K (.ref f39) = true)
    (a40 : PySem.W.nsIn K mainGlobals "law" = some (some (.ref f40)))
    (l40 : K.lookup f40 = some ⟨oc40, od40, .func (PySem.W.fnOf "law" "law" (defArgs s_law) (defBody s_law) (defScope s_law) .none kV40 dc40 pm40 an40 cd40 ct40), sl40⟩) (c40 : PySem.W.codeIn K cd40 "law" = true) (k40 : PySem.W.keepIn K (.ref f40) = true)
    (x_RoomError : K.lookup C_RoomError = some (excClassObj nm_RoomError q_RoomError C_RoomError N_RoomError bs_RoomError bm_RoomError true sn_RoomError sub_RoomError ab_RoomError col_RoomError dd_RoomError k0_RoomError k1_RoomError k2_RoomError k3_RoomError k5_RoomError "ValueError.__new__"))
    (t_RoomError : TailHas bm_RoomError)
    (ty_RoomError : PySem.W.typeIn K (.ref f0) = some (.type "function")) (kc_RoomError : PySem.W.keepIn K (.ref C_RoomError) = true) (sp_RoomError : PySem.W.specialIn K (.ref C_RoomError) "__getattribute__" = some (some (.builtin "type.__getattribute__"))) (rd_RoomError : PySem.W.readsIn K C_RoomError (.type "type") = true) (fc_RoomError : PySem.W.findCls K (.ref C_RoomError) (.type "type") "__init__" = some (.val (.ref f0)))
    (rf_RoomError : ∀ self, refuseLoop self "__setattr__" bm_RoomError = pure ())
    (ob_RoomError : bm_RoomError.contains (.type "object") = true)
    (sa_RoomError : PySem.W.findIn K (.ref C_RoomError) "__setattr__" = some (some (.builtin "object.__setattr__"))) (ga_RoomError : PySem.W.findIn K (.ref C_RoomError) "__getattribute__" = some (some (.builtin "BaseException.__getattribute__"))) (hk_RoomError : PySem.W.findIn K (.ref C_RoomError) "__getattr__" = some none) (mr_RoomError : PySem.W.mroIn K C_RoomError (.type "BaseException") = some true) (hd_RoomError : PySem.W.hasDictIn K C_RoomError = true)
    (u_RoomError_RoomError : (Value.ref C_RoomError :: bm_RoomError).contains (.ref C_RoomError) = true)
    (x_NoFrame : K.lookup C_NoFrame = some (excClassObj nm_NoFrame q_NoFrame C_NoFrame N_NoFrame bs_NoFrame bm_NoFrame true sn_NoFrame sub_NoFrame ab_NoFrame col_NoFrame dd_NoFrame k0_NoFrame k1_NoFrame k2_NoFrame k3_NoFrame k5_NoFrame "ValueError.__new__"))
    (t_NoFrame : TailHas bm_NoFrame)
    (ty_NoFrame : PySem.W.typeIn K (.ref f1) = some (.type "function")) (kc_NoFrame : PySem.W.keepIn K (.ref C_NoFrame) = true) (sp_NoFrame : PySem.W.specialIn K (.ref C_NoFrame) "__getattribute__" = some (some (.builtin "type.__getattribute__"))) (rd_NoFrame : PySem.W.readsIn K C_NoFrame (.type "type") = true) (fc_NoFrame : PySem.W.findCls K (.ref C_NoFrame) (.type "type") "__init__" = some (.val (.ref f1)))
    (rf_NoFrame : ∀ self, refuseLoop self "__setattr__" bm_NoFrame = pure ())
    (ob_NoFrame : bm_NoFrame.contains (.type "object") = true)
    (sa_NoFrame : PySem.W.findIn K (.ref C_NoFrame) "__setattr__" = some (some (.builtin "object.__setattr__"))) (ga_NoFrame : PySem.W.findIn K (.ref C_NoFrame) "__getattribute__" = some (some (.builtin "BaseException.__getattribute__"))) (hk_NoFrame : PySem.W.findIn K (.ref C_NoFrame) "__getattr__" = some none) (mr_NoFrame : PySem.W.mroIn K C_NoFrame (.type "BaseException") = some true) (hd_NoFrame : PySem.W.hasDictIn K C_NoFrame = true)
    (u_NoFrame_NoFrame : (Value.ref C_NoFrame :: bm_NoFrame).contains (.ref C_NoFrame) = true)
    (u_NoFrame_RoomError : (Value.ref C_NoFrame :: bm_NoFrame).contains (.ref C_RoomError) = true)
    (n_NoFrame_found : PySem.W.findIn K (.ref C_NoFrame) "found" = some none)
    (ca_NoFrame : PySem.W.findIn K (.ref C_NoFrame) "__class__" = some (some (.builtin "object.__class__"))) (gt_NoFrame : PySem.W.specialIn K (.builtin "object.__class__") "__get__" = some (some (.builtin "getset_descriptor.__get__"))) (tk_NoFrame : PySem.W.takesIn K (.builtin "object.__class__") = some true) (mo_NoFrame : PySem.W.mroIn K C_NoFrame (.type "object") = some true)
    (tt_NoFrame : PySem.W.typeIn K (.ref C_NoFrame) = some (.type "type"))
    (ne_NoFrame_Gone : (Value.ref C_NoFrame == Value.ref C_Gone) = false) (mi_NoFrame_Gone : PySem.W.mroIn K C_NoFrame (.ref C_Gone) = some false)
    (ne_NoFrame_Ground : (Value.ref C_NoFrame == Value.ref C_Ground) = false) (mi_NoFrame_Ground : PySem.W.mroIn K C_NoFrame (.ref C_Ground) = some false)
    (ne_NoFrame_TooMany : (Value.ref C_NoFrame == Value.ref C_TooMany) = false) (mi_NoFrame_TooMany : PySem.W.mroIn K C_NoFrame (.ref C_TooMany) = some false)
    (x_Gone : K.lookup C_Gone = some (excClassObj nm_Gone q_Gone C_Gone N_Gone bs_Gone bm_Gone true sn_Gone sub_Gone ab_Gone col_Gone dd_Gone k0_Gone k1_Gone k2_Gone k3_Gone k5_Gone "ValueError.__new__"))
    (t_Gone : TailHas bm_Gone)
    (ty_Gone : PySem.W.typeIn K (.ref f2) = some (.type "function")) (kc_Gone : PySem.W.keepIn K (.ref C_Gone) = true) (sp_Gone : PySem.W.specialIn K (.ref C_Gone) "__getattribute__" = some (some (.builtin "type.__getattribute__"))) (rd_Gone : PySem.W.readsIn K C_Gone (.type "type") = true) (fc_Gone : PySem.W.findCls K (.ref C_Gone) (.type "type") "__init__" = some (.val (.ref f2)))
    (rf_Gone : ∀ self, refuseLoop self "__setattr__" bm_Gone = pure ())
    (ob_Gone : bm_Gone.contains (.type "object") = true)
    (sa_Gone : PySem.W.findIn K (.ref C_Gone) "__setattr__" = some (some (.builtin "object.__setattr__"))) (ga_Gone : PySem.W.findIn K (.ref C_Gone) "__getattribute__" = some (some (.builtin "BaseException.__getattribute__"))) (hk_Gone : PySem.W.findIn K (.ref C_Gone) "__getattr__" = some none) (mr_Gone : PySem.W.mroIn K C_Gone (.type "BaseException") = some true) (hd_Gone : PySem.W.hasDictIn K C_Gone = true)
    (u_Gone_Gone : (Value.ref C_Gone :: bm_Gone).contains (.ref C_Gone) = true)
    (u_Gone_RoomError : (Value.ref C_Gone :: bm_Gone).contains (.ref C_RoomError) = true)
    (n_Gone_by : PySem.W.findIn K (.ref C_Gone) "by" = some none)
    (n_Gone_found : PySem.W.findIn K (.ref C_Gone) "found" = some none)
    (ca_Gone : PySem.W.findIn K (.ref C_Gone) "__class__" = some (some (.builtin "object.__class__"))) (gt_Gone : PySem.W.specialIn K (.builtin "object.__class__") "__get__" = some (some (.builtin "getset_descriptor.__get__"))) (tk_Gone : PySem.W.takesIn K (.builtin "object.__class__") = some true) (mo_Gone : PySem.W.mroIn K C_Gone (.type "object") = some true)
    (ne_Gone_NoFrame : (Value.ref C_Gone == Value.ref C_NoFrame) = false) (mi_Gone_NoFrame : PySem.W.mroIn K C_Gone (.ref C_NoFrame) = some false)
    (tt_Gone : PySem.W.typeIn K (.ref C_Gone) = some (.type "type"))
    (ne_Gone_Ground : (Value.ref C_Gone == Value.ref C_Ground) = false) (mi_Gone_Ground : PySem.W.mroIn K C_Gone (.ref C_Ground) = some false)
    (ne_Gone_TooMany : (Value.ref C_Gone == Value.ref C_TooMany) = false) (mi_Gone_TooMany : PySem.W.mroIn K C_Gone (.ref C_TooMany) = some false)
    (x_Ground : K.lookup C_Ground = some (excClassObj nm_Ground q_Ground C_Ground N_Ground bs_Ground bm_Ground true sn_Ground sub_Ground ab_Ground col_Ground dd_Ground k0_Ground k1_Ground k2_Ground k3_Ground k5_Ground "ValueError.__new__"))
    (t_Ground : TailHas bm_Ground)
    (ty_Ground : PySem.W.typeIn K (.ref f3) = some (.type "function")) (kc_Ground : PySem.W.keepIn K (.ref C_Ground) = true) (sp_Ground : PySem.W.specialIn K (.ref C_Ground) "__getattribute__" = some (some (.builtin "type.__getattribute__"))) (rd_Ground : PySem.W.readsIn K C_Ground (.type "type") = true) (fc_Ground : PySem.W.findCls K (.ref C_Ground) (.type "type") "__init__" = some (.val (.ref f3)))
    (rf_Ground : ∀ self, refuseLoop self "__setattr__" bm_Ground = pure ())
    (ob_Ground : bm_Ground.contains (.type "object") = true)
    (sa_Ground : PySem.W.findIn K (.ref C_Ground) "__setattr__" = some (some (.builtin "object.__setattr__"))) (ga_Ground : PySem.W.findIn K (.ref C_Ground) "__getattribute__" = some (some (.builtin "BaseException.__getattribute__"))) (hk_Ground : PySem.W.findIn K (.ref C_Ground) "__getattr__" = some none) (mr_Ground : PySem.W.mroIn K C_Ground (.type "BaseException") = some true) (hd_Ground : PySem.W.hasDictIn K C_Ground = true)
    (u_Ground_Ground : (Value.ref C_Ground :: bm_Ground).contains (.ref C_Ground) = true)
    (u_Ground_RoomError : (Value.ref C_Ground :: bm_Ground).contains (.ref C_RoomError) = true)
    (ca_Ground : PySem.W.findIn K (.ref C_Ground) "__class__" = some (some (.builtin "object.__class__"))) (gt_Ground : PySem.W.specialIn K (.builtin "object.__class__") "__get__" = some (some (.builtin "getset_descriptor.__get__"))) (tk_Ground : PySem.W.takesIn K (.builtin "object.__class__") = some true) (mo_Ground : PySem.W.mroIn K C_Ground (.type "object") = some true)
    (ne_Ground_NoFrame : (Value.ref C_Ground == Value.ref C_NoFrame) = false) (mi_Ground_NoFrame : PySem.W.mroIn K C_Ground (.ref C_NoFrame) = some false)
    (ne_Ground_Gone : (Value.ref C_Ground == Value.ref C_Gone) = false) (mi_Ground_Gone : PySem.W.mroIn K C_Ground (.ref C_Gone) = some false)
    (tt_Ground : PySem.W.typeIn K (.ref C_Ground) = some (.type "type"))
    (ne_Ground_TooMany : (Value.ref C_Ground == Value.ref C_TooMany) = false) (mi_Ground_TooMany : PySem.W.mroIn K C_Ground (.ref C_TooMany) = some false)
    (x_TooMany : K.lookup C_TooMany = some (excClassObj nm_TooMany q_TooMany C_TooMany N_TooMany bs_TooMany bm_TooMany true sn_TooMany sub_TooMany ab_TooMany col_TooMany dd_TooMany k0_TooMany k1_TooMany k2_TooMany k3_TooMany k5_TooMany "ValueError.__new__"))
    (t_TooMany : TailHas bm_TooMany)
    (ty_TooMany : PySem.W.typeIn K (.ref f4) = some (.type "function")) (kc_TooMany : PySem.W.keepIn K (.ref C_TooMany) = true) (sp_TooMany : PySem.W.specialIn K (.ref C_TooMany) "__getattribute__" = some (some (.builtin "type.__getattribute__"))) (rd_TooMany : PySem.W.readsIn K C_TooMany (.type "type") = true) (fc_TooMany : PySem.W.findCls K (.ref C_TooMany) (.type "type") "__init__" = some (.val (.ref f4)))
    (rf_TooMany : ∀ self, refuseLoop self "__setattr__" bm_TooMany = pure ())
    (ob_TooMany : bm_TooMany.contains (.type "object") = true)
    (sa_TooMany : PySem.W.findIn K (.ref C_TooMany) "__setattr__" = some (some (.builtin "object.__setattr__"))) (ga_TooMany : PySem.W.findIn K (.ref C_TooMany) "__getattribute__" = some (some (.builtin "BaseException.__getattribute__"))) (hk_TooMany : PySem.W.findIn K (.ref C_TooMany) "__getattr__" = some none) (mr_TooMany : PySem.W.mroIn K C_TooMany (.type "BaseException") = some true) (hd_TooMany : PySem.W.hasDictIn K C_TooMany = true)
    (u_TooMany_TooMany : (Value.ref C_TooMany :: bm_TooMany).contains (.ref C_TooMany) = true)
    (u_TooMany_RoomError : (Value.ref C_TooMany :: bm_TooMany).contains (.ref C_RoomError) = true)
    (n_TooMany_many : PySem.W.findIn K (.ref C_TooMany) "many" = some none)
    (ca_TooMany : PySem.W.findIn K (.ref C_TooMany) "__class__" = some (some (.builtin "object.__class__"))) (gt_TooMany : PySem.W.specialIn K (.builtin "object.__class__") "__get__" = some (some (.builtin "getset_descriptor.__get__"))) (tk_TooMany : PySem.W.takesIn K (.builtin "object.__class__") = some true) (mo_TooMany : PySem.W.mroIn K C_TooMany (.type "object") = some true)
    (ne_TooMany_NoFrame : (Value.ref C_TooMany == Value.ref C_NoFrame) = false) (mi_TooMany_NoFrame : PySem.W.mroIn K C_TooMany (.ref C_NoFrame) = some false)
    (ne_TooMany_Gone : (Value.ref C_TooMany == Value.ref C_Gone) = false) (mi_TooMany_Gone : PySem.W.mroIn K C_TooMany (.ref C_Gone) = some false)
    (ne_TooMany_Ground : (Value.ref C_TooMany == Value.ref C_Ground) = false) (mi_TooMany_Ground : PySem.W.mroIn K C_TooMany (.ref C_Ground) = some false)
    (tt_TooMany : PySem.W.typeIn K (.ref C_TooMany) = some (.type "type"))
    (pg_Frames : PySem.W.plainGet K C_Frames Str.empty = true) (hd_Frames : PySem.W.hasDictIn K C_Frames = true) (po_Frames : PySem.W.plainOver K C_Frames = true) (sa_Frames : PySem.W.findIn K (.ref C_Frames) "__setattr__" = some (some (.builtin "object.__setattr__"))) (mk_Frames : PySem.W.makesIn K C_Frames = true) (kc_Frames : PySem.W.keepIn K (.ref C_Frames) = true)
    (n_Frames_parents : PySem.W.findIn K (.ref C_Frames) "parents" = some none)
    (n_Frames_takers : PySem.W.findIn K (.ref C_Frames) "takers" = some none)
    (z_ValueError : PySem.W.nsIn K mainGlobals "ValueError" = some none)
    (z_bool : PySem.W.nsIn K mainGlobals "bool" = some none)
    (z_enumerate : PySem.W.nsIn K mainGlobals "enumerate" = some none)
    (z_int : PySem.W.nsIn K mainGlobals "int" = some none)
    (z_isinstance : PySem.W.nsIn K mainGlobals "isinstance" = some none)
    (z_len : PySem.W.nsIn K mainGlobals "len" = some none)
    (z_list : PySem.W.nsIn K mainGlobals "list" = some none)
    (z_max : PySem.W.nsIn K mainGlobals "max" = some none)
    (z_min : PySem.W.nsIn K mainGlobals "min" = some none)
    (z_range : PySem.W.nsIn K mainGlobals "range" = some none)
    (z_repr : PySem.W.nsIn K mainGlobals "repr" = some none)
    (z_reversed : PySem.W.nsIn K mainGlobals "reversed" = some none)
    (g_GROUND : PySem.W.nsIn K mainGlobals "GROUND" = some (some (.int 0 u_GROUND)))
    (g_MOST_FRAMES : PySem.W.nsIn K mainGlobals "MOST_FRAMES" = some (some (.int 100 u_MOST_FRAMES))) :
    ∃ A : Adr, Txt K mg A :=
  ⟨⟨f0, PySem.W.fnOf "__init__" "RoomError.__init__" (defArgs s_RoomError___init__) (defBody s_RoomError___init__) (defScope s_RoomError___init__) .none kV0 dc0 pm0 an0 cd0 ct0, f1, PySem.W.fnOf "__init__" "NoFrame.__init__" (defArgs s_NoFrame___init__) (defBody s_NoFrame___init__) (defScope s_NoFrame___init__) .none kV1 dc1 pm1 an1 cd1 ct1, f2, PySem.W.fnOf "__init__" "Gone.__init__" (defArgs s_Gone___init__) (defBody s_Gone___init__) (defScope s_Gone___init__) .none kV2 dc2 pm2 an2 cd2 ct2, f3, PySem.W.fnOf "__init__" "Ground.__init__" (defArgs s_Ground___init__) (defBody s_Ground___init__) (defScope s_Ground___init__) .none kV3 dc3 pm3 an3 cd3 ct3, f4, PySem.W.fnOf "__init__" "TooMany.__init__" (defArgs s_TooMany___init__) (defBody s_TooMany___init__) (defScope s_TooMany___init__) .none kV4 dc4 pm4 an4 cd4 ct4, f5, PySem.W.fnOf "is_number" "is_number" (defArgs s_is_number) (defBody s_is_number) (defScope s_is_number) .none kV5 dc5 pm5 an5 cd5 ct5, f6, PySem.W.fnOf "is_whole" "is_whole" (defArgs s_is_whole) (defBody s_is_whole) (defScope s_is_whole) .none kV6 dc6 pm6 an6 cd6 ct6, f7, PySem.W.fnOf "__init__" "Frames.__init__" (defArgs s_Frames___init__) (defBody s_Frames___init__) (defScope s_Frames___init__) .none kV7 dc7 pm7 an7 cd7 ct7, f8, PySem.W.fnOf "begin" "Frames.begin" (defArgs s_Frames_begin) (defBody s_Frames_begin) (defScope s_Frames_begin) .none kV8 dc8 pm8 an8 cd8 ct8, f9, PySem.W.fnOf "finish" "Frames.finish" (defArgs s_Frames_finish) (defBody s_Frames_finish) (defScope s_Frames_finish) .none kV9 dc9 pm9 an9 cd9 ct9, f10, PySem.W.fnOf "part" "Frames.part" (defArgs s_Frames_part) (defBody s_Frames_part) (defScope s_Frames_part) .none kV10 dc10 pm10 an10 cd10 ct10, f11, PySem.W.fnOf "inside" "Frames.inside" (defArgs s_Frames_inside) (defBody s_Frames_inside) (defScope s_Frames_inside) .none kV11 dc11 pm11 an11 cd11 ct11, f12, PySem.W.fnOf "row" "Frames.row" (defArgs s_Frames_row) (defBody s_Frames_row) (defScope s_Frames_row) .none kV12 dc12 pm12 an12 cd12 ct12, f13, PySem.W.fnOf "within" "Frames.within" (defArgs s_Frames_within) (defBody s_Frames_within) (defScope s_Frames_within) .none kV13 dc13 pm13 an13 cd13 ct13, f14, PySem.W.fnOf "ended_by" "Frames.ended_by" (defArgs s_Frames_ended_by) (defBody s_Frames_ended_by) (defScope s_Frames_ended_by) .none kV14 dc14 pm14 an14 cd14 ct14, f15, PySem.W.fnOf "stands" "Frames.stands" (defArgs s_Frames_stands) (defBody s_Frames_stands) (defScope s_Frames_stands) .none kV15 dc15 pm15 an15 cd15 ct15, f16, PySem.W.fnOf "standing" "Frames.standing" (defArgs s_Frames_standing) (defBody s_Frames_standing) (defScope s_Frames_standing) .none kV16 dc16 pm16 an16 cd16 ct16, f17, PySem.W.fnOf "begun" "Frames.begun" (defArgs s_Frames_begun) (defBody s_Frames_begun) (defScope s_Frames_begun) .none kV17 dc17 pm17 an17 cd17 ct17, f18, PySem.W.fnOf "was_begun" "Frames.was_begun" (defArgs s_Frames_was_begun) (defBody s_Frames_was_begun) (defScope s_Frames_was_begun) .none kV18 dc18 pm18 an18 cd18 ct18, f19, PySem.W.fnOf "want_begun" "Frames.want_begun" (defArgs s_Frames_want_begun) (defBody s_Frames_want_begun) (defScope s_Frames_want_begun) .none kV19 dc19 pm19 an19 cd19 ct19, f20, PySem.W.fnOf "want_standing" "Frames.want_standing" (defArgs s_Frames_want_standing) (defBody s_Frames_want_standing) (defScope s_Frames_want_standing) .none kV20 dc20 pm20 an20 cd20 ct20, f21, PySem.W.fnOf "want_beginning" "Frames.want_beginning" (defArgs s_Frames_want_beginning) (defBody s_Frames_want_beginning) (defScope s_Frames_want_beginning) .none kV21 dc21 pm21 an21 cd21 ct21, f22, PySem.W.fnOf "want_finishing" "Frames.want_finishing" (defArgs s_Frames_want_finishing) (defBody s_Frames_want_finishing) (defScope s_Frames_want_finishing) .none kV22 dc22 pm22 an22 cd22 ct22, f23, PySem.W.fnOf "_law_cell" "_law_cell" (defArgs s__law_cell) (defBody s__law_cell) (defScope s__law_cell) .none kV23 dc23 pm23 an23 cd23 ct23, f24, PySem.W.fnOf "_law_box" "_law_box" (defArgs s__law_box) (defBody s__law_box) (defScope s__law_box) .none kV24 dc24 pm24 an24 cd24 ct24, f25, PySem.W.fnOf "_law_take" "_law_take" (defArgs s__law_take) (defBody s__law_take) (defScope s__law_take) .none kV25 dc25 pm25 an25 cd25 ct25, f26, PySem.W.fnOf "_law_model" "_law_model" (defArgs s__law_model) (defBody s__law_model) (defScope s__law_model) .none kV26 dc26 pm26 an26 cd26 ct26, f27, PySem.W.fnOf "_law_standing" "_law_standing" (defArgs s__law_standing) (defBody s__law_standing) (defScope s__law_standing) .none kV27 dc27 pm27 an27 cd27 ct27, f28, PySem.W.fnOf "_law_row" "_law_row" (defArgs s__law_row) (defBody s__law_row) (defScope s__law_row) .none kV28 dc28 pm28 an28 cd28 ct28, f29, PySem.W.fnOf "_law_begin" "_law_begin" (defArgs s__law_begin) (defBody s__law_begin) (defScope s__law_begin) .none kV29 dc29 pm29 an29 cd29 ct29, f30, PySem.W.fnOf "_law_finish" "_law_finish" (defArgs s__law_finish) (defBody s__law_finish) (defScope s__law_finish) .none kV30 dc30 pm30 an30 cd30 ct30, f31, PySem.W.fnOf "_law_one" "_law_one" (defArgs s__law_one) (defBody s__law_one) (defScope s__law_one) .none kV31 dc31 pm31 an31 cd31 ct31, f32, PySem.W.fnOf "_law_deeds" "_law_deeds" (defArgs s__law_deeds) (defBody s__law_deeds) (defScope s__law_deeds) .none kV32 dc32 pm32 an32 cd32 ct32, f33, PySem.W.fnOf "_law_filled" "_law_filled" (defArgs s__law_filled) (defBody s__law_filled) (defScope s__law_filled) .none kV33 dc33 pm33 an33 cd33 ct33, f34, PySem.W.fnOf "_law_kinds" "_law_kinds" (defArgs s__law_kinds) (defBody s__law_kinds) (defScope s__law_kinds) .none kV34 dc34 pm34 an34 cd34 ct34, f35, PySem.W.fnOf "_law_caught" "_law_caught" (defArgs s__law_caught) (defBody s__law_caught) (defScope s__law_caught) .none kV35 dc35 pm35 an35 cd35 ct35, f36, PySem.W.fnOf "_law_due" "_law_due" (defArgs s__law_due) (defBody s__law_due) (defScope s__law_due) .none kV36 dc36 pm36 an36 cd36 ct36, f37, PySem.W.fnOf "_law_state" "_law_state" (defArgs s__law_state) (defBody s__law_state) (defScope s__law_state) .none kV37 dc37 pm37 an37 cd37 ct37, f38, PySem.W.fnOf "_law_goes_on" "_law_goes_on" (defArgs s__law_goes_on) (defBody s__law_goes_on) (defScope s__law_goes_on) .none kV38 dc38 pm38 an38 cd38 ct38, f39, PySem.W.fnOf "_law_things" "_law_things" (defArgs s__law_things) (defBody s__law_things) (defScope s__law_things) .none kV39 dc39 pm39 an39 cd39 ct39, f40, PySem.W.fnOf "law" "law" (defArgs s_law) (defBody s_law) (defScope s_law) .none kV40 dc40 pm40 an40 cd40 ct40, C_RoomError, C_NoFrame, C_Gone, C_Ground, C_TooMany, C_Frames⟩,
    ⟨fun_mk (st := s_RoomError___init__) l0 c0 k0,
    ((fun_mk (st := s_RoomError___init__) l0 c0 k0).binds (ps := ["self", "text"]) fun _ _ _ _ _ _ us hl => match us, hl with | [_, _], _ => rfl),
    fun_mk (st := s_NoFrame___init__) l1 c1 k1,
    ((fun_mk (st := s_NoFrame___init__) l1 c1 k1).binds (ps := ["self", "found"]) fun _ _ _ _ _ _ us hl => match us, hl with | [_, _], _ => rfl),
    fun_mk (st := s_Gone___init__) l2 c2 k2,
    ((fun_mk (st := s_Gone___init__) l2 c2 k2).binds (ps := ["self", "found", "by"]) fun _ _ _ _ _ _ us hl => match us, hl with | [_, _, _], _ => rfl),
    fun_mk (st := s_Ground___init__) l3 c3 k3,
    ((fun_mk (st := s_Ground___init__) l3 c3 k3).binds (ps := ["self"]) fun _ _ _ _ _ _ us hl => match us, hl with | [_], _ => rfl),
    fun_mk (st := s_TooMany___init__) l4 c4 k4,
    ((fun_mk (st := s_TooMany___init__) l4 c4 k4).binds (ps := ["self", "many"]) fun _ _ _ _ _ _ us hl => match us, hl with | [_, _], _ => rfl),
    PySem.W.mg_of X G a5,
    fun_mk (st := s_is_number) l5 c5 k5,
    ((fun_mk (st := s_is_number) l5 c5 k5).binds (ps := ["thing"]) fun _ _ _ _ _ _ us hl => match us, hl with | [_], _ => rfl),
    PySem.W.mg_of X G a6,
    fun_mk (st := s_is_whole) l6 c6 k6,
    ((fun_mk (st := s_is_whole) l6 c6 k6).binds (ps := ["thing", "low", "high"]) fun _ _ _ _ _ _ us hl => match us, hl with | [_, _, _], _ => rfl),
    fun_mk (st := s_Frames___init__) l7 c7 k7,
    ((fun_mk (st := s_Frames___init__) l7 c7 k7).binds (ps := ["self"]) fun _ _ _ _ _ _ us hl => match us, hl with | [_], _ => rfl),
    fun_mk (st := s_Frames_begin) l8 c8 k8,
    ((fun_mk (st := s_Frames_begin) l8 c8 k8).binds (ps := ["self", "frame"]) fun _ _ _ _ _ _ us hl => match us, hl with | [_, _], _ => rfl),
    ⟨a8, i8, k8⟩,
    fun_mk (st := s_Frames_finish) l9 c9 k9,
    ((fun_mk (st := s_Frames_finish) l9 c9 k9).binds (ps := ["self", "frame"]) fun _ _ _ _ _ _ us hl => match us, hl with | [_, _], _ => rfl),
    ⟨a9, i9, k9⟩,
    fun_mk (st := s_Frames_part) l10 c10 k10,
    ((fun_mk (st := s_Frames_part) l10 c10 k10).binds (ps := ["self", "frame"]) fun _ _ _ _ _ _ us hl => match us, hl with | [_, _], _ => rfl),
    ⟨a10, i10, k10⟩,
    fun_mk (st := s_Frames_inside) l11 c11 k11,
    ((fun_mk (st := s_Frames_inside) l11 c11 k11).binds (ps := ["self", "frame"]) fun _ _ _ _ _ _ us hl => match us, hl with | [_, _], _ => rfl),
    ⟨a11, i11, k11⟩,
    fun_mk (st := s_Frames_row) l12 c12 k12,
    ((fun_mk (st := s_Frames_row) l12 c12 k12).binds (ps := ["self", "frame"]) fun _ _ _ _ _ _ us hl => match us, hl with | [_, _], _ => rfl),
    ⟨a12, i12, k12⟩,
    fun_mk (st := s_Frames_within) l13 c13 k13,
    ((fun_mk (st := s_Frames_within) l13 c13 k13).binds (ps := ["self", "frame"]) fun _ _ _ _ _ _ us hl => match us, hl with | [_, _], _ => rfl),
    ⟨a13, i13, k13⟩,
    fun_mk (st := s_Frames_ended_by) l14 c14 k14,
    ((fun_mk (st := s_Frames_ended_by) l14 c14 k14).binds (ps := ["self", "frame"]) fun _ _ _ _ _ _ us hl => match us, hl with | [_, _], _ => rfl),
    ⟨a14, i14, k14⟩,
    fun_mk (st := s_Frames_stands) l15 c15 k15,
    ((fun_mk (st := s_Frames_stands) l15 c15 k15).binds (ps := ["self", "thing"]) fun _ _ _ _ _ _ us hl => match us, hl with | [_, _], _ => rfl),
    ⟨a15, i15, k15⟩,
    fun_mk (st := s_Frames_standing) l16 c16 k16,
    ((fun_mk (st := s_Frames_standing) l16 c16 k16).binds (ps := ["self"]) fun _ _ _ _ _ _ us hl => match us, hl with | [_], _ => rfl),
    ⟨a16, i16, k16⟩,
    fun_mk (st := s_Frames_begun) l17 c17 k17,
    ((fun_mk (st := s_Frames_begun) l17 c17 k17).binds (ps := ["self"]) fun _ _ _ _ _ _ us hl => match us, hl with | [_], _ => rfl),
    ⟨a17, i17, k17⟩,
    fun_mk (st := s_Frames_was_begun) l18 c18 k18,
    ((fun_mk (st := s_Frames_was_begun) l18 c18 k18).binds (ps := ["self", "thing"]) fun _ _ _ _ _ _ us hl => match us, hl with | [_, _], _ => rfl),
    ⟨a18, i18, k18⟩,
    fun_mk (st := s_Frames_want_begun) l19 c19 k19,
    ((fun_mk (st := s_Frames_want_begun) l19 c19 k19).binds (ps := ["self", "thing"]) fun _ _ _ _ _ _ us hl => match us, hl with | [_, _], _ => rfl),
    ⟨a19, i19, k19⟩,
    fun_mk (st := s_Frames_want_standing) l20 c20 k20,
    ((fun_mk (st := s_Frames_want_standing) l20 c20 k20).binds (ps := ["self", "thing"]) fun _ _ _ _ _ _ us hl => match us, hl with | [_, _], _ => rfl),
    ⟨a20, i20, k20⟩,
    fun_mk (st := s_Frames_want_beginning) l21 c21 k21,
    ((fun_mk (st := s_Frames_want_beginning) l21 c21 k21).binds (ps := ["self", "thing"]) fun _ _ _ _ _ _ us hl => match us, hl with | [_, _], _ => rfl),
    ⟨a21, i21, k21⟩,
    fun_mk (st := s_Frames_want_finishing) l22 c22 k22,
    ((fun_mk (st := s_Frames_want_finishing) l22 c22 k22).binds (ps := ["self", "thing"]) fun _ _ _ _ _ _ us hl => match us, hl with | [_, _], _ => rfl),
    ⟨a22, i22, k22⟩,
    PySem.W.mg_of X G a23,
    fun_mk (st := s__law_cell) l23 c23 k23,
    ((fun_mk (st := s__law_cell) l23 c23 k23).binds (ps := ["_law_script", "_law_k"]) fun _ _ _ _ _ _ us hl => match us, hl with | [_, _], _ => rfl),
    PySem.W.mg_of X G a24,
    fun_mk (st := s__law_box) l24 c24 k24,
    ((fun_mk (st := s__law_box) l24 c24 k24).binds (ps := ["_law_cell_here"]) fun _ _ _ _ _ _ us hl => match us, hl with | [_], _ => rfl),
    PySem.W.mg_of X G a25,
    fun_mk (st := s__law_take) l25 c25 k25,
    ((fun_mk (st := s__law_take) l25 c25 k25).binds (ps := ["_law_box_here", "_law_many"]) fun _ _ _ _ _ _ us hl => match us, hl with | [_, _], _ => rfl),
    PySem.W.mg_of X G a26,
    fun_mk (st := s__law_model) l26 c26 k26,
    ((fun_mk (st := s__law_model) l26 c26 k26).binds (ps := []) fun _ _ _ _ _ _ us hl => match us, hl with | [], _ => rfl),
    PySem.W.mg_of X G a27,
    fun_mk (st := s__law_standing) l27 c27 k27,
    ((fun_mk (st := s__law_standing) l27 c27 k27).binds (ps := ["_law_model_here"]) fun _ _ _ _ _ _ us hl => match us, hl with | [_], _ => rfl),
    PySem.W.mg_of X G a28,
    fun_mk (st := s__law_row) l28 c28 k28,
    ((fun_mk (st := s__law_row) l28 c28 k28).binds (ps := ["_law_model_here", "_law_frame"]) fun _ _ _ _ _ _ us hl => match us, hl with | [_, _], _ => rfl),
    PySem.W.mg_of X G a29,
    fun_mk (st := s__law_begin) l29 c29 k29,
    ((fun_mk (st := s__law_begin) l29 c29 k29).binds (ps := ["_law_model_here", "_law_frame"]) fun _ _ _ _ _ _ us hl => match us, hl with | [_, _], _ => rfl),
    PySem.W.mg_of X G a30,
    fun_mk (st := s__law_finish) l30 c30 k30,
    ((fun_mk (st := s__law_finish) l30 c30 k30).binds (ps := ["_law_model_here", "_law_frame"]) fun _ _ _ _ _ _ us hl => match us, hl with | [_, _], _ => rfl),
    PySem.W.mg_of X G a31,
    fun_mk (st := s__law_one) l31 c31 k31,
    ((fun_mk (st := s__law_one) l31 c31 k31).binds (ps := ["_law_box_here", "_law_some"]) fun _ _ _ _ _ _ us hl => match us, hl with | [_, _], _ => rfl),
    PySem.W.mg_of X G a32,
    fun_mk (st := s__law_deeds) l32 c32 k32,
    ((fun_mk (st := s__law_deeds) l32 c32 k32).binds (ps := ["_law_box_here", "_law_frames", "_law_model_here", "_law_many"]) fun _ _ _ _ _ _ us hl => match us, hl with | [_, _, _, _], _ => rfl),
    PySem.W.mg_of X G a33,
    fun_mk (st := s__law_filled) l33 c33 k33,
    ((fun_mk (st := s__law_filled) l33 c33 k33).binds (ps := ["_law_frames", "_law_model_here"]) fun _ _ _ _ _ _ us hl => match us, hl with | [_, _], _ => rfl),
    PySem.W.mg_of X G a34,
    fun_mk (st := s__law_kinds) l34 c34 k34,
    ((fun_mk (st := s__law_kinds) l34 c34 k34).binds (ps := ["_law_e"]) fun _ _ _ _ _ _ us hl => match us, hl with | [_], _ => rfl),
    PySem.W.mg_of X G a35,
    fun_mk (st := s__law_caught) l35 c35 k35,
    ((fun_mk (st := s__law_caught) l35 c35 k35).binds (ps := ["_law_way", "_law_frames", "_law_thing"]) fun _ _ _ _ _ _ us hl => match us, hl with | [_, _, _], _ => rfl),
    PySem.W.mg_of X G a36,
    fun_mk (st := s__law_due) l36 c36 k36,
    ((fun_mk (st := s__law_due) l36 c36 k36).binds (ps := ["_law_way", "_law_model_here", "_law_thing"]) fun _ _ _ _ _ _ us hl => match us, hl with | [_, _, _], _ => rfl),
    PySem.W.mg_of X G a37,
    fun_mk (st := s__law_state) l37 c37 k37,
    ((fun_mk (st := s__law_state) l37 c37 k37).binds (ps := ["_law_frames"]) fun _ _ _ _ _ _ us hl => match us, hl with | [_], _ => rfl),
    PySem.W.mg_of X G a38,
    fun_mk (st := s__law_goes_on) l38 c38 k38,
    ((fun_mk (st := s__law_goes_on) l38 c38 k38).binds (ps := ["_law_box_here", "_law_frames", "_law_model_here"]) fun _ _ _ _ _ _ us hl => match us, hl with | [_, _, _], _ => rfl),
    PySem.W.mg_of X G a39,
    fun_mk (st := s__law_things) l39 c39 k39,
    ((fun_mk (st := s__law_things) l39 c39 k39).binds (ps := ["_law_box_here", "_law_model_here"]) fun _ _ _ _ _ _ us hl => match us, hl with | [_, _], _ => rfl),
    PySem.W.mg_of X G a40,
    fun_mk (st := s_law) l40 c40 k40,
    ((fun_mk (st := s_law) l40 c40 k40).binds (ps := ["_law_script"]) fun _ _ _ _ _ _ us hl => match us, hl with | [_], _ => rfl),
    PySem.W.mg_of X G c_RoomError,
    ⟨⟨⟨nm_RoomError, q_RoomError, N_RoomError, bs_RoomError, bm_RoomError, true, sn_RoomError, sub_RoomError, ab_RoomError, col_RoomError, dd_RoomError, k0_RoomError, k1_RoomError, k2_RoomError, k3_RoomError, k5_RoomError, x_RoomError, t_RoomError⟩⟩, a0, ty_RoomError, kc_RoomError⟩,
    ⟨sp_RoomError, rd_RoomError, fc_RoomError, k0⟩,
    ⟨⟨nm_RoomError, q_RoomError, N_RoomError, bs_RoomError, bm_RoomError, sn_RoomError, sub_RoomError, ab_RoomError, col_RoomError, dd_RoomError, k0_RoomError, k1_RoomError, k2_RoomError, k3_RoomError, k5_RoomError, x_RoomError, rf_RoomError, ob_RoomError⟩, sa_RoomError⟩,
    ⟨ga_RoomError, hk_RoomError, mr_RoomError, hd_RoomError⟩,
    ⟨⟨nm_RoomError, q_RoomError, N_RoomError, bs_RoomError, bm_RoomError, true, sn_RoomError, sub_RoomError, ab_RoomError, col_RoomError, dd_RoomError, k0_RoomError, k1_RoomError, k2_RoomError, k3_RoomError, k5_RoomError, "ValueError.__new__", x_RoomError, u_RoomError_RoomError⟩⟩,
    PySem.W.mg_of X G c_NoFrame,
    ⟨⟨⟨nm_NoFrame, q_NoFrame, N_NoFrame, bs_NoFrame, bm_NoFrame, true, sn_NoFrame, sub_NoFrame, ab_NoFrame, col_NoFrame, dd_NoFrame, k0_NoFrame, k1_NoFrame, k2_NoFrame, k3_NoFrame, k5_NoFrame, x_NoFrame, t_NoFrame⟩⟩, a1, ty_NoFrame, kc_NoFrame⟩,
    ⟨sp_NoFrame, rd_NoFrame, fc_NoFrame, k1⟩,
    ⟨⟨nm_NoFrame, q_NoFrame, N_NoFrame, bs_NoFrame, bm_NoFrame, sn_NoFrame, sub_NoFrame, ab_NoFrame, col_NoFrame, dd_NoFrame, k0_NoFrame, k1_NoFrame, k2_NoFrame, k3_NoFrame, k5_NoFrame, x_NoFrame, rf_NoFrame, ob_NoFrame⟩, sa_NoFrame⟩,
    ⟨ga_NoFrame, hk_NoFrame, mr_NoFrame, hd_NoFrame⟩,
    ⟨⟨nm_NoFrame, q_NoFrame, N_NoFrame, bs_NoFrame, bm_NoFrame, true, sn_NoFrame, sub_NoFrame, ab_NoFrame, col_NoFrame, dd_NoFrame, k0_NoFrame, k1_NoFrame, k2_NoFrame, k3_NoFrame, k5_NoFrame, "ValueError.__new__", x_NoFrame, u_NoFrame_NoFrame⟩⟩,
    ⟨⟨nm_NoFrame, q_NoFrame, N_NoFrame, bs_NoFrame, bm_NoFrame, true, sn_NoFrame, sub_NoFrame, ab_NoFrame, col_NoFrame, dd_NoFrame, k0_NoFrame, k1_NoFrame, k2_NoFrame, k3_NoFrame, k5_NoFrame, "ValueError.__new__", x_NoFrame, u_NoFrame_RoomError⟩⟩,
    n_NoFrame_found,
    ⟨⟨ga_NoFrame, hk_NoFrame, mr_NoFrame, hd_NoFrame⟩, ca_NoFrame, gt_NoFrame, tk_NoFrame, mo_NoFrame⟩,
    kit_self,
    (kit_not ne_NoFrame_Gone hd_Gone tt_Gone mi_NoFrame_Gone),
    (kit_not ne_NoFrame_Ground hd_Ground tt_Ground mi_NoFrame_Ground),
    (kit_not ne_NoFrame_TooMany hd_TooMany tt_TooMany mi_NoFrame_TooMany),
    PySem.W.mg_of X G c_Gone,
    ⟨⟨⟨nm_Gone, q_Gone, N_Gone, bs_Gone, bm_Gone, true, sn_Gone, sub_Gone, ab_Gone, col_Gone, dd_Gone, k0_Gone, k1_Gone, k2_Gone, k3_Gone, k5_Gone, x_Gone, t_Gone⟩⟩, a2, ty_Gone, kc_Gone⟩,
    ⟨sp_Gone, rd_Gone, fc_Gone, k2⟩,
    ⟨⟨nm_Gone, q_Gone, N_Gone, bs_Gone, bm_Gone, sn_Gone, sub_Gone, ab_Gone, col_Gone, dd_Gone, k0_Gone, k1_Gone, k2_Gone, k3_Gone, k5_Gone, x_Gone, rf_Gone, ob_Gone⟩, sa_Gone⟩,
    ⟨ga_Gone, hk_Gone, mr_Gone, hd_Gone⟩,
    ⟨⟨nm_Gone, q_Gone, N_Gone, bs_Gone, bm_Gone, true, sn_Gone, sub_Gone, ab_Gone, col_Gone, dd_Gone, k0_Gone, k1_Gone, k2_Gone, k3_Gone, k5_Gone, "ValueError.__new__", x_Gone, u_Gone_Gone⟩⟩,
    ⟨⟨nm_Gone, q_Gone, N_Gone, bs_Gone, bm_Gone, true, sn_Gone, sub_Gone, ab_Gone, col_Gone, dd_Gone, k0_Gone, k1_Gone, k2_Gone, k3_Gone, k5_Gone, "ValueError.__new__", x_Gone, u_Gone_RoomError⟩⟩,
    n_Gone_by,
    n_Gone_found,
    ⟨⟨ga_Gone, hk_Gone, mr_Gone, hd_Gone⟩, ca_Gone, gt_Gone, tk_Gone, mo_Gone⟩,
    (kit_not ne_Gone_NoFrame hd_NoFrame tt_NoFrame mi_Gone_NoFrame),
    kit_self,
    (kit_not ne_Gone_Ground hd_Ground tt_Ground mi_Gone_Ground),
    (kit_not ne_Gone_TooMany hd_TooMany tt_TooMany mi_Gone_TooMany),
    PySem.W.mg_of X G c_Ground,
    ⟨⟨⟨nm_Ground, q_Ground, N_Ground, bs_Ground, bm_Ground, true, sn_Ground, sub_Ground, ab_Ground, col_Ground, dd_Ground, k0_Ground, k1_Ground, k2_Ground, k3_Ground, k5_Ground, x_Ground, t_Ground⟩⟩, a3, ty_Ground, kc_Ground⟩,
    ⟨sp_Ground, rd_Ground, fc_Ground, k3⟩,
    ⟨⟨nm_Ground, q_Ground, N_Ground, bs_Ground, bm_Ground, sn_Ground, sub_Ground, ab_Ground, col_Ground, dd_Ground, k0_Ground, k1_Ground, k2_Ground, k3_Ground, k5_Ground, x_Ground, rf_Ground, ob_Ground⟩, sa_Ground⟩,
    ⟨ga_Ground, hk_Ground, mr_Ground, hd_Ground⟩,
    ⟨⟨nm_Ground, q_Ground, N_Ground, bs_Ground, bm_Ground, true, sn_Ground, sub_Ground, ab_Ground, col_Ground, dd_Ground, k0_Ground, k1_Ground, k2_Ground, k3_Ground, k5_Ground, "ValueError.__new__", x_Ground, u_Ground_Ground⟩⟩,
    ⟨⟨nm_Ground, q_Ground, N_Ground, bs_Ground, bm_Ground, true, sn_Ground, sub_Ground, ab_Ground, col_Ground, dd_Ground, k0_Ground, k1_Ground, k2_Ground, k3_Ground, k5_Ground, "ValueError.__new__", x_Ground, u_Ground_RoomError⟩⟩,
    ⟨⟨ga_Ground, hk_Ground, mr_Ground, hd_Ground⟩, ca_Ground, gt_Ground, tk_Ground, mo_Ground⟩,
    (kit_not ne_Ground_NoFrame hd_NoFrame tt_NoFrame mi_Ground_NoFrame),
    (kit_not ne_Ground_Gone hd_Gone tt_Gone mi_Ground_Gone),
    kit_self,
    (kit_not ne_Ground_TooMany hd_TooMany tt_TooMany mi_Ground_TooMany),
    PySem.W.mg_of X G c_TooMany,
    ⟨⟨⟨nm_TooMany, q_TooMany, N_TooMany, bs_TooMany, bm_TooMany, true, sn_TooMany, sub_TooMany, ab_TooMany, col_TooMany, dd_TooMany, k0_TooMany, k1_TooMany, k2_TooMany, k3_TooMany, k5_TooMany, x_TooMany, t_TooMany⟩⟩, a4, ty_TooMany, kc_TooMany⟩,
    ⟨sp_TooMany, rd_TooMany, fc_TooMany, k4⟩,
    ⟨⟨nm_TooMany, q_TooMany, N_TooMany, bs_TooMany, bm_TooMany, sn_TooMany, sub_TooMany, ab_TooMany, col_TooMany, dd_TooMany, k0_TooMany, k1_TooMany, k2_TooMany, k3_TooMany, k5_TooMany, x_TooMany, rf_TooMany, ob_TooMany⟩, sa_TooMany⟩,
    ⟨ga_TooMany, hk_TooMany, mr_TooMany, hd_TooMany⟩,
    ⟨⟨nm_TooMany, q_TooMany, N_TooMany, bs_TooMany, bm_TooMany, true, sn_TooMany, sub_TooMany, ab_TooMany, col_TooMany, dd_TooMany, k0_TooMany, k1_TooMany, k2_TooMany, k3_TooMany, k5_TooMany, "ValueError.__new__", x_TooMany, u_TooMany_TooMany⟩⟩,
    ⟨⟨nm_TooMany, q_TooMany, N_TooMany, bs_TooMany, bm_TooMany, true, sn_TooMany, sub_TooMany, ab_TooMany, col_TooMany, dd_TooMany, k0_TooMany, k1_TooMany, k2_TooMany, k3_TooMany, k5_TooMany, "ValueError.__new__", x_TooMany, u_TooMany_RoomError⟩⟩,
    n_TooMany_many,
    ⟨⟨ga_TooMany, hk_TooMany, mr_TooMany, hd_TooMany⟩, ca_TooMany, gt_TooMany, tk_TooMany, mo_TooMany⟩,
    (kit_not ne_TooMany_NoFrame hd_NoFrame tt_NoFrame mi_TooMany_NoFrame),
    (kit_not ne_TooMany_Gone hd_Gone tt_Gone mi_TooMany_Gone),
    (kit_not ne_TooMany_Ground hd_Ground tt_Ground mi_TooMany_Ground),
    kit_self,
    PySem.W.mg_of X G c_Frames,
    ⟨pg_Frames, hd_Frames, po_Frames, sa_Frames⟩,
    ⟨mk_Frames, a7, i7, kc_Frames⟩,
    n_Frames_parents,
    n_Frames_takers,
    fun s v => .of_eq rfl,
    PySem.W.mg_none_of X G z_ValueError,
    PySem.W.mg_none_of X G z_bool,
    PySem.W.mg_none_of X G z_enumerate,
    PySem.W.mg_none_of X G z_int,
    PySem.W.mg_none_of X G z_isinstance,
    PySem.W.mg_none_of X G z_len,
    PySem.W.mg_none_of X G z_list,
    PySem.W.mg_none_of X G z_max,
    PySem.W.mg_none_of X G z_min,
    PySem.W.mg_none_of X G z_range,
    PySem.W.mg_none_of X G z_repr,
    PySem.W.mg_none_of X G z_reversed,
    ⟨_, ⟨_, rfl⟩, PySem.W.mg_of X G g_GROUND⟩,
    ⟨_, ⟨_, rfl⟩, PySem.W.mg_of X G g_MOST_FRAMES⟩⟩⟩
end My
open PySem PySem.W PyProof.Rows
set_option maxRecDepth 100000 in
set_option maxHeartbeats 0 in
theorem PySem.Challenge.cw_framerooms_k07_frames_refused_holds : PySem.Challenge.rw_framerooms_k07_frames_refused.Holds := by
  w_on
  refine holds_law (by decide +kernel) fun said => ?_
  refine holds_open (q := My.hdView) (loose := []) (Xt := fun s => xlAt My.hdView [] s && recOk (RowW.records PySem.Challenge.rw_framerooms_k07_frames_refused.row.toRowW) s) (XP := XL My.hdView []) (Yf := My.hdHook.obs) (Ya := My.hdHook.val) (YP := Hook.says (kHook My.hdHeap My.hdAs My.hdAs_ok)) My.hdLeft My.hdHook.of My.hdHook.keeps (fun s e => xl_of s (Bool.and_eq_true_iff.mp e).1) XL.keeps (by rfl) (by rfl) (by rfl) (fun s e => recFacts_of (Bool.and_eq_true_iff.mp e).2) (by rfl) said (by decide +kernel) ⟨rfl, rfl, rfl, rfl, rfl, by decide +kernel⟩ ?hw ?hc
  case hw => w_witness2
  k_fill
  refine My.walk (l := PySem.Challenge.rw_framerooms_k07_frames_refused) rfl rfl (fun w h Y => PySem.W.kIn_of Y) ?F
  case F =>
    intro w mg fa h KX G hmg
    refine' My.law_mk KX G hmg ?T
    refine' My.txt_mk KX G ?c_RoomError ?c_NoFrame ?c_Gone ?c_Ground ?c_TooMany ?c_Frames ?a0 ?i0 ?l0 ?c0 ?k0 ?a1 ?i1 ?l1 ?c1 ?k1 ?a2 ?i2 ?l2 ?c2 ?k2 ?a3 ?i3 ?l3 ?c3 ?k3 ?a4 ?i4 ?l4 ?c4 ?k4 ?a5 ?l5 ?c5 ?k5 ?a6 ?l6 ?c6 ?k6 ?a7 ?i7 ?l7 ?c7 ?k7 ?a8 ?i8 ?l8 ?c8 ?k8 ?a9 ?i9 ?l9 ?c9 ?k9 ?a10 ?i10 ?l10 ?c10 ?k10 ?a11 ?i11 ?l11 ?c11 ?k11 ?a12 ?i12 ?l12 ?c12 ?k12 ?a13 ?i13 ?l13 ?c13 ?k13 ?a14 ?i14 ?l14 ?c14 ?k14 ?a15 ?i15 ?l15 ?c15 ?k15 ?a16 ?i16 ?l16 ?c16 ?k16 ?a17 ?i17 ?l17 ?c17 ?k17 ?a18 ?i18 ?l18 ?c18 ?k18 ?a19 ?i19 ?l19 ?c19 ?k19 ?a20 ?i20 ?l20 ?c20 ?k20 ?a21 ?i21 ?l21 ?c21 ?k21 ?a22 ?i22 ?l22 ?c22 ?k22 ?a23 ?l23 ?c23 ?k23 ?a24 ?l24 ?c24 ?k24 ?a25 ?l25 ?c25 ?k25 ?a26 ?l26 ?c26 ?k26 ?a27 ?l27 ?c27 ?k27 ?a28 ?l28 ?c28 ?k28 ?a29 ?l29 ?c29 ?k29 ?a30 ?l30 ?c30 ?k30 ?a31 ?l31 ?c31 ?k31 ?a32 ?l32 ?c32 ?k32 ?a33 ?l33 ?c33 ?k33 ?a34 ?l34 ?c34 ?k34 ?a35 ?l35 ?c35 ?k35 ?a36 ?l36 ?c36 ?k36 ?a37 ?l37 ?c37 ?k37 ?a38 ?l38 ?c38 ?k38 ?a39 ?l39 ?c39 ?k39 ?a40 ?l40 ?c40 ?k40 ?x_RoomError ?t_RoomError ?ty_RoomError ?kc_RoomError ?sp_RoomError ?rd_RoomError ?fc_RoomError ?rf_RoomError ?ob_RoomError ?sa_RoomError ?ga_RoomError ?hk_RoomError ?mr_RoomError ?hd_RoomError ?u_RoomError_RoomError ?x_NoFrame ?t_NoFrame ?ty_NoFrame ?kc_NoFrame ?sp_NoFrame ?rd_NoFrame ?fc_NoFrame ?rf_NoFrame ?ob_NoFrame ?sa_NoFrame ?ga_NoFrame ?hk_NoFrame ?mr_NoFrame ?hd_NoFrame ?u_NoFrame_NoFrame ?u_NoFrame_RoomError ?n_NoFrame_found ?ca_NoFrame ?gt_NoFrame ?tk_NoFrame ?mo_NoFrame ?tt_NoFrame ?ne_NoFrame_Gone ?mi_NoFrame_Gone ?ne_NoFrame_Ground ?mi_NoFrame_Ground ?ne_NoFrame_TooMany ?mi_NoFrame_TooMany ?x_Gone ?t_Gone ?ty_Gone ?kc_Gone ?sp_Gone ?rd_Gone ?fc_Gone ?rf_Gone ?ob_Gone ?sa_Gone ?ga_Gone ?hk_Gone ?mr_Gone ?hd_Gone ?u_Gone_Gone ?u_Gone_RoomError ?n_Gone_by ?n_Gone_found ?ca_Gone ?gt_Gone ?tk_Gone ?mo_Gone ?ne_Gone_NoFrame ?mi_Gone_NoFrame ?tt_Gone ?ne_Gone_Ground ?mi_Gone_Ground ?ne_Gone_TooMany ?mi_Gone_TooMany ?x_Ground ?t_Ground ?ty_Ground ?kc_Ground ?sp_Ground ?rd_Ground ?fc_Ground ?rf_Ground ?ob_Ground ?sa_Ground ?ga_Ground ?hk_Ground ?mr_Ground ?hd_Ground ?u_Ground_Ground ?u_Ground_RoomError ?ca_Ground ?gt_Ground ?tk_Ground ?mo_Ground ?ne_Ground_NoFrame ?mi_Ground_NoFrame ?ne_Ground_Gone ?mi_Ground_Gone ?tt_Ground ?ne_Ground_TooMany ?mi_Ground_TooMany ?x_TooMany ?t_TooMany ?ty_TooMany ?kc_TooMany ?sp_TooMany ?rd_TooMany ?fc_TooMany ?rf_TooMany ?ob_TooMany ?sa_TooMany ?ga_TooMany ?hk_TooMany ?mr_TooMany ?hd_TooMany ?u_TooMany_TooMany ?u_TooMany_RoomError ?n_TooMany_many ?ca_TooMany ?gt_TooMany ?tk_TooMany ?mo_TooMany ?ne_TooMany_NoFrame ?mi_TooMany_NoFrame ?ne_TooMany_Gone ?mi_TooMany_Gone ?ne_TooMany_Ground ?mi_TooMany_Ground ?tt_TooMany ?pg_Frames ?hd_Frames ?po_Frames ?sa_Frames ?mk_Frames ?kc_Frames ?n_Frames_parents ?n_Frames_takers ?z_ValueError ?z_bool ?z_enumerate ?z_int ?z_isinstance ?z_len ?z_list ?z_max ?z_min ?z_range ?z_repr ?z_reversed ?g_GROUND ?g_MOST_FRAMES
    (case c_RoomError => k_is)
    (case c_NoFrame => k_is)
    (case c_Gone => k_is)
    (case c_Ground => k_is)
    (case c_TooMany => k_is)
    (case c_Frames => k_is)
    (case a0 => k_is)
    (case i0 => k_is)
    (case l0 => k_is)
    (case c0 => k_is)
    (case k0 => k_is)
    (case a1 => k_is)
    (case i1 => k_is)
    (case l1 => k_is)
    (case c1 => k_is)
    (case k1 => k_is)
    (case a2 => k_is)
    (case i2 => k_is)
    (case l2 => k_is)
    (case c2 => k_is)
    (case k2 => k_is)
    (case a3 => k_is)
    (case i3 => k_is)
    (case l3 => k_is)
    (case c3 => k_is)
    (case k3 => k_is)
    (case a4 => k_is)
    (case i4 => k_is)
    (case l4 => k_is)
    (case c4 => k_is)
    (case k4 => k_is)
    (case a5 => k_is)
    (case l5 => k_is)
    (case c5 => k_is)
    (case k5 => k_is)
    (case a6 => k_is)
    (case l6 => k_is)
    (case c6 => k_is)
    (case k6 => k_is)
    (case a7 => k_is)
    (case i7 => k_is)
    (case l7 => k_is)
    (case c7 => k_is)
    (case k7 => k_is)
    (case a8 => k_is)
    (case i8 => k_is)
    (case l8 => k_is)
    (case c8 => k_is)
    (case k8 => k_is)
    (case a9 => k_is)
    (case i9 => k_is)
    (case l9 => k_is)
    (case c9 => k_is)
    (case k9 => k_is)
    (case a10 => k_is)
    (case i10 => k_is)
    (case l10 => k_is)
    (case c10 => k_is)
    (case k10 => k_is)
    (case a11 => k_is)
    (case i11 => k_is)
    (case l11 => k_is)
    (case c11 => k_is)
    (case k11 => k_is)
    (case a12 => k_is)
    (case i12 => k_is)
    (case l12 => k_is)
    (case c12 => k_is)
    (case k12 => k_is)
    (case a13 => k_is)
    (case i13 => k_is)
    (case l13 => k_is)
    (case c13 => k_is)
    (case k13 => k_is)
    (case a14 => k_is)
    (case i14 => k_is)
    (case l14 => k_is)
    (case c14 => k_is)
    (case k14 => k_is)
    (case a15 => k_is)
    (case i15 => k_is)
    (case l15 => k_is)
    (case c15 => k_is)
    (case k15 => k_is)
    (case a16 => k_is)
    (case i16 => k_is)
    (case l16 => k_is)
    (case c16 => k_is)
    (case k16 => k_is)
    (case a17 => k_is)
    (case i17 => k_is)
    (case l17 => k_is)
    (case c17 => k_is)
    (case k17 => k_is)
    (case a18 => k_is)
    (case i18 => k_is)
    (case l18 => k_is)
    (case c18 => k_is)
    (case k18 => k_is)
    (case a19 => k_is)
    (case i19 => k_is)
    (case l19 => k_is)
    (case c19 => k_is)
    (case k19 => k_is)
    (case a20 => k_is)
    (case i20 => k_is)
    (case l20 => k_is)
    (case c20 => k_is)
    (case k20 => k_is)
    (case a21 => k_is)
    (case i21 => k_is)
    (case l21 => k_is)
    (case c21 => k_is)
    (case k21 => k_is)
    (case a22 => k_is)
    (case i22 => k_is)
    (case l22 => k_is)
    (case c22 => k_is)
    (case k22 => k_is)
    (case a23 => k_is)
    (case l23 => k_is)
    (case c23 => k_is)
    (case k23 => k_is)
    (case a24 => k_is)
    (case l24 => k_is)
    (case c24 => k_is)
    (case k24 => k_is)
    (case a25 => k_is)
    (case l25 => k_is)
    (case c25 => k_is)
    (case k25 => k_is)
    (case a26 => k_is)
    (case l26 => k_is)
    (case c26 => k_is)
    (case k26 => k_is)
    (case a27 => k_is)
    (case l27 => k_is)
    (case c27 => k_is)
    (case k27 => k_is)
    (case a28 => k_is)
    (case l28 => k_is)
    (case c28 => k_is)
    (case k28 => k_is)
    (case a29 => k_is)
    (case l29 => k_is)
    (case c29 => k_is)
    (case k29 => k_is)
    (case a30 => k_is)
    (case l30 => k_is)
    (case c30 => k_is)
    (case k30 => k_is)
    (case a31 => k_is)
    (case l31 => k_is)
    (case c31 => k_is)
    (case k31 => k_is)
    (case a32 => k_is)
    (case l32 => k_is)
    (case c32 => k_is)
    (case k32 => k_is)
    (case a33 => k_is)
    (case l33 => k_is)
    (case c33 => k_is)
    (case k33 => k_is)
    (case a34 => k_is)
    (case l34 => k_is)
    (case c34 => k_is)
    (case k34 => k_is)
    (case a35 => k_is)
    (case l35 => k_is)
    (case c35 => k_is)
    (case k35 => k_is)
    (case a36 => k_is)
    (case l36 => k_is)
    (case c36 => k_is)
    (case k36 => k_is)
    (case a37 => k_is)
    (case l37 => k_is)
    (case c37 => k_is)
    (case k37 => k_is)
    (case a38 => k_is)
    (case l38 => k_is)
    (case c38 => k_is)
    (case k38 => k_is)
    (case a39 => k_is)
    (case l39 => k_is)
    (case c39 => k_is)
    (case k39 => k_is)
    (case a40 => k_is)
    (case l40 => k_is)
    (case c40 => k_is)
    (case k40 => k_is)
    (case x_RoomError => k_is)
    (case t_RoomError => exact ⟨rfl, rfl, rfl, rfl⟩)
    (case ty_RoomError => k_is)
    (case kc_RoomError => k_is)
    (case sp_RoomError => k_is)
    (case rd_RoomError => k_is)
    (case fc_RoomError => k_is)
    (case rf_RoomError => (intro self; (repeat rw [refuseLoop_ref]); exact L2.refuse_value self))
    (case ob_RoomError => rfl)
    (case sa_RoomError => k_is)
    (case ga_RoomError => k_is)
    (case hk_RoomError => k_is)
    (case mr_RoomError => k_is)
    (case hd_RoomError => k_is)
    (case u_RoomError_RoomError => rfl)
    (case x_NoFrame => k_is)
    (case t_NoFrame => exact ⟨rfl, rfl, rfl, rfl⟩)
    (case ty_NoFrame => k_is)
    (case kc_NoFrame => k_is)
    (case sp_NoFrame => k_is)
    (case rd_NoFrame => k_is)
    (case fc_NoFrame => k_is)
    (case rf_NoFrame => (intro self; (repeat rw [refuseLoop_ref]); exact L2.refuse_value self))
    (case ob_NoFrame => rfl)
    (case sa_NoFrame => k_is)
    (case ga_NoFrame => k_is)
    (case hk_NoFrame => k_is)
    (case mr_NoFrame => k_is)
    (case hd_NoFrame => k_is)
    (case u_NoFrame_NoFrame => rfl)
    (case u_NoFrame_RoomError => rfl)
    (case n_NoFrame_found => k_is)
    (case ca_NoFrame => k_is)
    (case gt_NoFrame => k_is)
    (case tk_NoFrame => k_is)
    (case mo_NoFrame => k_is)
    (case tt_NoFrame => k_is)
    (case ne_NoFrame_Gone => first | rfl | decide +kernel)
    (case mi_NoFrame_Gone => k_is)
    (case ne_NoFrame_Ground => first | rfl | decide +kernel)
    (case mi_NoFrame_Ground => k_is)
    (case ne_NoFrame_TooMany => first | rfl | decide +kernel)
    (case mi_NoFrame_TooMany => k_is)
    (case x_Gone => k_is)
    (case t_Gone => exact ⟨rfl, rfl, rfl, rfl⟩)
    (case ty_Gone => k_is)
    (case kc_Gone => k_is)
    (case sp_Gone => k_is)
    (case rd_Gone => k_is)
    (case fc_Gone => k_is)
    (case rf_Gone => (intro self; (repeat rw [refuseLoop_ref]); exact L2.refuse_value self))
    (case ob_Gone => rfl)
    (case sa_Gone => k_is)
    (case ga_Gone => k_is)
    (case hk_Gone => k_is)
    (case mr_Gone => k_is)
    (case hd_Gone => k_is)
    (case u_Gone_Gone => rfl)
    (case u_Gone_RoomError => rfl)
    (case n_Gone_by => k_is)
    (case n_Gone_found => k_is)
    (case ca_Gone => k_is)
    (case gt_Gone => k_is)
    (case tk_Gone => k_is)
    (case mo_Gone => k_is)
    (case ne_Gone_NoFrame => first | rfl | decide +kernel)
    (case mi_Gone_NoFrame => k_is)
    (case tt_Gone => k_is)
    (case ne_Gone_Ground => first | rfl | decide +kernel)
    (case mi_Gone_Ground => k_is)
    (case ne_Gone_TooMany => first | rfl | decide +kernel)
    (case mi_Gone_TooMany => k_is)
    (case x_Ground => k_is)
    (case t_Ground => exact ⟨rfl, rfl, rfl, rfl⟩)
    (case ty_Ground => k_is)
    (case kc_Ground => k_is)
    (case sp_Ground => k_is)
    (case rd_Ground => k_is)
    (case fc_Ground => k_is)
    (case rf_Ground => (intro self; (repeat rw [refuseLoop_ref]); exact L2.refuse_value self))
    (case ob_Ground => rfl)
    (case sa_Ground => k_is)
    (case ga_Ground => k_is)
    (case hk_Ground => k_is)
    (case mr_Ground => k_is)
    (case hd_Ground => k_is)
    (case u_Ground_Ground => rfl)
    (case u_Ground_RoomError => rfl)
    (case ca_Ground => k_is)
    (case gt_Ground => k_is)
    (case tk_Ground => k_is)
    (case mo_Ground => k_is)
    (case ne_Ground_NoFrame => first | rfl | decide +kernel)
    (case mi_Ground_NoFrame => k_is)
    (case ne_Ground_Gone => first | rfl | decide +kernel)
    (case mi_Ground_Gone => k_is)
    (case tt_Ground => k_is)
    (case ne_Ground_TooMany => first | rfl | decide +kernel)
    (case mi_Ground_TooMany => k_is)
    (case x_TooMany => k_is)
    (case t_TooMany => exact ⟨rfl, rfl, rfl, rfl⟩)
    (case ty_TooMany => k_is)
    (case kc_TooMany => k_is)
    (case sp_TooMany => k_is)
    (case rd_TooMany => k_is)
    (case fc_TooMany => k_is)
    (case rf_TooMany => (intro self; (repeat rw [refuseLoop_ref]); exact L2.refuse_value self))
    (case ob_TooMany => rfl)
    (case sa_TooMany => k_is)
    (case ga_TooMany => k_is)
    (case hk_TooMany => k_is)
    (case mr_TooMany => k_is)
    (case hd_TooMany => k_is)
    (case u_TooMany_TooMany => rfl)
    (case u_TooMany_RoomError => rfl)
    (case n_TooMany_many => k_is)
    (case ca_TooMany => k_is)
    (case gt_TooMany => k_is)
    (case tk_TooMany => k_is)
    (case mo_TooMany => k_is)
    (case ne_TooMany_NoFrame => first | rfl | decide +kernel)
    (case mi_TooMany_NoFrame => k_is)
    (case ne_TooMany_Gone => first | rfl | decide +kernel)
    (case mi_TooMany_Gone => k_is)
    (case ne_TooMany_Ground => first | rfl | decide +kernel)
    (case mi_TooMany_Ground => k_is)
    (case tt_TooMany => k_is)
    (case pg_Frames => k_is)
    (case hd_Frames => k_is)
    (case po_Frames => k_is)
    (case sa_Frames => k_is)
    (case mk_Frames => k_is)
    (case kc_Frames => k_is)
    (case n_Frames_parents => k_is)
    (case n_Frames_takers => k_is)
    (case z_ValueError => k_is)
    (case z_bool => k_is)
    (case z_enumerate => k_is)
    (case z_int => k_is)
    (case z_isinstance => k_is)
    (case z_len => k_is)
    (case z_list => k_is)
    (case z_max => k_is)
    (case z_min => k_is)
    (case z_range => k_is)
    (case z_repr => k_is)
    (case z_reversed => k_is)
    (case g_GROUND => k_is)
    (case g_MOST_FRAMES => k_is)
